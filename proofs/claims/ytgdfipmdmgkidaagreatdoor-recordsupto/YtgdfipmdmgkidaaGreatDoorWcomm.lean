import Derived.Test.YtgdfipmdmgkidaaGreatDoorWids
import Derived.Deep.QuietTactic
import Derived.BigQuiet
import Derived.Test.YtgdfipmdmgkidaaGreatDoorWsize
import Derived.Test.YtgdfipmdmgkidaaGreatDoorAl
set_option linter.all false
set_option maxHeartbeats 4000000
set_option maxRecDepth 100000
namespace Go.Proofs.YtgdfipmdmgkidaaGreatDoor
open Go.RowKit
theorem rF{w:World}{b o:Nat}{a:ByteArray}{T:List ByteArray}(z:∀k,k<(a::T).length->w.cell? ⟨b,o+1+k,none⟩=some (.string ((a::T).getD k ByteArray.empty))):w.cell? ⟨b,o+1,none⟩=some (.string a):=z 0 (by simp)
theorem aQt(t:ByteArray)(J:yR t)(R:List ByteArray)(b o cap:Nat)(w:World)(K:w.cell? ⟨b,o,none⟩=some (.string t))(E:∀k,k<R.length->w.cell? ⟨b,o+1+k,none⟩=some (.string (R.getD k ByteArray.empty)))(z:R.length<=1000000)(I:∀l∈R,l.size<=100000):
  Calls Tryz.prog 139 #[.slice (some ⟨b,o,none⟩) (R.length+1) cap] w λe w'=>e=.returned (.bool R.isEmpty)/\Below w.heap.size w w':=by
 match R,E,z,I with
 | [],_,_,_=>
  rcases J with rfl|rfl|rfl|rfl
  all_goals
   go_enter Tryz.func139,Tryz.ntmps139;go_wp2;go_ret;exact⟨rfl,Below.refl _ _⟩
 | a::T,E,z,I=>
  have U:=rF E;have has:a.size<=maxLen:=by have:=I a (by simp);unfold maxLen;omega
  simp only[aY] at z ⊢;clear E I;generalize T.length=n at *;have W:(((n+1+1:Nat):Int) == 0)=false:=by rw[beq_eq_false_iff_ne];omega
  have V:(((n+1+1:Nat):Int) == 1)=false:=by rw[beq_eq_false_iff_ne];omega
  rcases J with rfl|rfl|rfl|rfl
  all_goals
   go_enter Tryz.func139,Tryz.ntmps139
   go_wp2_with (go_at_call 202;refine(kG _ _ has).mono ?_;rintro e w' ⟨rfl,rfl⟩)
   go_ret;exact⟨cB (by simp;omega),Below.refl _ _⟩
theorem aT0(t:ByteArray)(K:aIg t)(R:List ByteArray)(b o cap:Nat)(w:World)(U:w.cell? ⟨b,o,none⟩=some (.string t))(z:∀k,k<R.length->w.cell? ⟨b,o+1+k,none⟩=some (.string (R.getD k ByteArray.empty)))(I:R.length<=1000000)(E:∀l∈R,l.size<=100000):
  Calls Tryz.prog 139 #[.slice (some ⟨b,o,none⟩) (R.length+1) cap] w λe w'=>e=.returned (.bool (aU0 R))/\Below w.heap.size w w':=by
 match R,z,I,E with
 | [],_,_,_=>
  rcases K with rfl|rfl|rfl|rfl
  all_goals
   go_enter Tryz.func139,Tryz.ntmps139;go_wp2;go_ret;exact⟨rfl,Below.refl _ _⟩
 | [a],z,I,E=>
  have J:=rF z;have has:a.size<=maxLen:=by have:=E a (by simp);unfold maxLen;omega
  clear z E;rcases K with rfl|rfl|rfl|rfl
  all_goals
   go_enter Tryz.func139,Tryz.ntmps139
   go_wp2_with (go_at_call 202;refine(kG _ _ has).mono ?_;rintro e w' ⟨rfl,rfl⟩)
   go_ret;exact⟨rfl,Below.refl _ _⟩
 | a::c::T,z,I,E=>
  have J:=rF z;have has:a.size<=maxLen:=by have:=E a (by simp);unfold maxLen;omega
  have e:aU0 (a::c::T)=false:=rfl;rw[e];simp only[aY] at I ⊢;clear z E e;generalize T.length=n at *;have W:(((n+1+1+1:Nat):Int) == 0)=false:=by rw[beq_eq_false_iff_ne];omega
  have V:(((n+1+1+1:Nat):Int) == 2)=false:=by rw[beq_eq_false_iff_ne];omega
  rcases K with rfl|rfl|rfl|rfl
  all_goals
   go_enter Tryz.func139,Tryz.ntmps139
   go_wp2_with (go_at_call 202;refine(kG _ _ has).mono ?_;rintro e w' ⟨rfl,rfl⟩)
   go_ret;exact⟨rfl,Below.refl _ _⟩
theorem aNj(t:ByteArray)(U:aGt t)(R:List ByteArray)(b o cap:Nat)(w:World)(J:w.cell? ⟨b,o,none⟩=some (.string t))(E:∀k,k<R.length->w.cell? ⟨b,o+1+k,none⟩=some (.string (R.getD k ByteArray.empty)))(z:R.length<=1000000)(I:∀l∈R,l.size<=100000):
  Calls Tryz.prog 139 #[.slice (some ⟨b,o,none⟩) (R.length+1) cap] w λe w'=>e=.returned (.bool false)/\Below w.heap.size w w':=by
 obtain⟨V,W,Y,Z,he,hf,hg,hh,hi,hj⟩:=U
 match R,E,z,I with
 | [],_,_,_=>
  go_enter Tryz.func139,Tryz.ntmps139;go_wp2;go_ret;exact⟨rfl,Below.refl _ _⟩
 | a::T,E,z,I=>
  have K:=rF E;have has:a.size<=maxLen:=by have:=I a (by simp);unfold maxLen;omega
  simp only[aY] at z ⊢;clear E I;generalize T.length=n at *;have hl:(((n+1+1:Nat):Int) == 0)=false:=by rw[beq_eq_false_iff_ne];omega
  go_enter Tryz.func139,Tryz.ntmps139
  go_wp2_with (go_at_call 202;refine(kG _ _ has).mono ?_;rintro e w' ⟨rfl,rfl⟩)
  go_ret;exact⟨rfl,Below.refl _ _⟩
theorem aQu(R:List ByteArray)(b o cap:Nat)(w:World)(a1:w.cell? ⟨b,o,none⟩=some (.string yW))(z:∀k,k<R.length->w.cell? ⟨b,o+1+k,none⟩=some (.string (R.getD k ByteArray.empty)))(I:R.length<=1000000)(E:∀l∈R,l.size<=100000):
  Calls Tryz.prog 139 #[.slice (some ⟨b,o,none⟩) (R.length+1) cap] w λe w'=>e=.returned (.bool (yS R))/\Below w.heap.size w w':=by
 match R,z,I,E with
 | [],_,_,_=>
  go_enter Tryz.func139,Tryz.ntmps139;go_wp2;go_ret;exact⟨rfl,Below.refl _ _⟩
 | [a],z,I,E=>
  have V:=rF z;have has:a.size<=maxLen:=by have:=E a (by simp);unfold maxLen;omega
  clear z E;go_enter Tryz.func139,Tryz.ntmps139
  go_wp2_with fail
  refine(kG _ _ has).mono ?_;rintro e w' ⟨rfl,rfl⟩
  go_wp2_with fail
  refine(aG4 _ _).mono ?_;rintro e w' ⟨r,rfl,W,rfl⟩;have K:=aO W;clear W;by_cases U:0<=r
  ·have J:Hid (mL a=true):=K.out.1 U;go_wp2;go_ret;exact⟨cB J.out.symm,Below.refl _ _⟩
  ·have J:Hid (mL a=false):=by show _=_;cases h:mL a;rfl;exact absurd (K.out.2 h) U
   go_wp2;go_ret;exact⟨cB J.out.symm,Below.refl _ _⟩
 | [a,c],z,I,E=>
  have V:=rF z;have Y:w.cell? ⟨b,o+1+1,none⟩=some (.string c):=z 1 (by simp);have a0:w.cell? ⟨b,o+2,none⟩=some (.string c):=Y;have has:a.size<=maxLen:=by have:=E a (by simp);unfold maxLen;omega
  have Z:c.size<=maxLen:=by have:=E c (by simp);unfold maxLen;omega
  clear z E;go_enter Tryz.func139,Tryz.ntmps139
  go_wp2_with fail
  refine(kG _ _ has).mono ?_;rintro e w' ⟨rfl,rfl⟩
  go_wp2_with fail
  refine(aG4 _ _).mono ?_;rintro e w' ⟨r,rfl,W,rfl⟩;have K:=aO W;clear W
  go_wp2_with fail
  refine(kG _ _ Z).mono ?_;rintro e w' ⟨rfl,rfl⟩;by_cases U:0<=r
  ·have J:Hid (mL a=true):=K.out.1 U;go_wp2;go_ret;exact⟨cB (by show _=(mL a && idB c);rw[J.out];rfl),Below.refl _ _⟩
  ·have J:Hid (mL a=false):=by show _=_;cases h:mL a;rfl;exact absurd (K.out.2 h) U
   go_wp2;go_ret;exact⟨cB (by show _=(mL a && idB c);rw[J.out];rfl),Below.refl _ _⟩
 | a::c::d::T,z,I,E=>
  have V:=rF z;have has:a.size<=maxLen:=by have:=E a (by simp);unfold maxLen;omega
  have e:yS (a::c::d::T)=false:=rfl;rw[e];simp only[aY] at I ⊢;clear z E e;generalize T.length=n at *;have hl:(((n+1+1+1+1:Nat):Int) == 0)=false:=by rw[beq_eq_false_iff_ne];omega
  go_enter Tryz.func139,Tryz.ntmps139
  go_wp2_with (go_at_call 202;refine(kG _ _ has).mono ?_;rintro e w' ⟨rfl,rfl⟩)
  go_ret;exact⟨rfl,Below.refl _ _⟩
theorem aKu(R:List ByteArray)(b o cap:Nat)(w:World)(a1:w.cell? ⟨b,o,none⟩=some (.string mS))(z:∀k,k<R.length->w.cell? ⟨b,o+1+k,none⟩=some (.string (R.getD k ByteArray.empty)))(E:R.length<=1000000)(I:∀l∈R,l.size<=100000):
  Calls Tryz.prog 139 #[.slice (some ⟨b,o,none⟩) (R.length+1) cap] w λe w'=>e=.returned (.bool (aPj R))/\Below w.heap.size w w':=by
 match R,z,E,I with
 | [],_,_,_=>
  go_enter Tryz.func139,Tryz.ntmps139;go_wp2;refine wp_loop_rounds 1 ?_;rw[rounds_succ];go_wp2;go_ret;exact⟨rfl,Below.refl _ _⟩
 | a::T,z,E,I=>
  have a2:=rF z;have K:∀k,k<T.length->w.cell? ⟨b,o+(k+2),none⟩=some (.string (T.getD k ByteArray.empty)):=λk hk=>by
   have:=z (k+1) (by simpa using hk);rw[show o+(k+2)=o+1+(k+1) by omega];simpa using this
  have has:a.size<=maxLen:=by have:=I a (by simp);unfold maxLen;omega
  have U:∀l∈T,l.size<=100000:=λl hl=>I l (by simp[hl]);simp only[aY] at E ⊢;clear z I;have hl:(((T.length+1+1:Nat):Int) == 0)=false:=by rw[beq_eq_false_iff_ne];omega
  go_enter Tryz.func139,Tryz.ntmps139
  go_wp2_with fail
  refine(kG _ _ has).mono ?_;rintro e w' ⟨rfl,rfl⟩;have Y:Hid (aPj (a::T)=(idB a && T.all dJ)):=rfl;generalize idB a=V at *;go_wp2
  go_loopw [3,4] (λd i wr=>∃(k q:Nat) (x:Bool),k<=T.length/\i=.int .i64 ((k:Int)+2)/\d=.bool x/\Hid (x=(V && (T.take k).all dJ))/\wr=w'.drewN q) (λ_ i _=>T.length+2 - (intOf i).toNat)
  case atStart=>exact⟨0,0,V,aE _,rfl,rfl,by show _=_;simp,rfl⟩
  case round=>
   obtain⟨k,q,x,hk,rfl,rfl,HX,rfl⟩:=hrel;by_cases J:k<T.length
   ·have a0:=K k J;have Z:Hid (T.getD k ByteArray.empty=T[k]):=by show _=_;rw[aQ,aC J];rfl
    have a3:(T.getD k ByteArray.empty).size<=100000:=by rw[Z.out];exact U _ (bZ J)
    generalize T.getD k ByteArray.empty=t at *;have W:Hid (((T.take k).all dJ && dJ t)=(T.take (k+1)).all dJ):=by
     show _=_;rw[aF J,List.all_append,<- Z.out];simp
    clear Z K U
    cases x
    all_goals
     go_wp2_with (go_at_call 164;refine(wJ t _ (by omega)).mono ?_;rintro e w2 ⟨rfl,q2,rfl⟩)
     go_roundw
     case rel=>exact⟨k+1,q+q2,_,by omega,by go_num,rfl,by have h:=HX.out;show _=_;rw[<- W.out,<- Bool.and_assoc,<- h];rfl,rfl⟩
     case measure=>simp[intOf];omega
   ·have e:k=T.length:=by omega
    have HF:Hid (aPj (a::T)=x):=by have h:=HX.out;rw[e,bD] at h;show _=_;rw[Y.out,h]
    clear e K U HX;go_wp2;go_ret;exact⟨cB HF.out.symm,below_drewN (Below.refl _ _) q⟩
def tQ:List ByteArray->Bool
 | []=>false
 | t::R=>if t=mS then aPj R else if t=aCu\/t=wS\/t=aPy\/t=aYm then aU0 R else if t=yW then yS R else if t=aE0\/t=bAd\/t=bAc\/t=aSd then R.isEmpty else false
theorem vY(R:List ByteArray):tQ (mS::R)=aPj R:=by rw[tQ,if_pos rfl]
theorem aFo{t:ByteArray}(h:aIg t)(R:List ByteArray):tQ (t::R)=aU0 R:=by
 rw[tQ];rw[if_neg (by rcases h with rfl|rfl|rfl|rfl<;>decide)];exact if_pos h
theorem aBx(R:List ByteArray):tQ (yW::R)=yS R:=by
 rw[tQ];rw[if_neg (by decide),if_neg (by decide),if_pos rfl]
theorem aBw{t:ByteArray}(h:yR t)(R:List ByteArray):tQ (t::R)=R.isEmpty:=by
 rw[tQ];rw[if_neg (by rcases h with rfl|rfl|rfl|rfl<;>decide),if_neg (by rcases h with rfl|rfl|rfl|rfl<;>decide),if_neg (by rcases h with rfl|rfl|rfl|rfl<;>decide)];exact if_pos h
theorem aPc{t:ByteArray}{l:List UInt8}(h:(t.toList == l)=false):t≠⟨l.toArray⟩:=by
 intro e;rw[e,kA] at h;simp at h
theorem aFp{t:ByteArray}(h:aGt t)(R:List ByteArray):tQ (t::R)=false:=by
 have n:∀{l:List UInt8},(t.toList == l)=false->t≠⟨l.toArray⟩:=λh=>aPc h;rw[tQ];rw[if_neg (n h.a),if_neg,if_neg (n h.f),if_neg]
 ·rintro(e|e|e|e)
  ·exact n h.g e
  ·exact n h.h e
  ·exact n h.i e
  ·exact n h.j e
 ·rintro(e|e|e|e)
  ·exact n h.b e
  ·exact n h.c e
  ·exact n h.d e
  ·exact n h.e e
theorem aHl{w:World}{z:Option Addr}{t:ByteArray}{R:List ByteArray}(h:gD w z (t::R)):
  ∃b o,z=some ⟨b,o,none⟩/\b<w.heap.size/\w.cell? ⟨b,o,none⟩=some (.string t)/\∀k,k<R.length->w.cell? ⟨b,o+1+k,none⟩=some (.string (R.getD k ByteArray.empty)):=by
 rcases h with h|⟨b,o,rfl,I,E⟩
 ·simp at h
 ·refine⟨b,o,rfl,I,E 0 (by simp),λk J=>?_⟩;have:=E (k+1) (by simpa using J);rw[show o+1+k=o+(k+1) by omega];simpa using this
theorem aI1(L:List ByteArray)(K:Option Addr)(cap:Nat)(w:World)(hv:gD w K L)(z:L.length<=cap)(I:L.length<=1000000):
  Calls Tryz.prog 65 #[.slice K L.length cap] w λe w'=>e=.returned (.bool (tQ L))/\Below w.heap.size w w':=by
 match L,hv,z,I with
 | [],_,_,_=>exact aNg K cap w
 | t::R,hv,z,I=>
  obtain⟨b,o,rfl,U,E,J⟩:=aHl hv;simp only[aY] at z I ⊢;rcases aCv t with h|h|h|h|h
  ·subst h;rw[vY];exact aKt R b o cap w U E J z (by omega)
  ·rw[aFo h];exact aTz t h R b o cap w E J z (by omega)
  ·subst h;rw[aBx];exact aQs R b o cap w U E J z (by omega)
  ·rw[aBw h];exact aQr t h R b o cap w E z (by omega)
  ·rw[aFp h];exact aNh t h R.length b o cap w E z (by omega)
theorem aNi(z:Option Addr)(cap:Nat)(w:World):Calls Tryz.prog 139 #[.slice z 0 cap] w λe w'=>e=.returned (.bool false)/\Below w.heap.size w w':=by
 go_enter Tryz.func139,Tryz.ntmps139;go_wp2;go_ret;exact⟨rfl,Below.refl _ _⟩
theorem aI2(L:List ByteArray)(U:Option Addr)(cap:Nat)(w:World)(hv:gD w U L)(I:L.length<=1000000)(K:∀l∈L,l.size<=100000):
  Calls Tryz.prog 139 #[.slice U L.length cap] w λe w'=>e=.returned (.bool (tQ L))/\Below w.heap.size w w':=by
 match L,hv,I,K with
 | [],_,_,_=>exact aNi U cap w
 | t::R,hv,I,K=>
  obtain⟨b,o,rfl,W,z,E⟩:=aHl hv;have J:∀l∈R,l.size<=100000:=λl V=>K l (by simp[V]);simp only[aY] at I ⊢;rcases aCv t with h|h|h|h|h
  ·subst h;rw[vY];exact aKu R b o cap w z E (by omega) J
  ·rw[aFo h];exact aT0 t h R b o cap w z E (by omega) J
  ·subst h;rw[aBx];exact aQu R b o cap w z E (by omega) J
  ·rw[aBw h];exact aQt t h R b o cap w z E (by omega) J
  ·rw[aFp h];exact aNj t h R b o cap w z E (by omega) J
def bl(x y:ByteArray):Bool:=Op.bytesLess x.toList y.toList
def ins(x:ByteArray):List ByteArray->List ByteArray
 | []=>[x]
 | y::r=>if bl x y=true then x::y::r else y::ins x r
theorem aOf{x:ByteArray}{p r:List ByteArray}(h:∀a∈p,bl x a=false):ins x (p++r)=p++ins x r:=by
 induction p with
 | nil=>rfl
 | cons a p ih=>
  rw[cI,ins,if_neg (by rw[h a (by simp)];simp),ih (λb z=>h b (by simp[z]))];rfl
theorem aXf{x y:ByteArray}{p:List ByteArray}(h:p.any (bl x)=true):ins x (p++[y])=ins x p++[y]:=by
 induction p with
 | nil=>simp at h
 | cons a p ih=>
  rw[cI,ins,ins];by_cases z:bl x a=true
  ·rw[if_pos z,if_pos z];rfl
  ·rw[if_neg z,if_neg z,ih (by simpa[z] using h)];rfl
theorem aK9(x:ByteArray)(l:List ByteArray):(ins x l).length=l.length+1:=by
 induction l with
 | nil=>rfl
 | cons a l ih=>
  rw[ins];split
  ·rfl
  ·simp[ih]
def mK(x:ByteArray)(out:List ByteArray)(j:Nat):List ByteArray:=if (out.take j).any (bl x)=true then ins x (out.take j) else out.take j
theorem aXe{x:ByteArray}{out:List ByteArray}{j:Nat}(z:j<out.length)(h:(out.take j).any (bl x)=true):mK x out (j+1)=mK x out j++[out[j]]/\(out.take (j+1)).any (bl x)=true:=by
 have h2:(out.take (j+1)).any (bl x)=true:=by rw[aF z,vK,h];rfl
 refine⟨?_,h2⟩;unfold mK;rw[if_pos h,if_pos h2,aF z,aXf h]
theorem aS9{x:ByteArray}{p:List ByteArray}(h:p.any (bl x)=false):∀a∈p,bl x a=false:=by
 intro a z;rw[List.any_eq_false] at h;simpa using h a z
theorem aUg{x:ByteArray}{out:List ByteArray}{j:Nat}(E:j<out.length)(h:(out.take j).any (bl x)=false)(z:bl x out[j]=true):mK x out (j+1)=mK x out j++[x]++[out[j]]/\(out.take (j+1)).any (bl x)=true:=by
 have h2:(out.take (j+1)).any (bl x)=true:=by rw[aF E,vK];simp[z]
 refine⟨?_,h2⟩;unfold mK;rw[if_pos h2,if_neg (by rw[h];simp),aF E,aOf (aS9 h),ins,if_pos z];simp
theorem aUf{x:ByteArray}{out:List ByteArray}{j:Nat}(z:j<out.length)(h:(out.take j).any (bl x)=false)(E:bl x out[j]=false):mK x out (j+1)=mK x out j++[out[j]]/\(out.take (j+1)).any (bl x)=false:=by
 have h2:(out.take (j+1)).any (bl x)=false:=by rw[aF z,vK,h];simp[E]
 refine⟨?_,h2⟩;unfold mK;rw[if_neg (by rw[h2];simp),if_neg (by rw[h];simp),aF z]
theorem aUe(x:ByteArray)(out:List ByteArray)(j:Nat):(mK x out j).length<=out.length+1:=by
 unfold mK;have:=List.length_take_le' j out;split
 ·rw[aK9];omega
 ·omega
theorem aK8{x:ByteArray}{out:List ByteArray}(h:out.any (bl x)=true):mK x out out.length=ins x out:=by unfold mK;rw[bD,if_pos h]
theorem aH8{x:ByteArray}{out:List ByteArray}(h:out.any (bl x)=false):mK x out out.length++[x]=ins x out:=by
 unfold mK;rw[bD,if_neg (by rw[h];simp)];have:=aOf (r:=[]) (aS9 h);rw[cR] at this;rw[this];rfl
def yD(out:List ByteArray)(x:ByteArray):List ByteArray:=if (pI out x).isSome=true then out else ins x out
def yG(L:List ByteArray):List ByteArray:=L.foldl yD []
theorem aX4{L:List ByteArray}{k:Nat}(z:k<L.length):yG (L.take (k+1))=yD (yG (L.take k)) L[k]:=by
 unfold yG;rw[aF z,List.foldl_append];rfl
theorem uK(L:List ByteArray)(ao:Option Addr)(cap:Nat)(w:World)(hv:gD w ao L)(c9:L.length<=100000):
  Calls Tryz.prog 143 #[.slice ao L.length cap] w λe w'=>∃v,e=.returned v/\w'.ownsRow w.heap.size 9 1 v (yG L).length (bW (yG L))/\Below w.heap.size w w':=by
 obtain⟨i0,hi,a5,a6,a7⟩:=info_parts Tryz.info9;go_enter Tryz.func143,Tryz.ntmps143;go_wp2
 go_loopw [3,4] (λv i wr=>∃(k:Nat) (out:List ByteArray),k<=L.length/\out.length<=k/\i=.int .i64 k/\Hid (out=yG (L.take k))/\wr.ownsRow w.heap.size 9 1 v out.length (bW out)/\Below w.heap.size w wr) (λ_ i _=>L.length - (intOf i).toNat)
 case atStart=>exact⟨0,[],aE _,aA _,rfl,rfl,World.ownsRow_nil _ _ _ _,Below.refl _ _⟩
 case round=>
  obtain⟨k,out,hk,d2,rfl,HO,E,a0⟩:=hrel;obtain⟨b1,a4,rfl⟩:=bC E;have b0:w.heap.size<=wr.heap.size:=a0.size;by_cases b6:k<L.length
  ·rcases hv with h|⟨b,o,rfl,hb,hc⟩
   ·omega
   have b5:wr.cell? ⟨b,o+k,none⟩=some (.string L[k]):=by rw[<- xI b6];exact(a0.cell (p:=⟨b,o+k,none⟩) hb).trans (hc k b6)
   have HX:Hid (yG (L.take (k+1))=yD out L[k]):=by show _=_;rw[aX4 b6,HO.out]
   clear hc HO;generalize L[k]=x at *;have hw:=oV out x b1 a4 wr (gD.own E) (by omega)
   cases a2:pI out x with
   | some q=>
    rw[a2] at hw;have HP:Hid (yD out x=out):=by show _=_;unfold yD;rw[a2];rfl
    have d3:(0:Int)<=(q:Int):=by omega
    have HW:Hid (Calls Tryz.prog 165 #[.slice b1 out.length a4,.string x] wr λe w'=>e=.returned (.int .i64 (q:Int))/\w'=wr):=hw;clear hw a2
    go_wp2_with (go_at_call 165;refine HW.out.mono ?_;rintro e w' ⟨rfl,rfl⟩)
    go_roundw
    case rel=>exact⟨k+1,out,by omega,by omega,by go_num,by show _=_;rw[HX.out,HP.out],E,a0⟩
    case measure=>simp[intOf];omega
   | none=>
    rw[a2] at hw;have HP:Hid (yD out x=ins x out):=by show _=_;unfold yD;rw[a2];rfl
    have HW:Hid (Calls Tryz.prog 165 #[.slice b1 out.length a4,.string x] wr λe w'=>e=.returned (.int .i64 (-1))/\w'=wr):=hw;clear hw a2;have c7:b<wr.heap.size:=by omega
    go_wp2_with fail
    refine HW.out.mono ?_;rintro e w' ⟨rfl,rfl⟩;go_wp2
    go_loopw [5,6,7] (λm d i c3=>∃(j:Nat) (I:List ByteArray) (t:Bool),j<=out.length/\I.length<=out.length+1/\i=.int .i64 j/\d=.bool t/\Hid (t=(out.take j).any (bl x))/\Hid (I=mK x out j)/\c3.ownsRow w'.heap.size 9 1 m I.length (bW I)/\Below w'.heap.size w' c3) (λ_ _ i _=>out.length - (intOf i).toNat)
    case atStart=>exact⟨0,[],false,aE _,by simp,rfl,rfl,rfl,rfl,World.ownsRow_nil _ _ _ _,Below.refl _ _⟩
    case round=>
     obtain⟨j,I,t,hj,d0,rfl,rfl,HT,HI,hm,J⟩:=hrel;have Y:w'.heap.size<=wr.heap.size:=J.size;have a8:wr.cell? ⟨b,o+k,none⟩=some (.string x):=(J.cell (p:=⟨b,o+k,none⟩) c7).trans b5;by_cases V:j<out.length
     ·obtain⟨g,c6,d1,c1⟩:=qM E (by omega);subst c6;have b4:wr.cell? ⟨g,j,none⟩=some (.string out[j]):=by rw[<- xI V];exact(J.cell (p:=⟨g,j,none⟩) c1).trans (oU E j V)
      have U:=aUe x out (j+1);have c4:Hid (w'.cell? ⟨g,j,none⟩=some (.string out[j])):=by show _=_;rw[<- xI V];exact oU E j V
      cases t
      ·cases a1:bl x out[j]
       ·have K:=aUf V HT.out.symm a1;rw[<- HI.out] at K;have b3:Op.bytesLess x.toList (out[j]).toList=false:=a1;have Z:Hid (mK x out (j+1)=I++[out[j]]):=K.1;have a3:Hid ((out.take (j+1)).any (bl x)=false):=K.2;rw[K.1] at U;clear K a1;generalize out[j]=y at *;go_wp2
        go_quiet (fail)
        go_wp2_with (at_builtin;refine wpList_append_own _ rfl (.tmp 47) (.tmp 52) 35 rfl w'.heap.size 9 i0 (.string ⟨#[]⟩) 1 16 Tryz.underlying35 hi a5 a6 a7 rfl (by decide) _ _ _ rfl (by exact hm.alloc _) ⟨wr.heap.size,0,none⟩ 1 1 [.string y] rfl rfl (by exact iY _ _ _) (eX [_]) (by unfold maxLen;omega) (by omega) (by simp;omega) ?_)
        intro v' w5 z W _;have R:=iZ (wr:=wr.drewN nq) (aA _) hm (below_drewN J nq) Y z W;clear z W hm J a8 b4 b3;go_wp2
        go_roundw
        case rel=>exact⟨j+1,I++[y],false,by omega,U,by go_num,rfl,a3.out.symm,Z.out.symm,R.1,R.2.1⟩
        case measure=>simp[intOf];omega
       ·have K:=aUg V HT.out.symm a1;rw[<- HI.out] at K;have b3:Op.bytesLess x.toList (out[j]).toList=true:=a1;have Z:Hid (mK x out (j+1)=I++[x]++[out[j]]):=K.1;have a3:Hid ((out.take (j+1)).any (bl x)=true):=K.2;rw[K.1] at U;clear K a1;generalize out[j]=y at *;go_wp2
        go_quiet (fail)
        go_wp2_with (at_builtin;refine wpList_append_own _ rfl (.tmp 40) (.tmp 45) 35 rfl w'.heap.size 9 i0 (.string ⟨#[]⟩) 1 16 Tryz.underlying35 hi a5 a6 a7 rfl (by decide) _ _ _ rfl (by exact hm.alloc _) ⟨wr.heap.size,0,none⟩ 1 1 [.string x] rfl rfl (by exact iY _ _ _) (eX [_]) (by unfold maxLen;omega) (by omega) (by simp;omega) ?_)
        intro v' w5 z W _;have R:=iZ (wr:=wr.drewN nq) (aA _) hm (below_drewN J nq) Y z W;have c0:w5.cell? ⟨g,j,none⟩=some (.string y):=(R.2.1.cell (p:=⟨g,j,none⟩) c1).trans c4.out;have c2:w'.heap.size<=w5.heap.size:=R.2.1.size;have a9:=R.1;have c8:(I++[x]).length<=200000:=by simp;omega
        obtain⟨I2,b2⟩:∃I2,I++[x]=I2:=⟨_,rfl⟩;rw[b2] at a9 c8 U;have c5:Hid (mK x out (j+1)=I2++[y]):=by show _=_;rw[Z.out,b2]
        clear b2 Z;have b9:=R.2.1;clear z W hm J a8 b4 b3 R
        go_wp2_with (at_builtin;refine wpList_append_own _ rfl (.tmp 47) (.tmp 52) 35 rfl w'.heap.size 9 i0 (.string ⟨#[]⟩) 1 16 Tryz.underlying35 hi a5 a6 a7 rfl (by decide) _ _ _ rfl (by exact a9.alloc _) ⟨w5.heap.size,0,none⟩ 1 1 [.string y] rfl rfl (by exact iY _ _ _) (eX [_]) (by unfold maxLen;omega) (by omega) (by simp;omega) ?_)
        intro v6 w6 z W _;have R:=iZ (aA _) a9 b9 c2 z W;clear z W a9 b9 c0;go_wp2
        go_roundw
        case rel=>exact⟨j+1,I2++[y],true,by omega,U,by go_num,rfl,a3.out.symm,c5.out.symm,R.1,R.2.1⟩
        case measure=>simp[intOf];omega
      ·have K:=aXe V HT.out.symm;rw[<- HI.out] at K;have Z:Hid (mK x out (j+1)=I++[out[j]]):=K.1;have a3:Hid ((out.take (j+1)).any (bl x)=true):=K.2;rw[K.1] at U;clear K;generalize out[j]=y at *;go_wp2
       go_quiet (fail)
       go_wp2_with (at_builtin;refine wpList_append_own _ rfl (.tmp 47) (.tmp 52) 35 rfl w'.heap.size 9 i0 (.string ⟨#[]⟩) 1 16 Tryz.underlying35 hi a5 a6 a7 rfl (by decide) _ _ _ rfl (by exact hm.alloc _) ⟨wr.heap.size,0,none⟩ 1 1 [.string y] rfl rfl (by exact iY _ _ _) (eX [_]) (by unfold maxLen;omega) (by omega) (by simp;omega) ?_)
       intro v' w5 z W _;have R:=iZ (wr:=wr.drewN nq) (aA _) hm (below_drewN J nq) Y z W;clear z W hm J a8 b4;go_wp2
       go_roundw
       case rel=>exact⟨j+1,I++[y],true,by omega,U,by go_num,rfl,a3.out.symm,Z.out.symm,R.1,R.2.1⟩
       case measure=>simp[intOf];omega
     ·have ej:j=out.length:=by omega
      have b8:Hid (t=out.any (bl x)):=by have h:=HT.out;rw[ej,bD] at h;exact h
      have b7:Hid (I=mK x out out.length):=by have h:=HI.out;rw[ej] at h;exact h
      clear ej HT HI
      cases t
      ·have HE:Hid (I++[x]=ins x out):=by show _=_;rw[b7.out];exact aH8 b8.out.symm
       go_wp2_with (at_builtin;refine wpList_append_own _ rfl (.tmp 56) (.tmp 61) 35 rfl w'.heap.size 9 i0 (.string ⟨#[]⟩) 1 16 Tryz.underlying35 hi a5 a6 a7 rfl (by decide) _ _ _ rfl (by exact hm.alloc _) ⟨wr.heap.size,0,none⟩ 1 1 [.string x] rfl rfl (by exact iY _ _ _) (eX [_]) (by unfold maxLen;omega) (by omega) (by simp;omega) ?_)
       intro v' w5 z W _;have R:=iZ (aA _) hm J Y z W;clear z W hm J a8;go_wp2
       go_roundw
       case rel=>exact⟨k+1,I++[x],by omega,by rw[HE.out,aK9];omega,by go_num,by show _=_;rw[HE.out,HX.out,HP.out],bK R.1 b0,a0.trans (R.2.1.mono b0)⟩
       case measure=>simp[intOf];omega
      ·have HE:Hid (I=ins x out):=by show _=_;rw[b7.out];exact aK8 b8.out.symm
       go_wp2
       go_roundw
       case rel=>exact⟨k+1,I,by omega,by rw[HE.out,aK9];omega,by go_num,by show _=_;rw[HE.out,HX.out,HP.out],bK hm b0,a0.trans (J.mono b0)⟩
       case measure=>simp[intOf];omega
  ·have e:k=L.length:=by omega
   have HE:Hid (out=yG L):=by have h:=HO.out;rw[e,bD] at h;exact h
   clear e HO;go_wp2;go_ret;rw[HE.out] at E;refine⟨_,rfl,?_,a0⟩;rw[<- HE.out] at E ⊢;exact E
theorem aGd{s:ByteArray}{L:List ByteArray}(z:bM s=L)(h:mQ L=true):dH s=false:=by unfold dH;rw[z,h];simp
theorem aVl(t:ByteArray)(h:1<=t.size)(h2:t.size<=100000):IntKind.i64.wrap ((t.size:Int) - 1)=((t.size - 1:Nat):Int):=by
 rw[IntKind.wrap_i64];omega
theorem aDl(s:ByteArray)(w:World):
  Calls Tryz.prog 92 #[.string s] w λe w'=>∃v,e=.returned (.tuple #[v,.int .i64 (iW s)])/\w'.ownsRow w.heap.size 9 1 v (lQ s).length (bW (lQ s))/\Below w.heap.size w w':=by
 by_cases b3:240<s.size
 ·have E:dH s=false:=by unfold dH;simp;omega
  rw[(iX E).1,(iX E).2];clear E;go_enter Tryz.func92,Tryz.ntmps92;go_wp2;go_ret2;exact⟨_,rfl,World.ownsRow_nil _ _ _ _,Below.refl _ _⟩
 ·have a3:∀l∈bM s,1<=l.size/\l.size<=s.size:=qX s;have b0:=aFr s;by_cases a5:16<(bM s).length
  ·have E:dH s=false:=by unfold dH;simp;omega
   rw[(iX E).1,(iX E).2];clear E;go_enter Tryz.func92,Tryz.ntmps92
   go_wp2_with fail
   refine(xG s w (by omega)).mono ?_;rintro e w1 ⟨v,rfl,I,K⟩;obtain⟨ao,cap,rfl⟩:=bC I;go_wp2;go_ret2;exact⟨_,rfl,World.ownsRow_nil _ _ _ _,K⟩
  ·go_enter Tryz.func92,Tryz.ntmps92
   go_wp2_with fail
   refine(xG s w (by omega)).mono ?_;rintro e w1 ⟨v,rfl,I,K⟩;obtain⟨ao,cap,rfl⟩:=bC I;obtain⟨L,hL⟩:∃L,bM s=L:=⟨_,rfl⟩;rw[hL] at a3 b0 a5 I;have HC:=aO hL;rw[hL];clear hL;go_wp2
   go_loopw [5] (λi wr=>∃k:Nat,k<=L.length/\i=.int .i64 k/\Hid (mQ (L.take k)=false)/\Below w1.heap.size w1 wr) (λi _=>L.length - (intOf i).toNat)
   case atStart=>exact⟨0,aE _,rfl,rfl,Below.refl _ _⟩
   case round=>
    obtain⟨k,hk,rfl,HN,U⟩:=hrel;by_cases W:k<L.length
    ·obtain⟨g,a6,b4,a8⟩:=qM I (by omega);subst a6;obtain⟨t,ht⟩:∃t,t=L.getD k ByteArray.empty:=⟨_,rfl⟩;have a7:wr.cell? ⟨g,k,none⟩=some (.string t):=by rw[ht];exact(U.cell (p:=⟨g,k,none⟩) a8).trans (oU I k W)
     have b1:1<=t.size/\t.size<=s.size:=by
      rw[ht,aQ,aC W];exact a3 _ (bZ W)
     have HT:=aO ht;clear ht;obtain⟨a4,b5⟩:=b1;have a2:=bBa t 0;have b2:=aVl t a4 (by omega);have a9:(((t.size - 1:Nat)):Int)<(t.size:Int):=by omega
     by_cases Y:t[t.size - 1].toNat=10
     ·have hb:(((t[t.size - 1].toNat:Nat):Int) == 10)=true:=by rw[Y];rfl
      have V:=aLi t a4 (by rw[<- gT t (t.size - 1) (by omega)];exact Y);clear Y;obtain⟨m,hm⟩:∃m,pU t 0=m:=⟨_,rfl⟩;have J:=aCl t wr (by unfold maxLen;omega);rw[hm] at a2 V J;clear hm;by_cases z:12<gB t
      ·have Z:Hid (decide (12<gB t)=true):=by show _=_;simpa using z
       have a0:13<m:=by omega
       clear z V
       go_wp2_with (go_at_call 137;refine J.mono ?_;rintro e w' ⟨rfl,rfl⟩)
       go_quiet (fail)
       go_wp2;go_ret2;have E:=aGd HC.out (vP W (by rw[<- HT.out];exact Z.out));rw[(iX E).1,(iX E).2];exact⟨_,rfl,World.ownsRow_nil _ _ _ _,K.trans ((below_drewN U _).mono K.size)⟩
      ·have Z:Hid (decide (12<gB t)=false):=by show _=_;simpa using z
       have a0:m<=13:=by omega
       clear z V
       go_wp2_with (go_at_call 137;refine J.mono ?_;rintro e w' ⟨rfl,rfl⟩)
       go_quiet (fail)
       go_wp2
       go_roundw
       case rel=>exact⟨k+1,by omega,by go_num,tO W HN.out (by rw[<- HT.out];exact Z.out),below_drewN U _⟩
       case measure=>simp[intOf];omega
     ·have hb:(((t[t.size - 1].toNat:Nat):Int) == 10)=false:=by rw[beq_eq_false_iff_ne];omega
      have V:=aLj t (by rw[<- gT t (t.size - 1) (by omega)];exact Y);clear Y;obtain⟨m,hm⟩:∃m,pU t 0=m:=⟨_,rfl⟩;have J:=aCl t wr (by unfold maxLen;omega);rw[hm] at a2 V J;clear hm;by_cases z:12<gB t
      ·have Z:Hid (decide (12<gB t)=true):=by show _=_;simpa using z
       have a0:12<m:=by omega
       clear z V
       go_wp2_with (go_at_call 137;refine J.mono ?_;rintro e w' ⟨rfl,rfl⟩)
       go_quiet (fail)
       go_wp2;go_ret2;have E:=aGd HC.out (vP W (by rw[<- HT.out];exact Z.out));rw[(iX E).1,(iX E).2];exact⟨_,rfl,World.ownsRow_nil _ _ _ _,K.trans ((below_drewN U _).mono K.size)⟩
      ·have Z:Hid (decide (12<gB t)=false):=by show _=_;simpa using z
       have a0:m<=12:=by omega
       clear z V
       go_wp2_with (go_at_call 137;refine J.mono ?_;rintro e w' ⟨rfl,rfl⟩)
       go_quiet (fail)
       go_wp2
       go_roundw
       case rel=>exact⟨k+1,by omega,by go_num,tO W HN.out (by rw[<- HT.out];exact Z.out),below_drewN U _⟩
       case measure=>simp[intOf];omega
    ·go_wp2;go_ret2;have e:k=L.length:=by omega
     have hn:=HN.out;rw[e,bD] at hn;have a1:dH s=true:=by unfold dH;rw[HC.out,hn];simp;omega
     rw[(pY a1).1,(pY a1).2,HC.out];exact⟨_,rfl,bQ I U (aA _),K.trans (U.mono K.size)⟩
abbrev jN:=List (ByteArray×ByteArray)
def fO(F:jN):List ByteArray:=F.map Prod.fst
def txs(F:jN):List ByteArray:=F.map Prod.snd
theorem gV(F:jN):(fO F).length=F.length:=by simp[fO]
theorem aEz(F:jN):(txs F).length=F.length:=by simp[txs]
def uH(p:Value×Value):List Value:=[p.1,p.2,.slice none 0 0]
structure RAt (w:World) (B rb sg:Nat) (vs:List (Value×Value)) (Fs:List jN):Prop where
 lo:B<=rb
 lo2:B<=sg
 cell:w.heap[rb]?=some (.cells #[.slice none 0 0,.slice none 0 0,.slice none 0 0,.slice (some ⟨sg,0,none⟩) Fs.length Fs.length] 192 (0,0))
 row:w.heap[sg]?=some (.cells (vs.flatMap uH).toArray 205 (0,0))
 len:vs.length=Fs.length
 names:∀(j:Nat) (p:Value×Value) (F:jN),vs[j]?=some p->Fs[j]?=some F->w.ownsRow B 9 1 p.1 (fO F).length (bW (fO F))/\w.ownsRow B 9 1 p.2 (txs F).length (bW (txs F))
 few:∀F∈Fs,F.length<=5
 n3:Fs.length<=3
def lE(r:Int)(n:Nat):Bool:=decide (0<=r/\r<n)
def jK(r:Int)(n:Nat)(name:ByteArray):Int:=if lE r n=true then (if dJ name=true then 0 else 2) else 1
def aX(F:jN)(name:ByteArray):Option ByteArray:=(pI (fO F) name).bind λk=>(txs F)[k]?
theorem rC{F:jN}{name:ByteArray}(h:pI (fO F) name=none):aX F name=none:=by unfold aX;rw[h];rfl
theorem aYo{L:List ByteArray}{s:ByteArray}{k:Nat}(h:pI L s=some k):k<L.length:=by
 unfold pI at h;rw[cQ] at h;exact h.1
theorem rD{F:jN}{name:ByteArray}{k:Nat}(h:pI (fO F) name=some k):∃t,(txs F)[k]?=some t/\aX F name=some t:=by
 have E:=aYo h;have z:k<(txs F).length:=by rw[aEz,<- gV];exact E
 exact⟨(txs F)[k],aC z,by unfold aX;rw[h];exact aC z⟩
theorem aG9(n:Nat)(m:ByteArray):bW (eU n m)=List.replicate n (.string m):=by simp[eU]
theorem aS7{α:Type}{l:List α}{n:Nat}{M b:α}(h:l=List.replicate n M)(z:b∈l):b=M:=by
 subst h;exact pL z
theorem aMc{α:Type}{l:List α}{n k z:Nat}{M:α}(h1:l.take n=List.replicate n M)(h2:l.take z=List.replicate z M)(U:n+k<=l.length):
  (l.take n++List.replicate k M++l.drop (n+k)).take z=List.replicate z M:=by
 have K:z<=l.length:=by have:=congrArg List.length h2;simp at this;omega
 rw[List.eq_replicate_iff];refine⟨by simp;omega,λb E=>?_⟩;obtain⟨j,I,rfl⟩:=lB.1 E;have J:j<z:=by simp at I;omega
 rw[kZ];by_cases a:j<n+k
 ·rw[aBo (by simp;omega)];by_cases c:j<n
  ·rw[aBo (by simp;omega)];exact aS7 h1 (bZ _)
  ·rw[oX (by simp;omega)];simp
 ·rw[oX (by simp;omega),aBh];have e:n+k+(j - (l.take n++List.replicate k M).length)=j:=by simp;omega
  have:=aS7 h2 (bZ (show j<(l.take z).length by simp;omega));rw[kZ] at this;simp only[e];exact this
def qF(m:ByteArray)(w w':World):Prop:=∀lo v n,w.ownsRow lo 9 1 v n (bW (eU n m))->w'.ownsRow lo 9 1 v n (bW (eU n m))
theorem aJb{m:ByteArray}{w w':World}(h:∀k,k<w.heap.size->w'.heap[k]?=w.heap[k]?):qF m w w':=by
 intro lo v n x;refine⟨x.1,?_⟩;rcases x.2 with x2|⟨g,cap,z,a,b,c,d⟩
 ·exact .inl x2
 ·exact .inr ⟨g,cap,z,a,b,by rw[h g (aV.1 c).1];exact c,d⟩
theorem aCj(w:World)(K ty:Nat)(v:Value)(n:Nat)(m:ByteArray)(V:w.ownsRow K 9 1 v n (bW (eU n m)))
  (a:Addr) (k c:Nat) (z:∀j u,(bW (eU k m))[j]?=some u->w.cell? (a.add j)=some u)
  (U:(n+k) * 16<=140737488355328) (Y:K<=w.heap.size) :
  ∃v' w',(Builtin.append_ #[35,35] ty #[v,.slice (some a) k c]).run Tryz.prog w=.ok v' w'/\w'.ownsRow K 9 1 v' (n+k) (bW (eU (n+k) m))/\w.grownBy w' v.ownBlock/\qF m w w':=by
 obtain⟨i0,hi,a5,J,a6⟩:=info_parts Tryz.info9;have a4:n+k<=maxLen:=by unfold maxLen;omega
 obtain⟨v',w',hr,h2,h3,h4⟩:=run_append_own (P:=Tryz.prog) w K 35 ty 9 i0 (.string ⟨#[]⟩) 1 16 Tryz.underlying35 hi a5 J a6 rfl (by decide) v n _ V a k c (bW (eU k m)) (by simp[eU]) z (eX _) a4 U Y;have e:bW (eU n m)++bW (eU k m)=bW (eU (n+k) m):=by simp[eU]
 rw[e] at h2;refine⟨v',w',hr,h2,h3,?_⟩;rcases V.2 with ⟨rfl,rfl⟩|⟨g,cap,a1,rfl,a7,hg,b1,a8,a9,I⟩
 ·exact aJb λk hk=>h3.block k hk (by simp[Value.ownBlock])
 ·by_cases Z:n+k<=cap
  ·have E:=run_append_room (P:=Tryz.prog) w 35 ty 9 i0 Tryz.underlying35 hi g n cap a1 hg a k c (bW (eU k m)) (by simp[eU,J]) z (eX _) Z (by simp[eU,J];omega);rw[hr] at E;simp only[Result.ok.injEq] at E;obtain⟨_,rfl⟩:=E;intro lo v0 n0 x;refine⟨x.1,?_⟩;rcases x.2 with x2|⟨g0,W,a2,a0,b0,c0,d0,d1,d2,d3⟩
   ·exact .inl x2
   ·by_cases a3:g0=g
    ·subst a3;rw[hg] at c0;simp only[cJ,Obj.cells.injEq,and_true] at c0;subst c0;refine .inr ⟨g0,W,_,a0,b0,setRow_heap w g0 a1 _ 9 _ hg,d0,d1,?_,?_⟩
     ·simp[eU,J];omega
     ·rw[aG9] at I d3 ⊢;simp only[jW,J,aG9,tF] at I d3 ⊢;exact aMc I d3 (by simp;omega)
    ·exact .inr ⟨g0,W,a2,a0,b0,by rw[setRow_other w g g0 _ a3];exact c0,d0,d1,d2,d3⟩
  ·have E:=run_append_grow (P:=Tryz.prog) w 35 ty 9 i0 (.string ⟨#[]⟩) Tryz.underlying35 hi a5 ⟨g,0,none⟩ n cap (bW (eU n m)) (by simp[eU,J]) (V.cells (g:=g) rfl) a k c (bW (eU k m)) (by simp[eU,J]) z (by omega) (by omega) (growslice_fits (by omega) (by rw[a6];exact U));rw[hr] at E;simp only[Result.ok.injEq] at E;obtain⟨_,rfl⟩:=E;exact aJb λk hk=>Below.heap_alloc w.drew _ k hk
theorem mH(w:World){W:Array Oper}{I:List Oper}{o:Oper}{a:Act}{Q:Exit->Act->World->Prop}(Z:o.guard=none)(s x:Operand)
  (ho:o.op=.call { callee:=.builtin .append,args:=#[s,x],argTypes:=#[35,35] })
  (z:Nat) (v:Value) (n:Nat) (m:ByteArray) (hs:a.eval s=v) (V:w.ownsRow z 9 1 v n (bW (eU n m)))
  (Y:Addr) (k c:Nat) (hx:a.eval x=.slice (some Y) k c) (U:∀j u,(bW (eU k m))[j]?=some u->w.cell? (Y.add j)=some u)
  (E:(n+k) * 16<=140737488355328) (J:z<=w.heap.size)
  (h:∀v' w',w'.ownsRow z 9 1 v' (n+k) (bW (eU (n+k) m))->w.grownBy w' v.ownBlock->qF m w w'->wpList Tryz.prog W Q I (a.put o.dst v') w'):wpList Tryz.prog W Q (o::I) a w:=by
 refine wpList_plain Z λK hK=>?_;obtain⟨v',w',hr,h2,h3,h4⟩:=aCj w z o.type v n m V Y k c U E J;unfold Oper.wp execOp;simp only[ho,resolve,invoke,builtin,Sem.run_bind,Sem.run_pure,Result.andThen_ok,List.map_toArray,cU,lA,hs,hx,hr];exact hK _ _ (h v' w' h2 h3 h4)
theorem bA9{w:World}{B U J K s1 s2 n Z:Nat}{v v':Value}{xs ys:List Value}(h:w.ownsRow B J s1 v n xs)(k:w.ownsRow U K s2 v' Z ys)(W:J≠K):v.ownBlock=none\/v.ownBlock≠v'.ownBlock:=by
 rcases h.2 with ⟨rfl,_⟩|⟨g,cap,V,rfl,_,Y,_⟩
 ·exact .inl rfl
 ·right;intro e;rcases k.2 with ⟨rfl,_⟩|⟨g',E,I,rfl,_,z,_⟩
  ·simp[Value.ownBlock] at e
  ·simp[Value.ownBlock] at e;subst e;rw[Y] at z;simp only[cJ,Obj.cells.injEq] at z;exact W z.2.1
theorem gO{w:World}{B e s n I o t:Nat}{v u:Value}{U:List Value}{c:Array Value}{f:Nat×Nat}(h:w.ownsRow B e s v n U)(E:w.heap[I]?=some (.cells c t f))(W:e≠t):(w.setCell ⟨I,o,none⟩ u).ownsRow B e s v n U:=by
 refine⟨h.1,?_⟩;rcases h.2 with h2|⟨g,cap,z,hv,V,K,r⟩
 ·exact .inl h2
 ·refine .inr ⟨g,cap,z,hv,V,?_,r⟩;rw[Below.heap_setCell]
  ·exact K
  ·intro J;simp only at J;subst J;rw[K] at E;simp only[cJ,Obj.cells.injEq] at E;exact W E.2.1
def zJ(S:Nat->Prop)(w w':World):Prop:=∀g,S g->w'.heap[g]?=w.heap[g]?
theorem zJ.of_below{S:Nat->Prop}{B:Nat}{w w':World}(h:Below B w w')(z:∀g,S g->g<B):zJ S w w':=λg E=>h.block g (z g E)
theorem zJ.of_grown{S:Nat->Prop}{w w':World}{row:Option Nat}(h:w.grownBy w' row)(E:∀g,S g->g<w.heap.size)(I:∀g,row=some g->¬ S g):zJ S w w':=
 λg z=>h.block g (E g z) (λe=>I g e.symm z)
theorem aJs{w E:World}{B n size:Nat}{S:Nat->Prop}{e:TypeId}{v:Value}{I:List Value}(h:w.ownsRow B e size v n I)(K:zJ S w E)(J:∀g,v.ownBlock=some g->S g):E.ownsRow B e size v n I:=by
 refine⟨h.1,?_⟩;rcases h.2 with h2|⟨g,cap,z,rfl,b,c,d⟩
 ·exact .inl h2
 ·exact .inr ⟨g,cap,z,rfl,b,by rw[K g (J g rfl)];exact c,d⟩
theorem gW{w:World}{b:Nat}{u v:Value}{t:TypeId}(h:w.heap[b]?=some (.cells #[u,v] t (0,0))):w.cell? ⟨b,0,none⟩=some u/\w.cell? ⟨b,1,none⟩=some v:=by simp[World.cell?,h]
theorem aDa{w:World}{b o:Nat}{u v:Value}{t:TypeId}(h:w.heap[b]?=some (.cells #[u,v] t (0,0))):w.frozen? ⟨b,o,none⟩=false:=by simp[World.frozen?,h]
theorem aPx{w:World}{b:Nat}{u v x:Value}{t:TypeId}(h:w.heap[b]?=some (.cells #[u,v] t (0,0))):(w.setCell ⟨b,1,none⟩ x).heap[b]?=some (.cells #[u,x] t (0,0)):=by
 have z:=lt_of_block h;have E:w.heap[b]=.cells #[u,v] t (0,0):=by simpa[oW z] using h
 show (w.heap.modify b _)[b]?=_;rw[oW (by simpa using z),Array.getElem_modify_self,E];rfl
theorem aMh{w:World}{b:Nat}{u v x:Value}{t:TypeId}(h:w.heap[b]?=some (.cells #[u,v] t (0,0))):(w.setCell ⟨b,0,none⟩ x).heap[b]?=some (.cells #[x,v] t (0,0)):=by
 have z:=lt_of_block h;have E:w.heap[b]=.cells #[u,v] t (0,0):=by simpa[oW z] using h
 show (w.heap.modify b _)[b]?=_;rw[oW (by simpa using z),Array.getElem_modify_self,E];rfl
structure mX where
 l:Value
 g1:Value
 g2:Value
 g3:Value
 n:Nat
 mark:ByteArray
def mX.cells(e:mX):List Value:=[e.l,e.g1,e.g2,e.g3,.int .i64 e.n,.string e.mark]
def eF(w:World)(B:Nat)(S:Nat->Prop)(v:Value)(n:Nat)(m:ByteArray):Prop:=w.ownsRow B 9 1 v n (bW (eU n m))/\∀g,v.ownBlock=some g->S g
structure mX.ok (w:World) (B:Nat) (S:Nat->Prop) (e:mX):Prop where
 a:eF w B S e.l e.n e.mark
 b:eF w B S e.g1 (e.n+1) e.mark
 c:eF w B S e.g2 (e.n+2) e.mark
 d:eF w B S e.g3 (e.n+3) e.mark
 few:e.n<=1000000
structure gG (w:World) (B:Nat) (S:Nat->Prop) (bb:Nat) (K:List mX) (lv kv:Value):Prop where
 lo:B<=bb
 hi:S bb
 cell:w.heap[bb]?=some (.cells #[lv,kv] 73 (0,0))
 row:w.ownsRow B 142 6 kv K.length (K.flatMap mX.cells)
 rowHi:∀g,kv.ownBlock=some g->S g
 ents:∀e∈K,e.ok w B S
 few:K.length<=10000000
theorem eF.same{w z:World}{B n:Nat}{S:Nat->Prop}{v:Value}{m:ByteArray}(h:eF w B S v n m)(E:zJ S w z):eF z B S v n m:=⟨aJs h.1 E h.2,h.2⟩
theorem eF.mono{w:World}{B n:Nat}{S z:Nat->Prop}{v:Value}{m:ByteArray}(h:eF w B S v n m)(E:∀g,S g->z g):eF w B z v n m:=⟨h.1,λg I=>E g (h.2 g I)⟩
theorem mX.ok.same{w E:World}{B:Nat}{S:Nat->Prop}{e:mX}(h:e.ok w B S)(z:zJ S w E):e.ok E B S:=⟨h.a.same z,h.b.same z,h.c.same z,h.d.same z,h.few⟩
theorem mX.ok.mono{w:World}{B:Nat}{S E:Nat->Prop}{e:mX}(h:e.ok w B S)(z:∀g,S g->E g):e.ok w B E:=⟨h.a.mono z,h.b.mono z,h.c.mono z,h.d.mono z,h.few⟩
theorem gG.same{w J:World}{B z:Nat}{S:Nat->Prop}{K:List mX}{lv I:Value}(h:gG w B S z K lv I)(E:zJ S w J):gG J B S z K lv I:=
 ⟨h.lo,h.hi,by rw[E z h.hi];exact h.cell,aJs h.row E h.rowHi,h.rowHi,λe U=>(h.ents e U).same E,h.few⟩
theorem gG.mono{w:World}{B I:Nat}{S E:Nat->Prop}{K:List mX}{lv J:Value}(h:gG w B S I K lv J)(z:∀g,S g->E g):gG w B E I K lv J:=
 ⟨h.lo,z _ h.hi,h.cell,h.row,λg V=>z g (h.rowHi g V),λe U=>(h.ents e U).mono z,h.few⟩
def zG(w:World)(g:Nat):Prop:=g<w.heap.size
theorem eF.booked{w E:World}{o:Obj}{B J n W I:Nat}{S:Nat->Prop}{v lv z u:Value}{m:ByteArray}{Y:List Value}(h:eF w B S v n m)(V:w.ownsRow J 142 6 z W Y)(U:(w.alloc o).grownBy E z.ownBlock)
  (K:E.heap[I]?=some (.cells #[lv,z] 73 (0,0))):eF (E.setCell ⟨I,1,none⟩ u) B S v n m:=
 ⟨gO ((h.1.alloc o).kept U (bA9 (h.1.alloc o) (V.alloc o) (by decide))) K (by decide),h.2⟩
theorem bAx{w Y E:World}{B I n:Nat}{S:Nat->Prop}{K:List mX}{lv kv z:Value}{e:mX}{o:Obj}(a0:gG w B S I K lv kv)(hS:∀g,S g->g<w.heap.size)(a7:zJ S w Y)(a6:Below B w Y)
  (hg:(Y.alloc o).grownBy E kv.ownBlock) (a2:E.ownsRow B 142 6 z (K.length+1) (K.flatMap mX.cells++e.cells)) (hn:K.length+1=n) (b2:n<=10000000)
  (he:e.ok Y B (zG Y)) (hB:B<=w.heap.size) :
  E.heap[I]?=some (.cells #[lv,kv] 73 (0,0))/\gG (E.setCell ⟨I,1,none⟩ z) B (zG (E.setCell ⟨I,1,none⟩ z)) I (K++[e]) lv z/\Below B w (E.setCell ⟨I,1,none⟩ z)/\(∀g,g<Y.heap.size->g≠I->some g≠kv.ownBlock->(E.setCell ⟨I,1,none⟩ z).heap[g]?=Y.heap[g]?):=by
 have V:=a0.same a7;have b5:=a6.size;have b0:=hg.size;have b3:Y.heap.size<=E.heap.size:=by simp at b0;omega
 have a8:I<Y.heap.size:=by have:=hS _ a0.hi;omega
 have a4:some I≠kv.ownBlock:=by
  intro e1;rcases V.row.2 with ⟨rfl,_⟩|⟨g,cap,b4,rfl,_,U,_⟩
  ·simp[Value.ownBlock] at e1
  ·simp[Value.ownBlock] at e1;subst e1;rw[V.cell] at U;simp at U
 have Z:E.heap[I]?=some (.cells #[lv,kv] 73 (0,0)):=by
  rw[hg.block I (by simp;omega) a4,Below.heap_alloc _ _ _ a8];exact V.cell
 have a3:(E.setCell ⟨I,1,none⟩ z).heap.size=E.heap.size:=by simp[World.setCell]
 have b1:Below B E (E.setCell ⟨I,1,none⟩ z):=(Below.refl B E).setCell (p:=⟨I,1,none⟩) a0.lo z;have a1:∀{S':Nat->Prop} {n:Nat} {v:Value} {m:ByteArray},eF Y B S' v n m->(∀g,S' g->g<E.heap.size)->eF (E.setCell ⟨I,1,none⟩ z) B (zG (E.setCell ⟨I,1,none⟩ z)) v n m:=
  λhh J=>(hh.booked V.row hg Z).mono (λg h=>by unfold zG;rw[a3];exact J g h)
 have a5:∀{S':Nat->Prop} {x:mX},x.ok Y B S'->(∀g,S' g->g<E.heap.size)->x.ok (E.setCell ⟨I,1,none⟩ z) B (zG (E.setCell ⟨I,1,none⟩ z)):=
  λW J=>⟨a1 W.a J,a1 W.b J,a1 W.c J,a1 W.d J,W.few⟩
 refine⟨Z,⟨a0.lo,by unfold zG;rw[a3];omega,?_,?_,?_,?_,by simp;omega⟩,?_,?_⟩
 ·exact aPx Z
 ·have a9:E.ownsRow B 142 6 z (K++[e]).length ((K++[e]).flatMap mX.cells):=by
   rw[eE,aJ];simpa using a2
  exact gO a9 Z (by decide)
 ·intro g U;unfold zG;rw[a3];exact(a2.lt g U).2
 ·intro x W;rcases aG.1 W with W|W
  ·exact a5 (V.ents x W) (λg hg=>by have:=hS g hg;omega)
  ·rw[bE.1 W];exact a5 he (λg hg=>by unfold zG at hg;omega)
 ·exact Below.trans ((a6.alloc (by omega) o).grown hg (by simp;omega) (λg U=>(V.row.lt g U).1)) b1
 ·intro g h1 h2 h3;rw[Below.heap_setCell _ _ _ _ (by simpa using h2),hg.block g (by simp;omega) h3,Below.heap_alloc _ _ _ h1]
theorem sP{K:List mX}{k:Nat}(z:k<K.length)(j:Nat)(E:j<6):(K.flatMap mX.cells)[k * 6+j]?=(K[k]).cells[j]?:=by
 induction K generalizing k with
 | nil=>simp at z
 | cons a K ih=>
  rw[bL]
  cases k with
  | zero=>
   rw[aZ (by simp[mX.cells];omega)];simp
  | succ k=>
   rw[bH (by simp[mX.cells];omega)];have e:(k+1) * 6+j - a.cells.length=k * 6+j:=by simp[mX.cells];omega
   rw[e,ih (by simpa using z)];simp
theorem xQ(n:Nat)(z:Int)(m:ByteArray)(I:Option Addr)(J A:Nat)(w:World)(K:w.ownsRow A 9 1 (.slice I n J) n (bW (eU n m)))(U:z=(n:Int))(E:n<=1000000000):
  Calls Tryz.prog 101 #[.slice I n J,.int .i64 z,.string m] w λe w'=>e=.returned (.bool true)/\w'=w:=by
 subst U;exact aPq n m I J A w K E
theorem aGg(B W:Nat)(S:Nat->Prop)(K:List mX)(lv kv:Value)(w:World)(I:gG w B S W K lv kv)(hS:∀g,S g->g<w.heap.size):
  Calls Tryz.prog 60 #[.pointer (some ⟨W,1,none⟩)] w λe w'=>e=.returned (.bool true)/\Below w.heap.size w w':=by
 obtain⟨ko,kc,b0⟩:=bC I.row;subst b0;have b2:=I.few;go_enter Tryz.func60,Tryz.ntmps60;go_wp2
 go_loopw [3] (λi wr=>∃k:Nat,k<=K.length/\i=.int .i64 k/\Below w.heap.size w wr) (λi _=>K.length - (intOf i).toNat)
 case atStart=>exact⟨0,aE _,rfl,Below.refl _ _⟩
 case round=>
  obtain⟨k,hk,rfl,U⟩:=hrel;have z:=I.same (zJ.of_below U hS);have a8:wr.cell? ⟨W,1,none⟩=some (.slice ko K.length kc):=(gW z.cell).2;by_cases E:k<K.length
  ·obtain⟨g,a9,b3,b4⟩:=qM z.row (by omega);subst a9;obtain⟨x,J⟩:∃x,K[k]=x:=⟨_,rfl⟩;have b1:x.ok wr B S:=by rw[<- J];exact z.ents _ (bZ E)
   have Y:wr.cell? ⟨g,k * 6,none⟩=some x.l:=by rw[z.row.cellAt (k * 6) (by omega)];have:=sP E 0 (by omega);rw[J] at this;exact this
   have Z:wr.cell? ⟨g,k * 6+1,none⟩=some x.g1:=by rw[z.row.cellAt (k * 6+1) (by omega)];have:=sP E 1 (by omega);rw[J] at this;exact this
   have a4:wr.cell? ⟨g,k * 6+2,none⟩=some x.g2:=by rw[z.row.cellAt (k * 6+2) (by omega)];have:=sP E 2 (by omega);rw[J] at this;exact this
   have a5:wr.cell? ⟨g,k * 6+3,none⟩=some x.g3:=by rw[z.row.cellAt (k * 6+3) (by omega)];have:=sP E 3 (by omega);rw[J] at this;exact this
   have a6:wr.cell? ⟨g,k * 6+4,none⟩=some (.int .i64 x.n):=by rw[z.row.cellAt (k * 6+4) (by omega)];have:=sP E 4 (by omega);rw[J] at this;exact this
   have a7:wr.cell? ⟨g,k * 6+5,none⟩=some (.string x.mark):=by rw[z.row.cellAt (k * 6+5) (by omega)];have:=sP E 5 (by omega);rw[J] at this;exact this
   clear J;obtain⟨l,g1,g2,g3,n,m⟩:=x;obtain⟨a,b,c,d,hn⟩:=b1;simp only at a b c d hn Y Z a4 a5 a6 a7;obtain⟨a0,p0,rfl⟩:=bC a.1;obtain⟨a1,p1,rfl⟩:=bC b.1;obtain⟨a2,p2,rfl⟩:=bC c.1;obtain⟨a3,p3,rfl⟩:=bC d.1;have V:=U.size;have HB:Hid (Below w.heap.size w wr):=U;have HK:Hid (gG w B S W K lv (.slice (some ⟨g,0,none⟩) K.length kc)):=I;clear U I z
   go_wp2_with fail
   refine(xQ n n m a0 p0 B _ (a.1.alloc _) rfl (by omega)).mono ?_;rintro e w' ⟨rfl,rfl⟩
   go_wp2_with fail
   refine(xQ (n+1) _ m a1 p1 B _ (b.1.alloc _) (by omega) (by omega)).mono ?_;rintro e w' ⟨rfl,rfl⟩
   go_wp2_with fail
   refine(xQ (n+2) _ m a2 p2 B _ (c.1.alloc _) (by omega) (by omega)).mono ?_;rintro e w' ⟨rfl,rfl⟩
   go_wp2_with fail
   refine(xQ (n+3) _ m a3 p3 B _ (d.1.alloc _) (by omega) (by omega)).mono ?_;rintro e w' ⟨rfl,rfl⟩;go_wp2
   go_roundw
   case rel=>exact⟨k+1,by omega,by go_num,HB.out.alloc V _⟩
   case measure=>simp[intOf];omega
  ·go_wp2;go_ret;exact⟨rfl,U⟩
end Go.Proofs.YtgdfipmdmgkidaaGreatDoor
