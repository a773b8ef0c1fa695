import Derived.Test.YtgdfipmdmgkidaaGreatDoorHsim
import Derived.Test.YtgdfipmdmgkidaaGreatDoorPwrite
import Derived.Test.YtgdfipmdmgkidaaGreatDoorGset
import Derived.Test.YtgdfipmdmgkidaaGreatDoorNplace
import Derived.Test.YtgdfipmdmgkidaaGreatDoorWcomm
import Derived.Test.YtgdfipmdmgkidaaGreatDoorWtake
import Derived.Test.YtgdfipmdmgkidaaGreatDoorAl
set_option linter.all false
set_option maxHeartbeats 6400000
set_option maxRecDepth 100000
namespace Go.Proofs.YtgdfipmdmgkidaaGreatDoor
open Go.RowKit
theorem aX6{L:List ByteArray}{k:Nat}(z:k<L.length):(bW L)[k]?=some (.string (L.getD k ByteArray.empty)):=by
 unfold bW;rw[aP,aC z,xI z];rfl
theorem eJ.view{w:World}{z:Option Addr}{n cap:Nat}{L:List ByteArray}(h:eJ w 9 1 L.length (.slice z n cap) (bW L)):gD w z L:=by
 obtain⟨-,I,E,e,-,hv⟩:=h
 cases e
 rcases hv with ⟨rfl,J,-⟩|⟨b,o,rfl,K,U⟩
 ·exact .inl J
 ·exact .inr ⟨b,o,rfl,K.lt,λk V=>U k _ (aX6 V)⟩
section
variable {e:iA} {own:List ByteArray} {Pa:List PM} {D D':RD} {x:ByteArray} {L:ByteArray->cL->Prop} {s:ByteArray->PL}
theorem lP(r:Int)(rb:Nat)(w:World)(h:WV w rb D):
  Calls Tryz.prog 82 #[.pointer (some ⟨rb,0,none⟩),.int .i64 r] w λe w'=>e=.returned (.bool (lE r D.repos.length))/\w'=w:=by
 obtain⟨z,cap,E,-⟩:=h.repos_;clear h;generalize D.repos.length=n at *;go_enter Tryz.func82,Tryz.ntmps82;go_wp2
 all_goals
  go_ret;refine⟨cB ?_,rfl⟩;rw[kU];simp only[lE,decide_eq_true_eq]
  simp_all
  try omega
theorem pQ(r:Int)(name:ByteArray)(z:name.size<=10000000)(rb:Nat)(w:World)(h:WV w rb D):
  Calls Tryz.prog 167 #[.pointer (some ⟨rb,0,none⟩),.int .i64 r,.string name] w λe w'=>e=.returned (.int .i64 (jK r D.repos.length name))/\Below w.heap.size w w':=by
 have E:=aO (lP r rb w h);have J:=aO (wJ name w z);clear h;unfold jK
 cases I:lE r D.repos.length
 ·rw[I] at E;clear I;go_enter Tryz.func167,Tryz.ntmps167
  go_wp2_with (go_at_call 82;refine E.out.mono ?_;rintro e w' ⟨rfl,rfl⟩)
  go_ret;exact⟨rfl,Below.refl _ _⟩
 ·rw[I] at E
  cases K:dJ name <;>
  ·rw[K] at J;clear K I;go_enter Tryz.func167,Tryz.ntmps167
   go_wp2_with (first|(go_at_call 82;refine E.out.mono ?_;rintro e w' ⟨rfl,rfl⟩)|(go_at_call 164;refine J.out.mono ?_;rintro e U ⟨rfl,q,rfl⟩))
   go_ret;exact⟨rfl,below_drewN (Below.refl _ _) _⟩
theorem nA(r:Nat)(R:iD)(name:ByteArray)(rb:Nat)(w:World)(h:WV w rb D)(Y:D.repos[r]?=some R)(a1:D.repos.length<=3)(U:R.F.length<=10000):
  Calls Tryz.prog 141 #[.pointer (some ⟨rb,0,none⟩),.int .i64 r,.string name] w λe w'=>e=.returned (.tuple #[.string ((aX R.F name).getD ⟨#[]⟩),.bool (aX R.F name).isSome])/\w'=w:=by
 obtain⟨ra,rc,c3,J⟩:=h.repos_;obtain⟨sb,so,rfl,c0,c1,-,V,Z,-⟩:=J r R Y;have hr:=(aB.1 Y).1;obtain⟨nv,tv,lv,F,N⟩:=R;simp only at c0 c1 V Z U ⊢;clear h J Y;generalize D.repos.length=nr at *;obtain⟨na,nc,rfl,-,-⟩:=eJ.at_ V;obtain⟨ta,tc,rfl,-,E⟩:=eJ.at_ Z;rw[<- gV] at V;have hw:=oV (fO F) name na nc w (eJ.view V) (by rw[gV];omega);rw[gV] at hw;have HW:=aO hw;clear hw V Z
 cases I:pI (fO F) name with
 | none=>
  rw[I] at HW;rw[rC I];change Hid (Calls Tryz.prog 165 #[.slice na F.length nc,.string name] w λe w'=>e=.returned (.int .i64 (-1))/\w'=w) at HW;clear I E;generalize F.length=nl at *;go_enter Tryz.func141,Tryz.ntmps141
  go_wp2_with (go_at_call 165;refine HW.out.mono ?_;rintro e w' ⟨rfl,rfl⟩)
  go_ret2;exact⟨rfl,rfl⟩
 | some k=>
  rw[I] at HW;obtain⟨t,z,W⟩:=rD I;rw[W];have a0:k<F.length:=by have:=(aB.1 z).1;rwa[aEz] at this
  obtain⟨g,go,rfl,-,K⟩:=E (by omega);have c9:w.cell? ⟨g,go+k,none⟩=some (.string t):=K k _ (by unfold bW;rw[aP,z];rfl);change Hid (Calls Tryz.prog 165 #[.slice na F.length nc,.string name] w λe w'=>e=.returned (.int .i64 (k:Int))/\w'=w) at HW;clear I z W K E;generalize F.length=nl at *;go_enter Tryz.func141,Tryz.ntmps141
  go_wp2_with (go_at_call 165;refine HW.out.mono ?_;rintro e w' ⟨rfl,rfl⟩)
  go_ret2;exact⟨rfl,rfl⟩
def aPp(f:Option ByteArray)(k:Option ByteArray):Bool:=decide (f=k)
theorem aDr(r:Nat)(R:iD)(rb V:Nat)(z:RS)(w:World)(I:kC w rb D' e own Pa D)(U:D'.repos[r]?=some R)(hs:sE w V z)(Y:iE e own Pa D L s z.abs)(Z:(s x).S.length<=40000):
  Calls Tryz.prog 145 #[.pointer (some ⟨rb,0,none⟩),.int .i64 r,.pointer (some ⟨V,0,none⟩),.string x] w λq w'=>q=.returned (.bool (aPp (aX R.F x) (dR s x)))/\Below w.heap.size w w':=by
 have J:=aO (nA r R x rb w I.wv U I.rps.1 (I.rps.2 R (aD U)).1);have K:=aO (lL x rb V z w I hs Y Z);clear I U hs Y Z;unfold aPp;generalize aX R.F x=f at *;generalize dR s x=k at *;rcases f with _|a<;>rcases k with _|b
 ·go_enter Tryz.func145,Tryz.ntmps145
  go_wp2_with (first|(go_at_call 141;refine J.out.mono ?_;rintro e w' ⟨rfl,rfl⟩)|(go_at_call 142;refine K.out.mono ?_;rintro e W ⟨rfl,E⟩))
  go_ret;exact⟨rfl,E⟩
 ·go_enter Tryz.func145,Tryz.ntmps145
  go_wp2_with (first|(go_at_call 141;refine J.out.mono ?_;rintro e w' ⟨rfl,rfl⟩)|(go_at_call 142;refine K.out.mono ?_;rintro e W ⟨rfl,E⟩))
  go_ret;exact⟨rfl,E⟩
 ·go_enter Tryz.func145,Tryz.ntmps145
  go_wp2_with (first|(go_at_call 141;refine J.out.mono ?_;rintro e w' ⟨rfl,rfl⟩)|(go_at_call 142;refine K.out.mono ?_;rintro e W ⟨rfl,E⟩))
  go_ret;exact⟨rfl,E⟩
 ·have hq:(a.toList == b.toList)=decide (some a=some b):=by rw[oM];simp
  have HQ:=aO hq;clear hq;go_enter Tryz.func145,Tryz.ntmps145
  go_wp2_with (first|(go_at_call 141;refine J.out.mono ?_;rintro e w' ⟨rfl,rfl⟩)|(go_at_call 142;refine K.out.mono ?_;rintro e W ⟨rfl,E⟩))
  go_ret;exact⟨cB HQ.out,E⟩
end
theorem bBv(x y:ByteArray):bl x y=decide (mI x<mI y):=by
 unfold bl;rw[bytesLess_eq,Lib.toList_data,Lib.toList_data];rfl
theorem aLa(x y:ByteArray):∀l:List ByteArray,y∈ins x l↔y=x\/y∈l
 | []=>by simp[ins]
 | a::l=>by
  unfold ins;split
  ·simp
  ·simp only[cC,aLa x y l];constructor
   ·rintro(h|h|h)<;>simp[h]
   ·rintro(h|h|h)<;>simp[h]
theorem aS5(x:ByteArray):∀l:List ByteArray,pG l->x∉l->pG (ins x l)
 | [],_,_=>by simp[ins,pG]
 | a::l,h,hx=>by
  have h2:=aQc.1 h;unfold ins;rw[bBv];by_cases E:mI x<mI a
  ·rw[decide_eq_true E,if_pos rfl]
   exact aQc.2 ⟨λb z=>by
    rcases cC.1 z with rfl|z
    ·exact E
    ·exact List.lt_trans E (h2.1 b z),h⟩
  ·rw[decide_eq_false E,if_neg (by simp)];have J:mI a≠mI x:=λe=>hx (by rw[aKn e];simp);have I:mI a<mI x:=by
    rcases List.le_iff_lt_or_eq.1 (List.not_lt.1 E) with h|h
    ·exact h
    ·exact absurd h J
   refine aQc.2 ⟨λb z=>?_,aS5 x l h2.2 λh=>hx (dP _ h)⟩;rcases(aLa x b l).1 z with rfl|z
   ·exact I
   ·exact h2.1 b z
theorem aE1(L:List ByteArray)(x:ByteArray):(pI L x).isSome=true↔x∈L:=by
 unfold pI;rw[List.findIdx?_isSome];simp
theorem aX3:∀(L out:List ByteArray),pG out->pG (L.foldl yD out)/\∀y,y∈L.foldl yD out↔y∈out\/y∈L
 | [],out,h=>⟨h,λy=>by simp⟩
 | x::L,out,h=>by
  have E:pG (yD out x)/\∀y,y∈yD out x↔y∈out\/y=x:=by
   unfold yD;by_cases z:x∈out
   ·rw[if_pos ((aE1 out x).2 z)];exact⟨h,λy=>⟨.inl,λh2=>by rcases h2 with h2|rfl<;>assumption⟩⟩
   ·rw[if_neg (λh2=>z ((aE1 out x).1 h2))];exact⟨aS5 x out h z,λy=>by rw[aLa];exact Or.comm⟩
  obtain⟨a,b⟩:=aX3 L (yD out x) E.1;refine⟨a,λy=>?_⟩;show y∈L.foldl yD (yD out x)↔_;rw[b y,E.2 y,cC,or_assoc]
theorem mR(L:List ByteArray):pG (yG L)/\∀y,y∈yG L↔y∈L:=by
 have:=aX3 L [] (by simp[pG]);exact⟨this.1,λy=>by rw[show yG L=L.foldl yD [] from rfl,this.2 y];simp⟩
section
variable {e:iA} {own:List ByteArray} {Pa:List PM} {D:RD} {L:ByteArray->cL->Prop} {s:ByteArray->PL}
theorem ei9:EI 35 9 1 16:=by
 obtain⟨i0,hi,z,E,I⟩:=info_parts Tryz.info9;exact⟨i0,_,Tryz.underlying35,hi,z,E,I,rfl,by decide⟩
def iP(D:RD)(z:RS)(k:Nat):List ByteArray:=(List.range k).flatMap λj=>if z.came[j]?=some true/\z.gone[j]?=some false then (D.files[j]?.map (·.1)).toList else []
theorem aC0(D:RD)(z:RS)(k:Nat):iP D z (k+1)=iP D z k++(if z.came[k]?=some true/\z.gone[k]?=some false then (D.files[k]?.map (·.1)).toList else []):=by
 unfold iP;rw[vL,eE];simp
theorem zL(D:RD)(z:RS):∀k,(iP D z k).length<=k
 | 0=>by simp[iP]
 | k+1=>by
  rw[aC0,aJ];have:=zL D z k;split
  ·cases D.files[k]?<;>simp<;>omega
  ·simp;omega
theorem aQj{z:RS}(h:iE e own Pa D L s z.abs)(x:ByteArray):x∈iP D z D.files.length↔(s x).alive=true:=by
 unfold iP;rw[dD];constructor
 ·rintro⟨j,-,E⟩;split at E
  ·rename_i J
   cases K:D.files[j]? with
   | none=>rw[K] at E;simp at E
   | some p=>
    obtain⟨y,k⟩:=p;rw[K] at E;have W:x=y:=by simpa using E
    subst W;by_cases U:(s x).by_=lF
    ·exact absurd J.1 (h.no x U j k K)
    ·by_cases V:j=e.fi x (s x).by_
     ·have:=(h.yes x U).2.2.1;rw[<- V] at this;have h2:z.gone[j]?=some (!(s x).alive):=this;rw[J.2] at h2
      cases I:(s x).alive
      ·rw[I] at h2;cases h2
      ·rfl
     ·have:=(h.oth x j k K J.1 V).1;have h2:z.gone[j]?=some true:=this;rw[J.2] at h2
      cases h2
  ·cases E
 ·intro I;have U:(s x).by_≠lF:=λh2=>by have:=h.zr x h2;rw[I] at this;cases this
  obtain⟨⟨k,f0⟩,f1,f2,-⟩:=h.yes x U;rw[I] at f2;refine⟨_,fL.2 (aB.1 f0).1,?_⟩;rw[if_pos ⟨f1,f2⟩,f0];simp
theorem zM(r:Nat)(R:iD)(rb sb:Nat)(z:RS)(w:World)(hK:kC w rb D e own Pa D)(hR:D.repos[r]?=some R)(hs:sE w sb z)(hS:iE e own Pa D L s z.abs)(c9:D.files.length<=10000):
  Calls Tryz.prog 144 #[.pointer (some ⟨rb,0,none⟩),.int .i64 r,.pointer (some ⟨sb,0,none⟩)] w λq w'=>∃v K,q=.returned v/\w'.ownsRow w.heap.size 9 1 v K.length (bW K)/\pG K/\(∀x,x∈K↔(aX R.F x).isSome=true\/(s x).alive=true)/\Below w.heap.size w w':=by
 have d2:=hK.rps.1;have d1:=(hK.rps.2 R (aD hR)).1;have b4:=aO hK.wv;have HS:=aO hs;have d3:=(aB.1 hR).1;have HR:=aO hR;have HM:Hid (∀x,x∈fO R.F++iP D z D.files.length↔(aX R.F x).isSome=true\/(s x).alive=true):=λx=>by
  rw[aG,aQj hS x];constructor
  ·rintro(h|h)
   ·refine .inl ?_;obtain⟨k,hk⟩:=lH.1 ((aE1 (fO R.F) x).2 h);obtain⟨t,-,h2⟩:=rD hk;rw[h2];rfl
   ·exact .inr h
  ·rintro(h|h)
   ·refine .inl ((aE1 (fO R.F) x).1 ?_)
    cases hk:pI (fO R.F) x with
    | none=>rw[rC hk] at h;cases h
    | some k=>rfl
   ·exact .inr h
 have HL:Hid (z.came.length=D.files.length/\z.gone.length=D.files.length):=⟨hS.l1,hS.l2⟩;clear hK hs hS hR;obtain⟨nf,b0⟩:∃n,D.files.length=n:=⟨_,rfl⟩;rw[b0] at c9 HL HM;have b2:=aO b0;clear b0;have b1:Hid (∃ra rc U so na nc,w.cell? ⟨rb,3,none⟩=some (.slice (some ⟨U,so,none⟩) D.repos.length rc)/\w.cell? ⟨U,so+r * 3,none⟩=some (.slice na R.F.length nc)/\eJ w 9 1 R.F.length (.slice na R.F.length nc) (bW (fO R.F))/\ra=some (⟨U,so,none⟩:Addr)):=by
  obtain⟨ra,rc,c3,W⟩:=b4.out.repos_;obtain⟨U,so,rfl,c0,-,-,hn,-,-⟩:=W r R HR.out;obtain⟨na,nc,e1,-,-⟩:=eJ.at_ hn;rw[e1] at c0 hn;exact⟨_,rc,U,so,na,nc,c3,c0,hn,rfl⟩
 obtain⟨-,rc,g,go,na,nc,c3,c0,b9,-⟩:=b1.out;clear b1;generalize D.repos.length=nr at *;have a0:=eX (fO R.F);go_enter Tryz.func144,Tryz.ntmps144
 go_wp2_with (at_builtin;refine mW ei9 _ rfl _ _ rfl w.heap.size (.slice none 0 0) 0 [] rfl (aK _ _ _ _) _ _ _ rfl b9 a0 (by unfold maxLen;omega) (by omega) (aA _) ?_)
 intro v1 w1 J b7;have b5:=sI (Below.refl w.heap.size w) (aK w w.heap.size 9 1) b7;have b3:Hid (w1.ownsRow w.heap.size 9 1 v1 (fO R.F++iP D z 0).length (bW (fO R.F++iP D z 0))):=by
  unfold Hid;have:iP D z 0=[]:=rfl;rw[this,cR,gV];simpa using J
 clear J b7 c3 c0 b9 a0;go_wp2
 go_loopw [7,8] (λv i wr=>∃k:Nat,k<=nf/\i=.int .i64 k/\Hid (wr.ownsRow w.heap.size 9 1 v (fO R.F++iP D z k).length (bW (fO R.F++iP D z k)))/\Below w.heap.size w wr) (λ_ i _=>nf - (intOf i).toNat)
 case atStart=>exact⟨0,aE _,rfl,b3,b5⟩
 case round=>
  clear b5 b3;obtain⟨k,hk,rfl,HO,V⟩:=hrel;have d0:=V.size;obtain⟨fa,fc,f2,a7⟩:=(b4.out.below V).files_;rw[b2.out] at f2;by_cases a9:k<nf
  ·obtain⟨y,p,a8⟩:∃y p,D.files[k]?=some (y,p):=⟨_,_,aC (by rw[b2.out];exact a9)⟩;obtain⟨fb,fo,rfl,f0,-⟩:=a7 k y p a8;obtain⟨c,a5⟩:∃c,z.came[k]?=some c:=⟨_,aC (by rw[HL.out.1];exact a9)⟩;obtain⟨d,a6⟩:∃d,z.gone[k]?=some d:=⟨_,aC (by rw[HL.out.2];exact a9)⟩;obtain⟨ca,cc,c0,W⟩:=(HS.out.below V).came_;obtain⟨ga,gc,g0,b8⟩:=(HS.out.below V).gone_;obtain⟨cb,co,rfl,c1⟩:=W k c a5;obtain⟨gb,go,rfl,g1⟩:=b8 k d a6;rw[HL.out.1] at c0;rw[HL.out.2] at g0;have HT:=aO (aC0 D z k);have a2:=zL D z k;rw[a5,a6,a8] at HT;have E:=gV R.F;clear a7 W b8 a8 a5 a6;by_cases a4:c=true/\d=false
   ·obtain⟨rfl,rfl⟩:=a4;have a1:Hid (iP D z (k+1)=iP D z k++[y]):=by unfold Hid;rw[HT.out];simp
    clear HT;have Y:(fO R.F++iP D z k).length<=1000000:=by rw[aJ,E];omega
    generalize hM:fO R.F++iP D z k=M at *;have c5:=aO hM;clear hM E a2
    go_wp2_with (at_builtin;refine jL ei9 _ rfl _ _ rfl w.heap.size _ _ _ rfl HO.out #[.string y] rfl rfl (eX [y]) Y (by decide) d0 ?_)
    intro v' w2 I hg Z;have a3:=Z _ _ V (aA _);have c6:Hid (w2.ownsRow w.heap.size 9 1 v' (M++[y]).length (bW (M++[y]))):=by unfold Hid;simpa[bW] using I
    clear I hg Z HO V f2 f0 c0 c1 g0 g1;go_wp2
    go_roundw
    case rel=>exact⟨k+1,by omega,by go_num,by rw[a1.out,<- bG,c5.out];exact c6,a3⟩
    case measure=>simp[intOf];omega
   ·have a1:Hid (iP D z (k+1)=iP D z k):=by unfold Hid;rw[HT.out,if_neg (by simpa using a4),cR]
    clear HT;have b6:c=false\/(c=true/\d=true):=by cases c<;>cases d<;>simp_all
    clear a4;rcases b6 with rfl|⟨rfl,rfl⟩ <;>
    ·go_wp2
     go_roundw
     case rel=>exact⟨k+1,by omega,by go_num,by rw[a1.out];exact HO,V⟩
     case measure=>simp[intOf];omega
  ·obtain rfl:k=nf:=by omega
   clear a7;have a2:=zL D z k;have E:=gV R.F;obtain⟨c2,c4⟩:=mR (fO R.F++iP D z k);have c7:=aO c2;have c8:Hid (∀x,x∈yG (fO R.F++iP D z k)↔(aX R.F x).isSome=true\/(s x).alive=true):=λx=>(c4 x).trans (HM.out x);have Y:(fO R.F++iP D z k).length<=100000:=by rw[aJ,E];omega
   generalize fO R.F++iP D z k=M at *;obtain⟨va,vc,e1⟩:=bC HO.out;subst e1;have HC:=aO (uK M va vc wr (gD.own HO.out) Y);clear c2 c4 a2 E Y
   go_wp2_with (go_at_call 143;refine HC.out.mono ?_;rintro q w2 ⟨v,rfl,ho,a3⟩)
   go_ret;exact⟨v,_,rfl,bK ho V.size,c7.out,c8.out,V.trans (a3.mono V.size)⟩
end
theorem gR{x:ByteArray}(h:dJ x=true):x.size<=480:=by
 refine wP λz=>?_;rw[aCd (by omega)] at h
 cases h
theorem FK.exact{w:World}{V n:Nat}{F:jN}(h:FK w V (aX F) n)(U:(fO F).Nodup):∃D,w.ownsMap Tryz.prog 9 gU V n D/\Maps.size D=F.length:=by
 obtain⟨D,h1,h2,Z⟩:=h;obtain⟨k1,k2⟩:=zS h1;have J:Maps.size D=(strKeys D).length:=by
  obtain⟨es,hD,_⟩:=h1.keysOf;rw[hD];simp[strKeys,Maps.size]
 have z:∀x:List UInt8,x∈strKeys D↔x∈(fO F).map λy=>y.data.toList:=λx=>by
  rw[k2 x];have e:(.string x:Lit)=kl ⟨x.toArray⟩:=by simp[kl]
  rw[e,Z,iQ,aI];constructor
  ·exact λE=>⟨_,E,by simp⟩
  ·rintro⟨y,hy,rfl⟩;have:(⟨y.data.toList.toArray⟩:ByteArray)=y:=by simp
   rw[this];exact hy
 have I:((fO F).map λy=>y.data.toList).Nodup:=by
  unfold List.Nodup at U ⊢;rw[jB];exact U.imp λE e=>E (aBs e)
 refine⟨D,h1,?_⟩;rw[J];have W:=xM k1 λx K=>(z x).1 K;have Y:=xM I λx K=>(z x).2 K;rw[aT,gV] at W Y;omega
section
variable {B pb rg:Nat} {cap:qR} {gb:Nat} {pv:Value} {Ps:List PM} {fb fn:Nat} {f:ByteArray->Option ByteArray} {G:List cL}
theorem aUb{w:World}(h:cF w B pb rg cap gb pv Ps fb fn f G)(r:Int):Calls Tryz.prog 42 #[.pointer (some ⟨pb,0,none⟩),.int .i64 r] w λe w'=>e=.returned (.bool (lE r cap.nr))/\w'=w:=by
 have E:=h.c0;have z:=h.cap1.2.2.1;clear h;by_cases h1:0<=r
 ·by_cases h2:r<cap.nr
  ·have e:lE r cap.nr=true:=by unfold lE;simp[h1,h2]
   rw[e];go_enter Tryz.func42,Tryz.ntmps42;go_wp2;go_ret;exact⟨rfl,rfl⟩
  ·have e:lE r cap.nr=false:=by unfold lE;simp[h2]
   rw[e];go_enter Tryz.func42,Tryz.ntmps42;go_wp2;go_ret;exact⟨rfl,rfl⟩
 ·have e:lE r cap.nr=false:=by unfold lE;simp[h1]
  rw[e];go_enter Tryz.func42,Tryz.ntmps42;go_wp2;go_ret;exact⟨rfl,rfl⟩
theorem aSj{w:World}{F:jN}(h:cF w B pb rg cap gb pv Ps fb fn (aX F) G)(a5:(fO F).Nodup)(a9:fn<=1000)(name text:ByteArray)(hc:gZ F name text≠0):
  Calls Tryz.prog 43 #[.pointer (some ⟨rg,cap.r * 2,none⟩),.string name,.string text] w λe w'=>e=.returned (.int .i64 (gZ F name text))/\Below w.heap.size w w':=by
 have V:=aO (iF name w);have HL:Hid (∀u,Calls Tryz.prog 62 #[.string text] u λe w'=>∃va vn vc,e=.returned (.tuple #[.slice va vn vc,.bool (dH text)])/\Below u.heap.size u w'):=λu=>by
  refine(rJ text u).mono ?_;rintro e w' ⟨v,rfl,h1,h2⟩;obtain⟨va,vc,rfl⟩:=bC h1;exact⟨va,_,vc,rfl,h2⟩
 have HW:Hid (gZ F name text=if dJ name=true then (if dH text=true then (if (pI (fO F) name).isNone=true/\5<=F.length then 4 else 0) else 3) else 2):=rfl;have HF:=aO h.files;have a3:=h.files.lt;have hr:=h.r1;have a6:=h.lts.2.1;clear h
 cases I:dJ name
 ·have W:gZ F name text=2:=by rw[HW.out,I];rfl
  rw[W];rw[I] at V;clear I hc;go_enter Tryz.func43,Tryz.ntmps43
  go_wp2_with (go_at_call 61;refine V.out.mono ?_;rintro e w1 ⟨rfl,z⟩)
  go_ret;exact⟨rfl,z⟩
 rw[I] at V
 cases K:dH text
 ·have W:gZ F name text=3:=by rw[HW.out,I,K];rfl
  rw[W];rw[K] at HL;clear I K hc;go_enter Tryz.func43,Tryz.ntmps43
  go_wp2_with (first|(go_at_call 61;refine V.out.mono ?_;rintro e w1 ⟨rfl,z⟩)|(go_at_call 62;refine(HL.out _).mono ?_;rintro e w2 ⟨va,vn,vc,rfl,J⟩))
  go_ret;exact⟨rfl,z.trans (J.mono z.size)⟩
 rw[K] at HL;have Y:(pI (fO F) name).isNone=true/\5<=F.length:=by
  apply Classical.byContradiction;intro h9;apply hc;rw[HW.out,I,K];simp only[if_true];rw[if_neg h9]
 have W:gZ F name text=4:=by rw[HW.out,I,K];simp[Y]
 rw[W];have b1:=gR I;have a1:aX F name=none:=by
  rcases hk:pI (fO F) name with _|k
  ·exact rC hk
  ·rw[hk] at Y;simp at Y
 have a7:=Y.2;have U:Hid (∀u,Below w.heap.size w u->(∀ty,(Builtin.len_ #[85] ty #[.map (some fb)]).run Tryz.prog u=.ok (.int .i64 (F.length:Nat)) u)/\(Instr.lookup 85 (.map (some fb)) (.string name) true).run Tryz.prog u=.ok (.tuple #[.agg #[.string ⟨#[]⟩],.bool false]) u/\u.cell? ⟨rg,cap.r * 2+1,none⟩=some (.map (some fb))):=λu hu=>by
  have Z:=HF.out.same (hu.block fb a3);obtain⟨D,g1,g2⟩:=Z.exact a5;refine⟨λty=>?_,?_,(hu.cell (p:=⟨rg,cap.r * 2+1,none⟩) a6).trans hr⟩
  ·rw[<- g2];exact g1.len Tryz.underlying85 ty
  ·have:=Z.look name (by omega);rw[a1] at this;exact this
 clear I K hc Y a1 HW hr;have a8:decide ((5:Int)<=(F.length:Int))=true:=by simp;omega
 go_enter Tryz.func43,Tryz.ntmps43
 go_wp2_with fail
 refine V.out.mono ?_;rintro e w1 ⟨rfl,z⟩
 go_wp2_with fail
 refine(HL.out _).mono ?_;rintro e w2 ⟨va,vn,vc,rfl,J⟩;have E:Below w.heap.size w w2:=z.trans (J.mono z.size);obtain⟨-,b0,c2⟩:=U.out w2 E;have a0:Below w.heap.size w (w2.alloc (.cells #[.string ⟨#[]⟩] 105)):=E.alloc E.size _;obtain⟨a2,-,c3⟩:=U.out _ a0;have a4:=a2 3;go_wp2;go_ret;exact⟨rfl,a0⟩
end
section
variable {B pb rg:Nat} {cap:qR} {gb:Nat} {pv:Value} {Ps:List PM} {fb fn:Nat} {f:ByteArray->Option ByteArray} {G:List cL}
theorem tW{w u w':World}{J:Option Nat}(z:Below w.heap.size w u)(E:u.grownBy w' J):w.grownBy w' J:=⟨E.os.trans z.os,E.tape.trans z.tape,E.output.trans z.output,aR z.size E.size,λk I K=>(E.block k (bJ I z.size) K).trans (z.block k I)⟩
theorem sR{w:World}(h:cF w B pb rg cap gb pv Ps fb fn f G){r:Int}{b:Bool}(z:lE r cap.nr=b):Hid (Calls Tryz.prog 42 #[.pointer (some ⟨pb,0,none⟩),.int .i64 r] w λe w'=>e=.returned (.bool b)/\w'=w):=by
 have:=aUb h r;rw[z] at this;exact this
theorem aSi{w:World}(h:cF w B pb rg cap gb pv Ps fb fn f G)(r:Int)(z:lE r cap.nr=false)(name text:ByteArray):
  Calls Tryz.prog 16 #[.pointer (some ⟨pb,0,none⟩),.int .i64 r,.string name,.string text] w λe w'=>e=.returned (.int .i64 1)/\w'=w:=by
 have E:=sR h z;clear h z;go_enter Tryz.func16,Tryz.ntmps16
 go_wp2_with (go_at_call 42;refine E.out.mono ?_;rintro e I ⟨rfl,rfl⟩)
 go_ret;exact⟨rfl,rfl⟩
theorem aDz{w:World}{F:jN}(h:cF w B pb rg cap gb pv Ps fb fn (aX F) G)(W:(fO F).Nodup)(hF:F.length<=900)(name text:ByteArray):
  Calls Tryz.prog 16 #[.pointer (some ⟨pb,0,none⟩),.int .i64 cap.r,.string name,.string text] w λe w'=>e=.returned (.int .i64 (gZ F name text))/\((gZ F name text=0/\(∃E,cF w' B pb rg cap gb pv Ps fb E (λx=>if x=name then some text else aX F x) G)/\w.grownBy w' (some fb))\/(gZ F name text≠0/\Below w.heap.size w w')):=by
 have Y:=aO (kF h);have I:=h.few (N:=fO F) λx hx=>iQ.1 hx;have HW:Hid (Calls Tryz.prog 43 #[.pointer (some ⟨rg,cap.r * 2,none⟩),.string name,.string text] w λe w'=>e=.returned (.int .i64 (gZ F name text))/\((gZ F name text=0/\(∃E,cF w' B pb rg cap gb pv Ps fb E (λx=>if x=name then some text else aX F x) G)/\w.grownBy w' (some fb))\/(gZ F name text≠0/\Below w.heap.size w w'))):=by
  by_cases z:gZ F name text=0
  ·have U:dJ name=true:=by
    cases J:dJ name with
    | true=>rfl
    | false=>unfold gZ at z;rw[J] at z;simp at z
   have hl:dH text=true:=by
    cases J:dH text with
    | true=>rfl
    | false=>unfold gZ at z;rw[U,J] at z;simp at z
   have Z:¬ ((pI (fO F) name).isNone=true/\5<=F.length):=λJ=>by
    unfold gZ at z;rw[U,hl] at z;simp only[if_true] at z;rw[if_pos J] at z
    cases z
   have a1:=gR U;have V:(aX F name).isSome=true\/(fO F).length<5:=by
    rcases hk:pI (fO F) name with _|k
    ·rw[hk] at Z;rw[gV]
     exact .inr (by
      apply Classical.byContradiction;intro h7
      exact Z ⟨rfl,by omega⟩)
    ·obtain⟨t,-,e⟩:=rD hk;exact .inl (by rw[e];rfl)
   refine(aP6 (aX F) fb (fO F).length rg (cap.r * 2) name text w I.files (by rw[gV];omega) I.r1 I.lts.2.1 (by omega) U hl V).mono ?_;rintro e w' ⟨rfl,u,hu,h1,h2⟩;have K:=I.below hu;rw[z];exact⟨rfl,.inl ⟨rfl,⟨_,K.map_put h2 K.files.map (.inr rfl) (K.given.same (h2.block gb K.lts.2.2.1 (by simp;exact I.ne))) h1⟩,tW hu h2⟩⟩
  ·exact(aSj I W (by rw[gV];omega) name text z).mono λe w' ⟨g1,g2⟩=>⟨g1,.inr ⟨z,g2⟩⟩
 have c0:=h.c0;have a0:=h.cap1;clear h I;generalize gZ F name text=c at *;go_enter Tryz.func16,Tryz.ntmps16
 go_wp2_with fail
 refine Y.out.mono ?_;rintro e w0 ⟨rfl,rfl⟩
 go_wp2_with fail
 refine HW.out.mono ?_;rintro e w1 ⟨rfl,h2⟩;have HX:=aO h2;clear h2 HW Y;go_wp2;go_ret;exact⟨rfl,HX.out⟩
theorem aR7(x:ByteArray)(E:dJ x=false)(p:Addr)(w:World):
  Calls Tryz.prog 79 #[.pointer (some p),.string x] w λe w'=>e=.returned (.tuple #[.string ⟨#[]⟩,.int .i64 2])/\Below w.heap.size w w':=by
 have z:=aO (iF x w);rw[E] at z;clear E;go_enter Tryz.func79,Tryz.ntmps79
 go_wp2_with (go_at_call 61;refine z.out.mono ?_;rintro e J ⟨rfl,I⟩)
 go_ret2;exact⟨rfl,I⟩
def mN(f:ByteArray->Option ByteArray)(x:ByteArray):ByteArray×Int:=if dJ x=true then ((f x).getD ⟨#[]⟩,if (f x).isSome=true then 0 else 5) else (⟨#[]⟩,2)
theorem aHf{w:World}(h:cF w B pb rg cap gb pv Ps fb fn f G)(x:ByteArray):
  Calls Tryz.prog 79 #[.pointer (some ⟨rg,cap.r * 2,none⟩),.string x] w λe w'=>e=.returned (.tuple #[.string (mN f x).1,.int .i64 (mN f x).2])/\Below w.heap.size w w':=by
 unfold mN
 cases z:dJ x with
 | true=>exact aU8 h x (by have:=gR z;omega) z
 | false=>exact aR7 x z _ w
theorem aHe{w:World}(h:cF w B pb rg cap gb pv Ps fb fn f G)(x:ByteArray):
  Calls Tryz.prog 50 #[.pointer (some ⟨pb,0,none⟩),.int .i64 cap.r,.string x] w λe w'=>e=.returned (.tuple #[.string (mN f x).1,.int .i64 (mN f x).2])/\Below w.heap.size w w':=by
 have E:=aO (kF h);have I:=aO (aHf h x);have K:=h.c0;have z:=h.cap1;clear h;generalize (mN f x).1=t at *;generalize (mN f x).2=c at *;go_enter Tryz.func50,Tryz.ntmps50
 go_wp2_with (first|(go_at_call 42;refine E.out.mono ?_;rintro e U ⟨rfl,rfl⟩)|(go_at_call 79;refine I.out.mono ?_;rintro e V ⟨rfl,J⟩))
 go_ret2;exact⟨rfl,J⟩
theorem aU7{w:World}(h:cF w B pb rg cap gb pv Ps fb fn f G)(r:Int)(z:lE r cap.nr=false)(x:ByteArray):
  Calls Tryz.prog 50 #[.pointer (some ⟨pb,0,none⟩),.int .i64 r,.string x] w λe w'=>e=.returned (.tuple #[.string ⟨#[]⟩,.int .i64 1])/\w'=w:=by
 have E:=sR h z;clear h z;go_enter Tryz.func50,Tryz.ntmps50
 go_wp2_with (go_at_call 42;refine E.out.mono ?_;rintro e I ⟨rfl,rfl⟩)
 go_ret2;exact⟨rfl,rfl⟩
theorem aUh{w:World}(h:cF w B pb rg cap gb pv Ps fb fn f G)(r:Int)(z:lE r cap.nr=false)(x:ByteArray):
  Calls Tryz.prog 18 #[.pointer (some ⟨pb,0,none⟩),.int .i64 r,.string x] w λe w'=>e=.returned (.tuple #[.string ⟨#[]⟩,.int .i64 1])/\w'=w:=by
 have E:=sR h z;clear h z;go_enter Tryz.func18,Tryz.ntmps18
 go_wp2_with (go_at_call 42;refine E.out.mono ?_;rintro e I ⟨rfl,rfl⟩)
 go_ret2;exact⟨rfl,rfl⟩
theorem aRe(x:ByteArray)(E:dJ x=false)(p:Addr)(w:World):
  Calls Tryz.prog 46 #[.pointer (some p),.string x] w λe w'=>e=.returned (.tuple #[.string ⟨#[]⟩,.int .i64 2])/\Below w.heap.size w w':=by
 have z:=aO (iF x w);rw[E] at z;clear E;go_enter Tryz.func46,Tryz.ntmps46
 go_wp2_with (go_at_call 61;refine z.out.mono ?_;rintro e J ⟨rfl,I⟩)
 go_ret2;exact⟨rfl,I⟩
theorem aRc{w:World}(h:cF w B pb rg cap gb pv Ps fb fn f G)(x:ByteArray)(E:dJ x=false):
  Calls Tryz.prog 18 #[.pointer (some ⟨pb,0,none⟩),.int .i64 cap.r,.string x] w λe w'=>e=.returned (.tuple #[.string ⟨#[]⟩,.int .i64 2])/\Below w.heap.size w w':=by
 have I:=aO (kF h);have J:=aO (aRe x E ⟨rg,cap.r * 2,none⟩ w);have U:=h.c0;have z:=h.cap1;clear h E;go_enter Tryz.func18,Tryz.ntmps18
 go_wp2_with (first|(go_at_call 42;refine I.out.mono ?_;rintro e V ⟨rfl,rfl⟩)|(go_at_call 46;refine J.out.mono ?_;rintro e W ⟨rfl,K⟩))
 go_ret2;exact⟨rfl,K⟩
theorem aQ4{w:World}(h:cF w B pb rg cap gb pv Ps fb fn f G)(r:Int)(z:lE r cap.nr=false):
  Calls Tryz.prog 98 #[.pointer (some ⟨pb,0,none⟩),.int .i64 r] w λe w'=>e=.returned (.tuple #[.slice none 0 0,.int .i64 1])/\w'=w:=by
 have E:=sR h z;clear h z;go_enter Tryz.func98,Tryz.ntmps98
 go_wp2_with (go_at_call 42;refine E.out.mono ?_;rintro e I ⟨rfl,rfl⟩)
 go_ret2;exact⟨rfl,rfl⟩
theorem aN1{w:World}{F:jN}(h:cF w B pb rg cap gb pv Ps fb fn (aX F) G)(a0:fn<=1000):
  Calls Tryz.prog 98 #[.pointer (some ⟨pb,0,none⟩),.int .i64 cap.r] w λe w'=>∃v,e=.returned (.tuple #[v,.int .i64 0])/\w'.ownsRow w.heap.size 9 1 v (yG (fO F)).length (bW (yG (fO F)))/\Below w.heap.size w w':=by
 have U:=aO (kF h);have V:Hid (Calls Tryz.prog 168 #[.pointer (some ⟨rg,cap.r * 2,none⟩)] w λe w'=>∃z E,e=.returned (.slice z (yG (fO F)).length E)/\w'.ownsRow w.heap.size 9 1 (.slice z (yG (fO F)).length E) (yG (fO F)).length (bW (yG (fO F)))/\Below w.heap.size w w'):=by
  refine(aA2 (aX F) fb fn rg (cap.r * 2) w h.files (by omega) h.r1).mono ?_;rintro e w' ⟨v,K,rfl,g1,g2,g3,-,Y⟩;obtain rfl:K=yG (fO F):=pG.ext g2 (mR (fO F)).1 (λx=>by rw[g3,(mR (fO F)).2,iQ]);obtain⟨z,E,rfl⟩:=bC g1;exact⟨z,E,rfl,g1,Y⟩
 have c0:=h.c0;have I:=h.cap1;clear h;generalize a1:(yG (fO F)).length=sl at *;go_enter Tryz.func98,Tryz.ntmps98
 go_wp2_with (first|(go_at_call 42;refine U.out.mono ?_;rintro e w0 ⟨rfl,rfl⟩)|(go_at_call 168;refine V.out.mono ?_;rintro e w1 ⟨z,E,rfl,J,Z⟩;have W:=aO J;clear J))
 go_ret2;exact⟨_,rfl,W.out,Z⟩
theorem aZc{w:World}(h:cF w B pb rg cap gb pv Ps fb fn f G)(r:Int)(z:lE r cap.nr=false)(s:ByteArray):
  Calls Tryz.prog 17 #[.pointer (some ⟨pb,0,none⟩),.int .i64 r,.string s] w λe w'=>e=.returned (.tuple #[.string ⟨#[]⟩,.int .i64 1])/\w'=w:=by
 have E:=sR h z;clear h z;go_enter Tryz.func17,Tryz.ntmps17
 go_wp2_with (go_at_call 42;refine E.out.mono ?_;rintro e I ⟨rfl,rfl⟩)
 go_ret2;exact⟨rfl,rfl⟩
theorem aWq{w:World}(h:cF w B pb rg cap gb pv Ps fb fn f G)(s:ByteArray)(hs:dY s=false):
  Calls Tryz.prog 17 #[.pointer (some ⟨pb,0,none⟩),.int .i64 cap.r,.string s] w λe w'=>e=.returned (.tuple #[.string ⟨#[]⟩,.int .i64 6])/\Below w.heap.size w w':=by
 have J:=aO (kF h);have HW:Hid (Calls Tryz.prog 44 #[.string s] w λe w'=>∃z I E,e=.returned (.tuple #[.slice z I E,.bool false])/\Below w.heap.size w w'):=by
  have:=rP s w;rw[hs] at this;refine this.mono ?_;rintro e w' ⟨v,rfl,h1,h2⟩;obtain⟨z,E,rfl⟩:=bC h1;exact⟨z,_,E,rfl,h2⟩
 clear h hs;go_enter Tryz.func17,Tryz.ntmps17
 go_wp2_with (first|(go_at_call 42;refine J.out.mono ?_;rintro e U ⟨rfl,rfl⟩)|(go_at_call 44;refine HW.out.mono ?_;rintro e V ⟨z,I,E,rfl,K⟩))
 go_ret2;exact⟨rfl,K⟩
end
section
variable {B pb rg:Nat} {cap:qR} {gb:Nat} {pv:Value} {Ps:List PM} {fb fn:Nat} {f:ByteArray->Option ByteArray} {G:List cL}
theorem aH9{w:World}(h:cF w B pb rg cap gb pv Ps fb fn f G){st:Nat->Nat->ByteArray->PL}{c9:Nat->Nat}(hs:hU Ps st c9)(hB:B<=w.heap.size)(e2:Ps.length<=1000)(N:List ByteArray)(hN:N.length<=900)(a3:∀x,(f x).isSome=true->x∈N)(na:Option Addr)(nn nc:Nat)(L:List ByteArray)(b1:∀x∈L,x∈N)(hL:gD w na L)(d1:nn=L.length)(e1:L.length<=1000000)
  (hx:∀x∈L,x.size<=1000/\(st Ps.length 0 x).S.length<=1000000/\(dM (st Ps.length 0 x).S).size<=1000000000) :
  Calls Tryz.prog 124 #[.pointer (some ⟨rg,cap.r * 2,none⟩),.slice na nn nc] w λe w'=>e=.returned (.tuple #[])/\cF w' B pb rg cap gb pv Ps fb N.length (sS f (st Ps.length 0) L) G/\w.grownBy w' (some fb):=by
 obtain⟨s,a5⟩:∃s,st Ps.length 0=s:=⟨_,rfl⟩;have HK:Hid (Calls Tryz.prog 77 #[.pointer (some ⟨rg,cap.r * 2,none⟩)] w λe w'=>∃V n,e=.returned (.agg #[.map (some V)])/\cK w' V s n/\n<=100000/\w.heap.size<=V/\Below w.heap.size w w'):=by
  have:=wE hs h.view (by omega) h.r0 h.lts.2.1;rw[a5] at this;exact this
 rw[a5] at hx ⊢;have HO:=aO (h.few a3);have HX:=aO hx;have c7:=aO a3;have a7:=aO b1;have HL:=aO hL;clear h hs a5 hx a3 b1 hL;subst d1;go_enter Tryz.func124,Tryz.ntmps124
 go_wp2_with fail
 refine HK.out.mono ?_;rintro e w2 ⟨V,n,rfl,b3,hn,e4,Z⟩;clear HK;obtain⟨z,Y⟩:∃z,z=w2.alloc (.cells #[.map (some V)] 121):=⟨_,rfl⟩;have W:Below w2.heap.size w2 z:=by rw[Y];exact(Below.refl _ _).alloc (aA _) _
 have I:Below w.heap.size w z:=Z.trans (W.mono Z.size);have b8:z.heap[w2.heap.size]?=some (.cells #[.map (some V)] 121 (0,0)):=by rw[Y];exact(aH w2 _).1
 have d2:w2.heap.size<z.heap.size:=by rw[Y];simp
 have e5:=Z.size;have b0:Hid (cK z V s n):=b3.below W (aA _);have a9:=aO (HO.out.below I);have c5:=aO b8;have c6:=aO (HL.out.below I);have c4:=aO (I.mono hB);have a2:=aO I;have e0:Hid (bU (λ_=>True) w z):=bU.of_below I;have d8:fb<w.heap.size:=HO.out.lts.2.2.2;have c2:=b0.out.lt;clear b3 W Z I b8 HO HL;go_wp2;rw[<- Y];clear Y
 go_loopw [11] (λx wr=>∃k:Nat,k<=L.length/\x=.int .i64 k/\Hid (cF wr B pb rg cap gb pv Ps fb N.length (sS f s (L.take k)) G/\Below B w wr/\bU (λ_=>True) z wr/\∀k,k<z.heap.size->k≠fb->wr.heap[k]?=z.heap[k]?)) (λx _=>L.length - (intOf x).toNat)
 case atStart=>exact⟨0,aE _,rfl,by show _/\_;rw[zE,aJa];exact⟨a9.out,c4.out,bU.refl _,λ_ _ _=>rfl⟩⟩
 case round=>
  obtain⟨k,e3,rfl,U⟩:=hrel;by_cases K:k<L.length
  ·obtain⟨x,a1⟩:∃x,L[k]=x:=⟨_,rfl⟩;have c3:x∈L:=by rw[<- a1];exact bZ K
   have c8:Hid (L.take (k+1)=L.take k++[x]):=by show _=_;rw[aF K,a1]
   obtain⟨hO,E,hH,hF⟩:=U.out;have d9:=hH.size;have b4:cK wr V s n:=b0.out.held (hH.mono (λ_ _=>trivial)) (hF V c2 (by omega));have c1:=(hF w2.heap.size d2 (by omega)).trans c5.out;have c0:wr.cell? ⟨w2.heap.size,0,none⟩=some (.map (some V)):=by simp[World.cell?,c1]
   obtain⟨d4,d5,d6⟩:=HX.out x c3;have HF:Hid (Calls Tryz.prog 78 #[.agg #[.map (some V)],.string x] wr λe d7=>∃a b c,nZ s x=.agg #[.string a,.bool b,.string c]/\e=.returned (.agg #[.string a,.bool b,.string c])/\Below wr.heap.size wr d7):=by
    refine(qI s V n x (by omega) wr b4 (by omega) d5 d6).mono ?_;rintro e w' ⟨rfl,hb⟩;unfold nZ;by_cases ha:(s x).alive=true
    ·rw[if_pos ha];exact⟨_,_,_,rfl,rfl,hb⟩
    ·rw[if_neg ha];exact⟨_,_,_,rfl,rfl,hb⟩
   have d3:∃b o,na=some ⟨b,o,none⟩/\wr.cell? ⟨b,o+k,none⟩=some (.string x):=by
    rcases c6.out with h0|⟨b,o,rfl,hb,d0⟩
    ·rw[h0] at K
     cases K
    ·refine⟨b,o,rfl,?_⟩;have h1:=d0 k K;have h2:L.getD k ByteArray.empty=x:=by rw[aQ,aC K,a1];rfl
     rw[h2] at h1;refine(bN (hF b hb ?_) _).trans h1;rintro rfl;obtain⟨es,c,hm⟩:=a9.out.files.map;simp[World.cell?,hm] at h1
   obtain⟨b,o,rfl,cx⟩:=d3;clear a1 hO E hH hF b4 c1
   go_wp2_with fail
   refine HF.out.mono ?_;rintro e w5 ⟨a',b',c',b9,rfl,J⟩;clear HF;obtain⟨hO,E,hH,hF⟩:=U.out;have e6:=J.size;have b2:=hO.below J;have a8:Hid (Calls Tryz.prog 190 #[.pointer (some ⟨rg,cap.r * 2,none⟩),.agg #[.string a',.bool b',.string c']] w5 λe w'=>e=.returned (.tuple #[])/\cF w' B pb rg cap gb pv Ps fb (N.length+1) (λy=>if y=x then dR s x else sS f s (L.take k) y) G/\Below B w5 w'/\bU (λ_=>True) w5 w'/\∀k,k<w5.heap.size->k≠fb->w'.heap[k]?=w5.heap[k]?):=by
    have:=aOn b2 (by have:=E.size;omega) (by omega) s x d4;rw[b9] at this;exact this
   have a6:Hid (Below B w w5/\bU (λ_=>True) z w5/\∀k,k<z.heap.size->k≠fb->w5.heap[k]?=z.heap[k]?):=⟨E.trans (J.mono (by have:=E.size;omega)),hH.trans (bU.of_below J),λk hk a0=>(J.block k (by omega)).trans (hF k hk a0)⟩;clear hO E hH hF b2 b9 J U c0 cx
   go_wp2_with fail
   refine a8.out.mono ?_;rintro e w6 ⟨rfl,a4,b5,b7,b6⟩;clear a8;have U:Hid (cF w6 B pb rg cap gb pv Ps fb N.length (sS f s (L.take (k+1))) G/\Below B w w6/\bU (λ_=>True) z w6/\∀k,k<z.heap.size->k≠fb->w6.heap[k]?=z.heap[k]?):=by
    obtain⟨g1,g2,g3⟩:=a6.out;rw[aF7] at a4;refine⟨?_,g1.trans b5,g2.trans b7,λk hk a0=>(b6 k (by have:=g2.size;omega) a0).trans (g3 k hk a0)⟩;rw[c8.out];refine a4.few (λy hy=>?_);unfold sS at hy;by_cases e:y∈L.take k++[x]
    ·rcases aG.1 e with e|e
     ·exact a7.out y (cG e)
     ·rw[bE] at e;rw[e];exact a7.out x c3
    ·rw[if_neg e] at hy;exact c7.out y hy
   clear a4 b5 b7 b6 a6;go_wp2
   go_roundw
   case rel=>exact⟨k+1,by omega,by go_num,U⟩
   case measure=>simp[intOf];omega
  ·have e:k=L.length:=by omega
   subst e;rw[bD] at U;go_wp2;refine bodyPost_end (results_none rfl _ _ _) rfl ?_;exact⟨rfl,U.out.1,U.out.2.1.os,U.out.2.1.tape,U.out.2.1.output,U.out.2.1.size,λk hk hn=>(U.out.2.2.2 k (by have:=a2.out.size;omega) (λe=>hn (by rw[e]))).trans (a2.out.block k hk)⟩
theorem aPl{w:World}(h:cF w B pb rg cap gb pv Ps fb fn f G){I:Nat->Nat->ByteArray->PL}{a2:Nat->Nat}(hs:hU Ps I a2)(hB:B<=w.heap.size)(a3:Ps.length<=1000)(a4:fn<=1000)(N:List ByteArray)(hN:N.length<=900)(U:∀x,(f x).isSome=true->x∈N)(V:∀x,(I Ps.length 0 x).alive=true->x∈N)
  (J:∀x∈N,x.size<=1000/\(I Ps.length 0 x).S.length<=1000000/\(dM (I Ps.length 0 x).S).size<=1000000000) :
  Calls Tryz.prog 71 #[.pointer (some ⟨rg,cap.r * 2,none⟩)] w λe w'=>e=.returned (.tuple #[])/\cF w' B pb rg cap gb pv Ps fb N.length (dR (I Ps.length 0)) G/\w.grownBy w' (some fb):=by
 have HK:Hid (Calls Tryz.prog 77 #[.pointer (some ⟨rg,cap.r * 2,none⟩)] w λe w'=>∃Z n,e=.returned (.agg #[.map (some Z)])/\cK w' Z (I Ps.length 0) n/\n<=100000/\w.heap.size<=Z/\Below w.heap.size w w'):=wE hs h.view (by omega) h.r0 h.lts.2.1;have HO:=aO h;have HX:=aO J;have K:=aO U;have a0:=aO V;have a1:=aO hs;clear h hs J U V;go_enter Tryz.func71,Tryz.ntmps71
 go_wp2_with fail
 refine HK.out.mono ?_;rintro e w2 ⟨Z,n,rfl,W,hn,a7,E⟩;clear HK;have a6:=E.size;have HA:Hid (Calls Tryz.prog 112 #[.pointer (some ⟨rg,cap.r * 2,none⟩),.agg #[.map (some Z)]] w2 λe w'=>∃va vn vc L,e=.returned (.slice va vn vc)/\w'.ownsRow w2.heap.size 9 1 (.slice va vn vc) L.length (bW L)/\(∀x,x∈L↔(f x).isSome=true\/(I Ps.length 0 x).alive=true)/\L.length<=fn+n/\Below w2.heap.size w2 w'):=(HO.out.below E).allNames a4 W hn;clear W
 go_wp2_with fail
 refine HA.out.mono ?_;rintro e w3 ⟨va,vn,vc,L,rfl,h1,h2,h3,Y⟩;clear HA;have z:Below w.heap.size w w3:=E.trans (Y.mono a6);have HL:Hid (Calls Tryz.prog 124 #[.pointer (some ⟨rg,cap.r * 2,none⟩),.slice va vn vc] w3 λe w'=>e=.returned (.tuple #[])/\cF w' B pb rg cap gb pv Ps fb N.length (dR (I Ps.length 0)) G/\w3.grownBy w' (some fb)):=by
  obtain⟨_,_,e⟩:=bC h1
  cases e
  have hm:∀x∈L,x∈N:=λx J=>((h2 x).1 J).elim (K.out x) (a0.out x);have:=aH9 (HO.out.below z) a1.out (by have:=z.size;omega) a3 N hN K.out va L.length vc L hm (gD.own h1) rfl (by omega) (λx J=>HX.out x (hm x J));rw[aI9 h2] at this;exact this
 clear h1 h2 h3 E Y
 go_wp2_with fail
 refine HL.out.mono ?_;rintro e w4 ⟨rfl,h4,a5⟩;clear HL;have H4:=aO h4;clear h4;go_wp2;refine bodyPost_end (results_none rfl _ _ _) rfl ?_;exact⟨rfl,H4.out,tW z a5⟩
end
section
variable {B pb rg:Nat} {cap:qR} {gb:Nat} {pv:Value} {Ps:List PM} {fb fn:Nat} {f:ByteArray->Option ByteArray} {G:List cL}
theorem aKw{w:World}(h:cF w B pb rg cap gb pv Ps fb fn f G)(x:ByteArray):
  Calls Tryz.prog 136 #[.pointer (some ⟨rg,cap.r * 2,none⟩),.string x] w λe w'=>e=.returned (.int .i64 (mN f x).2)/\(((mN f x).2=0/\cF w' B pb rg cap gb pv Ps fb fn (λy=>if y=x then none else f y) G/\w.grownBy w' (some fb))\/((mN f x).2≠0/\Below w.heap.size w w')):=by
 have V:=aO (aHf h x);have W:=aO h;clear h;have J:(mN f x).2=0->x.size<=480:=λZ=>by
  unfold mN at Z
  cases hn:dJ x with
  | true=>exact gR hn
  | false=>rw[hn] at Z;simp at Z
 generalize (mN f x).1=t at *;generalize (mN f x).2=c at *;by_cases Y:c=0
 ·subst Y;have a2:=J rfl;clear J;go_enter Tryz.func136,Tryz.ntmps136
  go_wp2_with fail
  refine V.out.mono ?_;rintro e w1 ⟨rfl,U⟩;clear V;have c1:=(W.out.below U).r1;obtain⟨D,I,h2,h3⟩:=(W.out.below U).files;have H2:=aO h2;have H3:=aO h3;have HB:=aO U;clear h2 h3 U
  go_wp2_with (at_delete;refine wpList_delete_own _ rfl _ _ 85 9 rfl 105 (fT Tryz.underlying9) Tryz.underlying85 gU fb _ D rfl I _ (kl x) rfl (aDg (by unfold maxLen;omega)) ?_;intro w2 K E)
  go_ret;have z:=W.out.below HB.out;have hg:=E.grown;exact⟨rfl,.inl ⟨by first|rfl|trivial,z.map_put hg z.files.map (.inr rfl) (z.given.same (hg.block gb z.lts.2.2.1 (by simp;exact W.out.ne))) (FK.del H2.out H3.out (I.tidy (fT Tryz.underlying9)) x K),tW HB.out hg⟩⟩
 ·have a0:(c == 0)=false:=by simpa using Y
  have a1:(c != 0)=true:=by simpa using Y
  clear J;go_enter Tryz.func136,Tryz.ntmps136
  go_wp2_with fail
  refine V.out.mono ?_;rintro e w1 ⟨rfl,U⟩;clear V;go_wp2;go_ret;exact⟨rfl,.inr ⟨Y,U⟩⟩
theorem aNv{w:World}(h:cF w B pb rg cap gb pv Ps fb fn f G)(x:ByteArray):
  Calls Tryz.prog 80 #[.pointer (some ⟨pb,0,none⟩),.int .i64 cap.r,.string x] w λe w'=>e=.returned (.int .i64 (mN f x).2)/\(((mN f x).2=0/\cF w' B pb rg cap gb pv Ps fb fn (λy=>if y=x then none else f y) G/\w.grownBy w' (some fb))\/((mN f x).2≠0/\Below w.heap.size w w')):=by
 have z:=aO (kF h);have E:=aO (aKw h x);have K:=h.c0;have I:=h.cap1;clear h;generalize (mN f x).2=c at *;go_enter Tryz.func80,Tryz.ntmps80
 go_wp2_with fail
 refine z.out.mono ?_;rintro e U ⟨rfl,rfl⟩
 go_wp2_with fail
 refine E.out.mono ?_;rintro e V ⟨rfl,h1⟩;have J:=aO h1;clear h1 E z;go_wp2;go_ret;exact⟨rfl,J.out⟩
theorem aQ2{w:World}(h:cF w B pb rg cap gb pv Ps fb fn f G)(r:Int)(z:lE r cap.nr=false)(x:ByteArray):
  Calls Tryz.prog 80 #[.pointer (some ⟨pb,0,none⟩),.int .i64 r,.string x] w λe w'=>e=.returned (.int .i64 1)/\w'=w:=by
 have E:=sR h z;clear h z;go_enter Tryz.func80,Tryz.ntmps80
 go_wp2_with (go_at_call 42;refine E.out.mono ?_;rintro e I ⟨rfl,rfl⟩)
 go_ret;exact⟨rfl,rfl⟩
end
theorem aP4(s:ByteArray)(w:World):
  Calls Tryz.prog 95 #[.string s] w λe w'=>∃v,e=.returned (.tuple #[v,.int .i64 (mO s)])/\w'.ownsRow w.heap.size 9 1 v (jP s).length (bW (jP s))/\Below w.heap.size w w':=by
 cases z:dY s
 ·rw[(mP z).1,(mP z).2];go_enter Tryz.func95,Tryz.ntmps95
  go_wp2_with fail
  refine(rP s w).mono ?_;rw[(mP z).1,z];rintro e J ⟨v,rfl,E,I⟩;go_wp2;go_ret2;exact⟨_,rfl,aK _ _ _ _,I⟩
 ·rw[(jV z).1,(jV z).2];go_enter Tryz.func95,Tryz.ntmps95
  go_wp2_with fail
  refine(rP s w).mono ?_;rw[(jV z).1,z];rintro e J ⟨v,rfl,E,I⟩;go_wp2;go_ret2;exact⟨_,rfl,E,I⟩
theorem rQ(s:ByteArray)(w:World)(hs:s.size<=maxLen):
  Calls Tryz.prog 83 #[.string s] w λe w'=>∃v,e=.returned (.tuple #[v,.int .i64 (mO s)])/\w'.ownsRow w.heap.size 9 1 v (jP s).length (bW (jP s))/\Below w.heap.size w w':=by
 have E:=aCl s w hs;by_cases I:120<pU s 0
 ·have U:=uT I;rw[(mP U).1,(mP U).2];clear U;generalize pU s 0=m at *;have Y:=E;clear E;go_enter Tryz.func83,Tryz.ntmps83
  go_wp2_with (go_at_call 137;refine Y.mono ?_;rintro e w' ⟨rfl,rfl⟩)
  go_ret2;exact⟨_,rfl,aK _ _ _ _,Below.refl _ _⟩
 ·have a1:=wP I;have a0:=uL s;have W:∀l∈bY s,l.size<=100000:=λl hl=>by have:=aIk s l hl;omega
  have HW:=wY I;generalize pU s 0=m at *;have Y:=E;clear E
  cases V:tQ (bY s)
  ·rw[V] at HW;rw[(mP HW).1,(mP HW).2];have Z:Hid (tQ (bY s)=false):=V;clear V HW;go_enter Tryz.func83,Tryz.ntmps83
   go_wp2_with fail
   refine Y.mono ?_;rintro e w' ⟨rfl,rfl⟩
   go_wp2_with fail
   refine(aA6 s _ (by omega)).mono ?_;rintro e w2 ⟨v,rfl,z,J⟩;obtain⟨ao,cap,rfl⟩:=bC z;have hv:=gD.own z
   go_wp2_with fail
   refine(aI2 _ ao cap w2 hv (by omega) W).mono ?_;rw[Z.out];rintro e w3 ⟨rfl,K⟩;go_wp2;go_ret2;exact⟨_,rfl,aK _ _ _ _,J.trans (K.mono J.size)⟩
  ·rw[V] at HW;rw[(jV HW).1,(jV HW).2];have Z:Hid (tQ (bY s)=true):=V;clear V HW;go_enter Tryz.func83,Tryz.ntmps83
   go_wp2_with fail
   refine Y.mono ?_;rintro e w' ⟨rfl,rfl⟩
   go_wp2_with fail
   refine(aA6 s _ (by omega)).mono ?_;rintro e w2 ⟨v,rfl,z,J⟩;obtain⟨ao,cap,rfl⟩:=bC z;have hv:=gD.own z
   go_wp2_with fail
   refine(aI2 _ ao cap w2 hv (by omega) W).mono ?_;rw[Z.out];rintro e w3 ⟨rfl,K⟩;go_wp2;go_ret2;exact⟨_,rfl,bQ z K (aA _),J.trans (K.mono J.size)⟩
theorem aP5(s:ByteArray):0<=mO s/\mO s<=1000:=by unfold mO;split<;>omega
theorem aDy(s:ByteArray):(jP s).length<=1000:=by
 unfold jP dY;split
 ·rename_i h
  simp at h;have h1:=wP (s:=s) (by omega);have:=uL s;omega
 ·simp
theorem aMm(s:ByteArray)(b5:s.size<=maxLen)(B bb:Nat)(S:Nat->Prop)(K:List mX)(lv kv:Value)(w:World)(a5:gG w B S bb K lv kv)(hS:∀g,S g->g<w.heap.size)(hB:B<=w.heap.size)(hK:K.length+1<=10000000):
  Calls Tryz.prog 57 #[.pointer (some ⟨bb,1,none⟩),.string s] w λe w'=>e=.returned (.bool true)/\∃x a2,gG w' B (zG w') bb (K++[x]) lv a2/\Below B w w'/\(∀g,g<w.heap.size->g≠bb->some g≠kv.ownBlock->w'.heap[g]?=w.heap[g]?):=by
 have b3:=aP5 s;have b8:=aDy s;have h5:=aP4 s w;have a4:=λZ=>rQ s Z b5;generalize mO s=z at *;generalize jP s=L at *;obtain⟨b6,b7⟩:=b3;have c2:(z == z)=true:=by simp
 have a8:Hid (∀Z,Calls Tryz.prog 83 #[.string s] Z λe w'=>∃v,e=.returned (.tuple #[v,.int .i64 z])/\w'.ownsRow Z.heap.size 9 1 v L.length (bW L)/\Below Z.heap.size Z w'):=a4;have H5:Hid (Calls Tryz.prog 95 #[.string s] w λe w'=>∃v,e=.returned (.tuple #[v,.int .i64 z])/\w'.ownsRow w.heap.size 9 1 v L.length (bW L)/\Below w.heap.size w w'):=h5;clear a4 h5;go_enter Tryz.func57,Tryz.ntmps57
 go_wp2_with fail
 refine H5.out.mono ?_;rintro e Z ⟨v,rfl,I,a0⟩;obtain⟨ao,ca,rfl⟩:=bC I
 go_wp2_with fail
 refine(a8.out Z).mono ?_;rintro e w2 ⟨v2,rfl,J,V⟩;obtain⟨bo,cb,rfl⟩:=bC J;have E:=bQ I V (aA _)
 go_wp2_with fail
 refine(aAd L ao bo ca cb _ _ w2 E J (by omega)).mono ?_;rintro e w3 ⟨rfl,q,rfl⟩;have W:Below w2.heap.size w2 (w2.drewN q):=below_drewN (Below.refl _ _) q;have b9:=a0.size;have c0:=V.size;have c1:=W.size;have Y:Below w.heap.size w (w2.drewN q):=a0.trans ((V.mono (by omega)).trans (W.mono (by omega)));have a3:Hid (Below w.heap.size w (w2.drewN q)):=Y;have a6:=a5.same (zJ.of_below Y hS);have U:=bQ E W (aA _);have a9:Hid (∀g,(Value.slice ao L.length ca).ownBlock=some g->w.heap.size<=g):=λg hg=>(U.lt g hg).1;have b2:Below B w (w2.drewN q):=Y.mono hB;have b0:∀g,S g->g<(w2.drewN q).heap.size:=λg hg=>by have:=hS g hg;have:=Y.size;omega
 have a1:∀g,(Value.slice ao L.length ca).ownBlock=some g->¬ S g:=λg hg hs=>by have:=(U.lt g hg).1;have:=hS g hs;omega
 clear I J E a0 V W a5
 go_wp2_with fail
 refine(aCo L _ w.heap.size B bb S K lv kv _ a6 b0 U hB (by omega) a1 (by omega) hK).mono ?_;rintro e w4 ⟨rfl,x,a2,a7,b1,b4⟩
 go_wp2_with (go_at_call 53;refine(kN _ _ b6 b7).mono ?_;rintro e w' ⟨rfl,rfl⟩)
 go_ret;refine⟨rfl,x,a2,a7,b2.trans b1,λg h1 h2 h3=>?_⟩;rw[b4 g (by have:=a3.out.size;omega) h2 h3 (λe=>by have:=a9.out g e.symm;omega)];exact a3.out.block g h1
end Go.Proofs.YtgdfipmdmgkidaaGreatDoor
