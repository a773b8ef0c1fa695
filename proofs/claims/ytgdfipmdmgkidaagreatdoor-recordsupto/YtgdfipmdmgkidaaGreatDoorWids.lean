import Derived.Test.YtgdfipmdmgkidaaGreatDoorWsize
import Derived.Test.YtgdfipmdmgkidaaGreatDoorRunes
import Derived.Deep.QuietTactic
import Derived.BigQuiet
import Derived.Test.YtgdfipmdmgkidaaGreatDoorAl
set_option linter.all false
set_option maxHeartbeats 1600000
set_option maxRecDepth 100000
namespace Go.Proofs.YtgdfipmdmgkidaaGreatDoor
open Go.RowKit
theorem aAx(r:Int)(w:World):Calls Tryz.prog 173 #[.int .i32 r] w λe w'=>e=.returned (.bool (tY r))/\w'=w:=by
 go_enter Tryz.func173,Tryz.ntmps173;go_wp2
 all_goals
  go_ret;refine⟨cB ?_,rfl⟩;rw[kU];simp only[tY,decide_eq_true_eq]
  simp_all
  try omega
theorem aAz(r:Int)(w:World):Calls Tryz.prog 102 #[.int .i32 r] w λe w'=>e=.returned (.bool (rZ r))/\w'=w:=by
 go_enter Tryz.func102,Tryz.ntmps102;go_wp2
 all_goals
  go_ret;refine⟨cB ?_,rfl⟩;rw[kU];simp only[rZ,decide_eq_true_eq]
  simp_all
  try omega
theorem qK(s:ByteArray)(w:World):Calls Tryz.prog 107 #[.string s] w λe w'=>e=.returned (.bool (idB s))/\Below w.heap.size w w':=by
 by_cases J:s.size=4
 ·have Y:(((s.size:Nat):Int) != 4)=false:=by rw[J];rfl
  have U:=aO J;clear J;go_enter Tryz.func107,Tryz.ntmps107;go_wp2
  go_loopw [] (λw'=>∃(pos:Nat),w'=w.iter s pos/\pos<=s.size/\aI8 s pos) (λw'=>s.size - w'.iterPos w.heap.size)
  case atStart=>exact⟨0,rfl,aE _,λi hi=>by omega⟩
  case round=>
   obtain⟨pos,rfl,a0,hx⟩:=hrel;by_cases K:pos<s.size
   ·have Z:∀ty,(Instr.next (.pointer (some ⟨w.heap.size,0,none⟩)) true ty).run Tryz.prog (w.iter s pos)=_:=λty=>run_next_any w s pos ty K;obtain⟨z,I⟩:=aW7 s pos K
    cases E:tY (gb s pos)
    ·rw[E] at z;have V:=aO E;have W:=aO z;clear E z I
     go_wp2_with (go_at_call 173;refine(aAx _ _).mono ?_;rw[W.out];rintro e w' ⟨rfl,rfl⟩)
     go_ret;exact⟨cB (bAr K V.out).symm,(Below.refl _ _).alloc (aA _) _⟩
    ·rw[E] at z;have V:=aO E;have W:=aO z;have HW:=aO (I E);clear E z I
     go_wp2_with (go_at_call 173;refine(aAx _ _).mono ?_;rw[W.out];rintro e w' ⟨rfl,rfl⟩)
     go_roundw
     case rel=>exact⟨pos+1,by rw[HW.out],by omega,aF4 hx V.out⟩
     case measure=>rw[HW.out];simp;omega
   ·have Z:∀ty,(Instr.next (.pointer (some ⟨w.heap.size,0,none⟩)) true ty).run Tryz.prog (w.iter s pos)=_:=λty=>run_next_end w s pos ty K;go_wp2;go_ret;have e:pos=s.size:=by omega
    rw[e] at hx;exact⟨cB (aXb U.out hx).symm,(Below.refl _ _).alloc (aA _) _⟩
 ·have Y:(((s.size:Nat):Int) != 4)=true:=by rw[bne_iff_ne];omega
  have U:=aO J;clear J;go_enter Tryz.func107,Tryz.ntmps107;go_wp2;go_ret;exact⟨cB (aXa U.out).symm,Below.refl _ _⟩
theorem kG(s:ByteArray)(w:World)(hs:s.size<=maxLen):Calls Tryz.prog 202 #[.string s] w λe w'=>e=.returned (.bool (idB s))/\w'=w:=by
 unfold maxLen at hs;go_enter Tryz.func202,Tryz.ntmps202;go_wp2
 go_loop [3] (λi=>∃k:Nat,k<=s.size/\i=.int .i64 k/\aI8 s k) (λi=>s.size - (intOf i).toNat)
 case atStart=>exact⟨0,aE _,rfl,λi hi=>by omega⟩
 case round=>
  obtain⟨k,hk,rfl,Z⟩:=hrel;by_cases E:k<s.size
  ·have J:=gT s k E;by_cases hh:(48<=s[k].toNat/\s[k].toNat<=57)\/(97<=s[k].toNat/\s[k].toNat<=102)
   ·have U:Hid (tY (gb s k)=true):=by rw[<- J];show _=_;unfold tY;rw[decide_eq_true_eq];omega
    clear J;rcases hh with ⟨V,W⟩|⟨V,W⟩
    all_goals
     go_wp2
     go_round
     case rel=>exact⟨k+1,by omega,by go_num,aF4 Z U.out⟩
     case measure=>simp[intOf];omega
   ·have U:Hid (tY (gb s k)=false):=by rw[<- J];show _=_;unfold tY;rw[decide_eq_false_iff_not];omega
    clear J;have I:s[k].toNat<48\/(57<s[k].toNat/\s[k].toNat<97)\/102<s[k].toNat:=by omega
    clear hh;rcases I with I|⟨I,a0⟩|I
    all_goals
     go_wp2;go_ret;exact⟨cB (bAr E U.out).symm,rfl⟩
  ·have e:k=s.size:=by omega
   have HX:Hid (aI8 s s.size):=by rw[<- e];exact Z
   clear Z;by_cases z:s.size=4
   ·have Y:(((s.size:Nat):Int) == 4)=true:=by rw[z];rfl
    have K:=aO z;clear z;go_wp2;go_ret;exact⟨cB (by rw[aXb K.out HX.out]),rfl⟩
   ·have Y:(((s.size:Nat):Int) == 4)=false:=by rw[beq_eq_false_iff_ne];omega
    have K:=aO z;clear z;go_wp2;go_ret;exact⟨cB (by rw[aXa K.out]),rfl⟩
theorem aI4(s:ByteArray)(h:s.size=0):(s.toList == [])=true:=by
 rw[kA];have:s.data.toList=[]:=aS (by rw[fP];exact h);rw[this];rfl
theorem aNt(s:ByteArray)(h:1<=s.size):(s.toList == [])=false:=by
 rw[kA,beq_eq_false_iff_ne];intro e;have:=congrArg List.length e;rw[fP] at this;have h2:s.data.size=s.size:=rfl;simp only[cX] at this;omega
theorem aGo{s:ByteArray}(h:s.size=0):dJ s=false:=by unfold dJ;simp[h]
theorem aCd{s:ByteArray}(h:8<pU s 0):dJ s=false:=by
 unfold dJ;have:decide (pU s 0<=8)=false:=by simpa using h
 rw[this];simp
theorem xL{s:ByteArray}(h:aB7 s 0=false):dJ s=false:=by unfold dJ;rw[h];simp
theorem aO5{s:ByteArray}(h1:1<=s.size)(h2:pU s 0<=8)(z:aB7 s 0=true):dJ s=true:=by
 unfold dJ;rw[z];simp[h1,h2]
theorem iF(s:ByteArray)(w:World):Calls Tryz.prog 61 #[.string s] w λe w'=>e=.returned (.bool (dJ s))/\Below w.heap.size w w':=by
 by_cases J:s.size=0
 ·have he:=aI4 s J;have Z:=aO (aGo J);clear J;go_enter Tryz.func61,Tryz.ntmps61;go_wp2;go_ret;exact⟨cB Z.out.symm,Below.refl _ _⟩
 ·have he:=aNt s (by omega);by_cases K:8<pU s 0
  ·have Z:Hid (dJ s=false):=aCd K;have HO:Hid (decide (8<pU s 0)=true):=by show _=_;simpa using K
   clear K J;go_enter Tryz.func61,Tryz.ntmps61
   go_wp2_with (go_at_call 63;refine(sZ _ 8 _ (by omega)).mono ?_;rw[HO.out];rintro e w' ⟨rfl,q,rfl⟩)
   go_ret;exact⟨cB Z.out.symm,(Below.refl _ _).alloc (aA _) _⟩
  ·have HS:Hid (1<=s.size/\pU s 0<=8):=⟨by omega,by omega⟩;have HO:Hid (decide (8<pU s 0)=false):=by show _=_;simpa using K
   clear K J;go_enter Tryz.func61,Tryz.ntmps61
   go_wp2_with (go_at_call 63;refine(sZ _ 8 _ (by omega)).mono ?_;rw[HO.out];rintro e w' ⟨rfl,q,rfl⟩)
   have E:Below w.heap.size w (w.iter s q):=(Below.refl _ _).alloc (aA _) _;have V:w.heap.size<=(w.iter s q).heap.size:=E.size;generalize w.iter s q=z at *;go_wp2
   go_loopw [] (λw'=>∃(pos:Nat),w'=z.iter s pos/\Hid (aB7 s 0=aB7 s pos)) (λw'=>s.size - w'.iterPos z.heap.size)
   case atStart=>exact⟨0,rfl,rfl⟩
   case round=>
    obtain⟨pos,rfl,Y⟩:=hrel;by_cases U:pos<s.size
    ·have a0:∀ty,(Instr.next (.pointer (some ⟨z.heap.size,0,none⟩)) true ty).run Tryz.prog (z.iter s pos)=_:=λty=>run_next_any z s pos ty U;have a1:=jU s pos U
     cases W:rZ (((Utf8.decode s pos).1:Nat):Int)
     ·have I:Hid (rZ (((Utf8.decode s pos).1:Nat):Int)=false):=W;clear W
      go_wp2_with (go_at_call 102;refine(aAz _ _).mono ?_;rw[I.out];rintro e w' ⟨rfl,rfl⟩)
      go_ret;exact⟨cB (xL (by rw[Y.out,aB8 s pos U,I.out];rfl)).symm,E.trans ((Below.refl _ _).alloc V _)⟩
     ·have I:Hid (rZ (((Utf8.decode s pos).1:Nat):Int)=true):=W;clear W
      go_wp2_with (go_at_call 102;refine(aAz _ _).mono ?_;rw[I.out];rintro e w' ⟨rfl,rfl⟩)
      go_roundw
      case rel=>exact⟨pos+(Utf8.decode s pos).2,rfl,by show _=_;rw[Y.out,aB8 s pos U,I.out];rfl⟩
      case measure=>simp;omega
    ·have a0:∀ty,(Instr.next (.pointer (some ⟨z.heap.size,0,none⟩)) true ty).run Tryz.prog (z.iter s pos)=_:=λty=>run_next_end z s pos ty U;go_wp2;go_ret;exact⟨cB (aO5 HS.out.1 HS.out.2 (by rw[Y.out,aOq s pos (by omega)])).symm,E.trans ((Below.refl _ _).alloc V _)⟩
theorem aCi(s:ByteArray)(c:UInt8):(s.toList == [c])=decide (s.size=1/\gb s 0=c.toNat):=by
 rw[kA,kU,beq_iff_eq,decide_eq_true_eq];constructor
 ·intro e;have hs:s=⟨#[c]⟩:=by
   cases s with
   | mk d=>simp only at e;congr 1;apply Array.ext';exact e
  subst hs;exact⟨rfl,rfl⟩
 ·rintro⟨h1,h2⟩;have hs:s=⟨#[c]⟩:=by
   apply aWy
   ·rw[h1];rfl
   ·intro i hi;have:i=0:=by omega
    subst this;rw[h2];rfl
  rw[hs]
theorem tZ(s:ByteArray)(w:World):Calls Tryz.prog 174 #[.string s] w λe w'=>e=.returned (.bool (mL s))/\w'=w:=by
 have z:=aCi s 48;have h1:=aCi s 49;have h2:=aCi s 50;have E:Hid (mL s=((s.toList == [48]) || (s.toList == [49]) || (s.toList == [50]))):=by
  show _=_;rw[z,h1,h2,kU];unfold mL;simp only[vI,decide_eq_true_eq];have U:(48:UInt8).toNat=48:=rfl;have V:(49:UInt8).toNat=49:=rfl;have W:(50:UInt8).toNat=50:=rfl;rw[U,V,W];omega
 clear z h1 h2
 cases I:(s.toList == [48])<;>cases J:(s.toList == [49])<;>cases K:(s.toList == [50])
 all_goals
  go_enter Tryz.func174,Tryz.ntmps174;go_wp2;go_ret;exact⟨cB (by rw[E.out,I,J,K];rfl),rfl⟩
theorem aG4(s:ByteArray)(w:World):Calls Tryz.prog 89 #[.string s] w λe w'=>∃r:Int,e=.returned (.int .i64 r)/\(0<=r↔mL s=true)/\w'=w:=by
 by_cases h1:s.size=1
 ·have U:0<s.size:=by omega
  have J:=gT s 0 U;have Y:(((s.size:Nat):Int) == 1)=true:=by rw[h1];rfl
  have K:=kM s 0;rw[<- J] at K;have z:Hid (mL s=true↔48<=s[0].toNat/\s[0].toNat<=50):=by
   show _↔_;unfold mL;rw[decide_eq_true_eq,<- J];omega
  clear h1 J;by_cases E:48<=s[0].toNat/\s[0].toNat<=50
  ·obtain⟨V,W⟩:=E;go_enter Tryz.func89,Tryz.ntmps89;go_wp2;go_ret;exact⟨_,rfl,by rw[z.out];omega,rfl⟩
  ·have I:s[0].toNat<48\/50<s[0].toNat:=by omega
   clear E;rcases I with E|E
   all_goals
    go_enter Tryz.func89,Tryz.ntmps89;go_wp2;go_ret;exact⟨-1,rfl,by rw[z.out];omega,rfl⟩
 ·have Y:(((s.size:Nat):Int) == 1)=false:=by rw[beq_eq_false_iff_ne];omega
  have z:Hid (mL s=false):=by
   show _=_;unfold mL;rw[decide_eq_false_iff_not];omega
  clear h1;go_enter Tryz.func89,Tryz.ntmps89;go_wp2;go_ret;exact⟨-1,rfl,by rw[z.out];simp,rfl⟩
theorem aZz(s:ByteArray)(h:1<=s.size):1<=pU s 0:=by
 rw[nN s 0 (by omega)];omega
theorem uU(z:Int)(E:-1000000000000<=z)(h1:z<=1000000000000):IntKind.i64.wrap z=z:=by
 rw[IntKind.wrap_i64];omega
theorem wJ(s:ByteArray)(w:World)(hs:s.size<=10000000):Calls Tryz.prog 164 #[.string s] w λe w'=>e=.returned (.bool (dJ s))/\∃q,w'=w.drewN q:=by
 have a7:s.size<=maxLen:=by unfold maxLen;omega
 go_enter Tryz.func164,Tryz.ntmps164;go_wp2
 go_loopw [3,4] (λn a wr=>∃k p q:Nat,p<=s.size/\k<=p/\n=.int .i64 k/\a=.int .i64 p/\Hid (k+pU s p=pU s 0)/\Hid (aB7 s 0=aB7 s p)/\wr=w.drewN q) (λ_ a _=>s.size - (intOf a).toNat)
 case atStart=>exact⟨0,0,0,aE _,aE _,rfl,rfl,by show _=_;omega,rfl,rfl⟩
 case round=>
  obtain⟨k,p,q,hp,b3,rfl,rfl,HR,HL,rfl⟩:=hrel;by_cases J:p<s.size
  ·have b6:=jU s p J;have b0:=aQw s p J;obtain⟨l1,l2,l3⟩:=aXj s p J;have a3:=aPr s p (w.drewN q) J a7;have U:=nN s p J;have E:=aB8 s p J;have hg:=gT s p J;generalize (Utf8.decode s p).2=d at *;generalize (Utf8.decode s p).1=r at *;have I:=kM s p;have W:=a3;clear a3;by_cases a0:d=1
   ·subst a0;have hl:=l1 rfl;clear l1 l2 l3;by_cases K:97<=gb s p/\gb s p<=122
    ·have V:Hid (rZ (r:Int)=true):=by show _=_;rw[hl];simpa using K
     have Y:=aO U;have z:=aO E;rw[<- hg] at K I;obtain⟨a5,a6⟩:=K;clear hl U E hg
     go_wp2_with (go_at_call 201;refine W.mono ?_;rintro e w' ⟨rfl,rfl⟩)
     go_roundw
     case rel=>exact⟨k+1,p+1,q,by omega,by omega,by go_num,by go_num,by have h1:=HR.out;have h2:=Y.out;show _=_;omega,by show _=_;rw[HL.out,z.out,V.out];rfl,rfl⟩
     case measure=>simp[intOf];omega
    ·have V:Hid (rZ (r:Int)=false):=by show _=_;rw[hl];simpa using K
     have z:=aO E;rw[<- hg] at K I;have Z:s[p].toNat<97\/122<s[p].toNat:=by omega
     clear hl U E hg K;rcases Z with K|K
     all_goals
      go_wp2_with (go_at_call 201;refine W.mono ?_;rintro e w' ⟨rfl,rfl⟩)
      go_ret;exact⟨cB (xL (by rw[HL.out,z.out,V.out];rfl)).symm,q,rfl⟩
   ·by_cases a1:d=2
    ·subst a1;obtain⟨e1,e2,e3,e4,e5,e6⟩:=l2 rfl;have a2:=gT s (p+1) e1;rw[<- hg] at e2 e3 e6 I;rw[<- a2] at e4 e5 e6;clear l1 l2 l3 a0 hg a2;have HV:=aO e6;have Y:=aO U;have z:=aO E;clear e6 U E
     go_wp2_with (go_at_call 201;refine W.mono ?_;rintro e w' ⟨rfl,rfl⟩)
     have w1:IntKind.i64.wrap ((p:Int)+1)=(p:Int)+1:=uU _ (by omega) (by omega);have b7:(p:Int)+1<(s.size:Int):=by omega
     have a8:(0:Int)<=(p:Int)+1:=by omega
     have w2:IntKind.i64.wrap ((s[p].toNat:Nat):Int)=((s[p].toNat:Nat):Int):=uU _ (by omega) (by omega);have w3:IntKind.i64.wrap (((s[p].toNat:Nat):Int) - 192)=((s[p].toNat:Nat):Int) - 192:=uU _ (by omega) (by omega);have w4:IntKind.i64.wrap (64 * (((s[p].toNat:Nat):Int) - 192))=64 * (((s[p].toNat:Nat):Int) - 192):=uU _ (by omega) (by omega);have w5:IntKind.i64.wrap ((s[p+1].toNat:Nat):Int)=((s[p+1].toNat:Nat):Int):=uU _ (by omega) (by omega);have w6:IntKind.i64.wrap (64 * (((s[p].toNat:Nat):Int) - 192)+((s[p+1].toNat:Nat):Int))=64 * (((s[p].toNat:Nat):Int) - 192)+((s[p+1].toNat:Nat):Int):=uU _ (by omega) (by omega);have w7:IntKind.i64.wrap (64 * (((s[p].toNat:Nat):Int) - 192)+((s[p+1].toNat:Nat):Int) - 128)=64 * (((s[p].toNat:Nat):Int) - 192)+((s[p+1].toNat:Nat):Int) - 128:=uU _ (by omega) (by omega)
     go_quiet (fail)
     have hv:=HV.out;rw[<- hv];have b4:128<=r:=by omega
     have b5:r<=2000000:=by omega
     clear w1 w2 w3 w4 w5 w6 w7 hv HV;by_cases K:945<=r/\r<=969
     ·have V:Hid (rZ (r:Int)=true):=by show _=_;unfold rZ;rw[decide_eq_true_eq];omega
      obtain⟨a5,a6⟩:=K;go_wp2
      go_roundw
      case rel=>exact⟨k+1,p+2,q+nq,by omega,by omega,by go_num,by go_num,by have h1:=HR.out;have h2:=Y.out;show _=_;omega,by show _=_;rw[HL.out,z.out,V.out];rfl,rfl⟩
      case measure=>simp[intOf];omega
     ·have V:Hid (rZ (r:Int)=false):=by show _=_;unfold rZ;rw[decide_eq_false_iff_not];omega
      have Z:r<945\/969<r:=by omega
      clear K;rcases Z with K|K
      all_goals
       go_wp2;go_ret;exact⟨cB (xL (by rw[HL.out,z.out,V.out];rfl)).symm,q+nq,rfl⟩
    ·have V:Hid (rZ (r:Int)=false):=l3 (by omega);have z:=aO E;have a9:2<d:=by omega
     clear l1 l2 l3 E U a0 a1
     go_wp2_with (go_at_call 201;refine W.mono ?_;rintro e w' ⟨rfl,rfl⟩)
     go_ret;exact⟨cB (xL (by rw[HL.out,z.out,V.out];rfl)).symm,q,rfl⟩
  ·have HE:Hid (pU s p=0/\aB7 s p=true):=⟨aBa s p (by omega),aOq s p (by omega)⟩;have HK:Hid (k=pU s 0):=by have h1:=HR.out;have h2:=HE.out.1;show _=_;omega
   have a4:Hid (aB7 s 0=true):=by show _=_;rw[HL.out,HE.out.2]
   by_cases h0:s.size=0
   ·have b1:k<1:=by omega
    have HN:=aO (aGo h0);go_wp2;go_ret;exact⟨cB HN.out.symm,q,rfl⟩
   ·have b2:1<=k:=by rw[HK.out];exact aZz s (by omega)
    by_cases h8:k<=8
    ·have HN:Hid (dJ s=true):=aO5 (by omega) (by rw[<- HK.out];exact h8) a4.out;go_wp2;go_ret;exact⟨cB (by rw[HN.out];simp;omega),q,rfl⟩
    ·have HN:Hid (dJ s=false):=aCd (by rw[<- HK.out];omega);go_wp2;go_ret;exact⟨cB (by rw[HN.out];simp;omega),q,rfl⟩
theorem aCz{L:List ByteArray}{s:ByteArray}{p q:Nat}(h:p<q):gC L s p q=L++[s.extract p q]:=by unfold gC;exact if_pos h
theorem aFa{L:List ByteArray}{s:ByteArray}{p q:Nat}(h:¬ p<q):gC L s p q=L:=by unfold gC;exact if_neg h
def rN(L:List ByteArray)(x:ByteArray):List ByteArray:=if 1<=x.size then L++[x] else L
theorem aAm(L:List ByteArray)(x:ByteArray)(v:Value)(B C:Nat)(w:World)(z:w.ownsRow C 9 1 v L.length (bW L))(hC:C<=w.heap.size)(I:B<=C)(hL:L.length<=1000000):
  Calls Tryz.prog 106 #[v,.string x] w λe w'=>∃v',e=.returned v'/\w'.ownsRow C 9 1 v' (rN L x).length (bW (rN L x))/\Below B w w'/\(∀k,k<C->k<w.heap.size->w'.heap[k]?=w.heap[k]?)/\w.heap.size<=w'.heap.size:=by
 obtain⟨i0,hi,U,V,W⟩:=info_parts Tryz.info9;by_cases h1:1<=x.size
 ·have Y:=aNt x h1;have e:rN L x=L++[x]:=by unfold rN;rw[if_pos h1]
  rw[e];clear e;go_enter Tryz.func106,Tryz.ntmps106
  go_wp2_with (at_builtin;refine wpList_append_own _ rfl _ _ 35 rfl C 9 i0 (.string ⟨#[]⟩) 1 16 Tryz.underlying35 hi U V W rfl (by decide) _ _ _ rfl (z.alloc _) ⟨w.heap.size,0,none⟩ 1 1 [.string x] rfl rfl (iY _ _ _) (eX [_]) (by unfold maxLen;omega) (by omega) (by simp;omega) ?_)
  intro v' Z E J _;have R:=iZ I z (Below.refl B w) (by omega) E J;have K:w.heap.size<=Z.heap.size:=by have:=J.size;simp at this;omega
  clear E J z;go_wp2;go_ret;exact⟨_,rfl,R.1,R.2.1,R.2.2,K⟩
 ·have Y:=aI4 x (by omega);have e:rN L x=L:=by unfold rN;rw[if_neg h1]
  rw[e];clear e;go_enter Tryz.func106,Tryz.ntmps106;go_wp2;go_ret;exact⟨_,rfl,z,Below.refl _ _,λ_ _ _=>rfl,aA _⟩
theorem aDp(L:List ByteArray)(s:ByteArray)(p q:Nat)(z:q<=s.size):rN L (s.extract p q)=gC L s p q:=by
 unfold rN gC;rw[oF _ _ _ z];by_cases h:p<q
 ·rw[if_pos (by omega),if_pos h]
 ·rw[if_neg (by omega),if_neg h]
theorem aDs(s:ByteArray)(w:World)(hs:s.size<=100000):
  Calls Tryz.prog 64 #[.string s] w λe w'=>∃v,e=.returned v/\w'.ownsRow w.heap.size 9 1 v (bY s).length (bW (bY s))/\Below w.heap.size w w':=by
 go_enter Tryz.func64,Tryz.ntmps64;go_wp2
 go_loopw [3,4] (λv st wr=>∃(p q:Nat) (L:List ByteArray),p<=s.size/\st=.int .i64 q/\Hid (xW s p=(L,q))/\wr.ownsRow (w.heap.size+1) 9 1 v L.length (bW L)/\Below w.heap.size w wr/\wr.heap[w.heap.size]?=some (.stringIter s p)) (λ_ _ wr=>s.size - wr.iterPos w.heap.size)
 case atStart=>exact⟨0,0,[],aE _,rfl,rfl,World.ownsRow_nil _ _ _ _,(Below.refl _ _).alloc (aA _) _,World.iter_heap w s 0⟩
 case round=>
  obtain⟨p,q,L,hp,rfl,HS,U,W,I⟩:=hrel;have hq:q<=p:=by have:=(aCs s p).1;rw[HS.out] at this;exact this
  have b0:L.length<=q:=by have:=(aCs s p).2;rw[HS.out] at this;exact this
  have a9:w.heap.size<wr.heap.size:=(aV.1 I).1;by_cases Y:p<s.size
  ·by_cases V:gb s p=32
   ·have Z:∀ty,(Instr.next (.pointer (some ⟨w.heap.size,0,none⟩)) true ty).run Tryz.prog wr=.ok (.tuple #[.bool true,.int .i64 p,.int .i32 32]) (wr.iterAt w.heap.size s (p+1)):=λty=>by
     rw[Lib.run_next_any_at wr w.heap.size s p ty I Y,aFt s p Y (by omega),V];rfl
    have HB:=aO V;clear V;have E:=ownsRow_iterAt U (k:=w.heap.size) (by omega) s (p+1);have K:=Lib.below_iterAt W (k:=w.heap.size) (aA _) s (p+1);have J:=Lib.iterAt_heap wr w.heap.size s p (p+1) I;have a3:w.heap.size<(wr.iterAt w.heap.size s (p+1)).heap.size:=by rw[Lib.iterAt_size];exact a9
    have HM:=aO (iterPos_of I);clear I U W;obtain⟨wq,a0⟩:∃wq,wr.iterAt w.heap.size s (p+1)=wq:=⟨_,rfl⟩;rw[a0] at E K J a3 Z;clear a0
    go_wp2_with fail
    refine(aAm L _ _ w.heap.size (w.heap.size+1) wq E (by omega) (by omega) (by omega)).mono ?_;rintro e w1 ⟨v',rfl,z,a4,a5,a8⟩;rw[aDp L s q p (by omega)] at z;have a2:=(a5 w.heap.size (by omega) a3).trans J;clear E Z a5;go_wp2
    go_roundw
    case rel=>exact⟨p+1,p+1,gC L s q p,by omega,by go_num,by show _=_;rw[uQ HB.out,HS.out],z,K.trans a4,a2⟩
    case measure=>rw[iterPos_of a2,HM.out];omega
   ·obtain⟨r,k,hdec,hr,hk,a6,a1⟩:=aS0 s p 32 Y (by omega) V;have Z:∀ty,(Instr.next (.pointer (some ⟨w.heap.size,0,none⟩)) true ty).run Tryz.prog wr=.ok (.tuple #[.bool true,.int .i64 p,.int .i32 r]) (wr.iterAt w.heap.size s (p+k)):=λty=>by
     rw[Lib.run_next_any_at wr w.heap.size s p ty I Y,hdec]
    have hb:((r:Int) == 32)=false:=by rw[beq_eq_false_iff_ne];omega
    have HB:=aO (aHm s p k a1);clear V hdec a1;have E:=ownsRow_iterAt U (k:=w.heap.size) (by omega) s (p+k);have K:=Lib.below_iterAt W (k:=w.heap.size) (aA _) s (p+k);have J:=Lib.iterAt_heap wr w.heap.size s p (p+k) I;have HM:=aO (iterPos_of I);clear I U W;obtain⟨wq,a0⟩:∃wq,wr.iterAt w.heap.size s (p+k)=wq:=⟨_,rfl⟩;rw[a0] at E K J Z;clear a0;go_wp2
    go_roundw
    case rel=>exact⟨p+k,q,L,a6,rfl,by show _=_;rw[HB.out,HS.out],E,K,J⟩
    case measure=>rw[iterPos_of J,HM.out];omega
  ·have Z:∀ty,(Instr.next (.pointer (some ⟨w.heap.size,0,none⟩)) true ty).run Tryz.prog wr=.ok (.tuple #[.bool false]) wr:=λty=>Lib.run_next_end_at wr w.heap.size s p ty I Y;have a7:Hid (p=s.size):=by show _=_;omega
   have b1:q<=s.size:=by omega
   go_wp2_with fail
   refine(aAm L _ _ w.heap.size (w.heap.size+1) wr U (by omega) (by omega) (by omega)).mono ?_;rintro e w1 ⟨v',rfl,z,a4,a5,a8⟩;rw[aDp L s q s.size (aA _)] at z;have e:bY s=gC L s q s.size:=by
    have e:=HS.out;rw[a7.out] at e;unfold bY;rw[e]
   rw[<- e] at z;clear e;go_wp2;go_ret;exact⟨_,rfl,bK z (by omega),W.trans a4⟩
theorem aA6(s:ByteArray)(w:World)(hs:s.size<=100000):
  Calls Tryz.prog 138 #[.string s] w λe w'=>∃v,e=.returned v/\w'.ownsRow w.heap.size 9 1 v (bY s).length (bW (bY s))/\Below w.heap.size w w':=by
 obtain⟨i0,hi,a1,a2,a3⟩:=info_parts Tryz.info9;go_enter Tryz.func138,Tryz.ntmps138;go_wp2
 go_loopw [3,4,5] (λv st i wr=>∃(p q:Nat) (L:List ByteArray),p<=s.size+1/\q<=p/\L.length<=p/\i=.int .i64 p/\st=.int .i64 q/\Hid ((p<=s.size/\xW s p=(L,q))\/(p=s.size+1/\L=bY s))/\wr.ownsRow w.heap.size 9 1 v L.length (bW L)/\Below w.heap.size w wr) (λ_ _ i _=>s.size+1 - (intOf i).toNat)
 case atStart=>exact⟨0,0,[],aE _,aA _,aA _,rfl,rfl,.inl ⟨aE _,rfl⟩,World.ownsRow_nil _ _ _ _,Below.refl _ _⟩
 case round=>
  obtain⟨p,q,L,hp,hq,hL,rfl,rfl,HS,z,I⟩:=hrel;have a0:w.heap.size<=wr.heap.size:=I.size;by_cases U:p=s.size+1
  ·have e:L=bY s:=by rcases HS.out with h|h;omega;exact h.2
   have a5:¬ (p:Int)<=(s.size:Int):=by omega
   subst e;clear U;go_wp2;go_ret;exact⟨_,rfl,z,I⟩
  ·have V:Hid (xW s p=(L,q)):=by rcases HS.out with h|h;exact h.2;omega
   clear HS;have Z:p<=s.size:=by omega
   clear hp;by_cases J:p=s.size
   ·have a4:(((p:Nat):Int) == ((s.size:Nat):Int))=true:=by rw[J];simp
    have HP:=aO J;have HE:Hid (bY s=gC L s q p):=by
     have e:=V.out;show _=_;unfold bY;rw[J] at e;rw[e,J]
    clear J U;by_cases hw:q<p
    ·go_wp2_with (at_builtin;refine wpList_append_own _ rfl _ _ 35 rfl w.heap.size 9 i0 (.string ⟨#[]⟩) 1 16 Tryz.underlying35 hi a1 a2 a3 rfl (by decide) _ _ _ rfl (z.alloc _) ⟨wr.heap.size,0,none⟩ 1 1 [.string (s.extract q p)] rfl rfl (iY _ _ _) (eX [_]) (by unfold maxLen;omega) (by omega) (by simp;omega) ?_)
     intro v' w1 E W _;have R:=iZ (aA _) z I a0 E W;clear E W z I;go_wp2
     go_roundw
     case rel=>exact⟨p+1,p+1,L++[s.extract q p],by omega,by omega,by simp;omega,by go_num,by go_num,.inr ⟨by rw[HP.out],by rw[HE.out,aCz hw]⟩,R.1,R.2.1⟩
     case measure=>simp[intOf];omega
    ·go_wp2
     go_roundw
     case rel=>exact⟨p+1,p+1,L,by omega,by omega,by omega,by go_num,by go_num,.inr ⟨by rw[HP.out],by rw[HE.out,aFa hw]⟩,z,I⟩
     case measure=>simp[intOf];omega
   ·have a4:(((p:Nat):Int) == ((s.size:Nat):Int))=false:=by rw[beq_eq_false_iff_ne];omega
    have Y:p<s.size:=by omega
    clear J U Z;by_cases K:s[p].toNat=32
    ·have hb:(((s[p].toNat:Nat):Int) == 32)=true:=by rw[K];rfl
     have HB:Hid (gb s p=32):=by rw[<- gT s p Y];exact K
     clear K;by_cases hw:q<p
     ·go_wp2_with (at_builtin;refine wpList_append_own _ rfl _ _ 35 rfl w.heap.size 9 i0 (.string ⟨#[]⟩) 1 16 Tryz.underlying35 hi a1 a2 a3 rfl (by decide) _ _ _ rfl (z.alloc _) ⟨wr.heap.size,0,none⟩ 1 1 [.string (s.extract q p)] rfl rfl (iY _ _ _) (eX [_]) (by unfold maxLen;omega) (by omega) (by simp;omega) ?_)
      intro v' w1 E W _;have R:=iZ (aA _) z I a0 E W;clear E W z I;go_wp2
      go_roundw
      case rel=>exact⟨p+1,p+1,L++[s.extract q p],by omega,by omega,by simp;omega,by go_num,by go_num,.inl ⟨by omega,by rw[uQ HB.out,V.out,aCz hw]⟩,R.1,R.2.1⟩
      case measure=>simp[intOf];omega
     ·go_wp2
      go_roundw
      case rel=>exact⟨p+1,p+1,L,by omega,by omega,by omega,by go_num,by go_num,.inl ⟨by omega,by rw[uQ HB.out,V.out,aFa hw]⟩,z,I⟩
      case measure=>simp[intOf];omega
    ·have hb:(((s[p].toNat:Nat):Int) == 32)=false:=by rw[beq_eq_false_iff_ne];omega
     have HB:Hid (gb s p≠32):=by rw[<- gT s p Y];exact K
     clear K;go_wp2
     go_roundw
     case rel=>exact⟨p+1,q,L,by omega,by omega,by omega,by go_num,rfl,.inl ⟨by omega,by rw[aCt HB.out,V.out]⟩,z,I⟩
     case measure=>simp[intOf];omega
def gD(w:World)(ao:Option Addr)(L:List ByteArray):Prop:=L.length=0\/∃b o,ao=some ⟨b,o,none⟩/\b<w.heap.size/\∀k,k<L.length->w.cell? ⟨b,o+k,none⟩=some (.string (L.getD k ByteArray.empty))
theorem gD.below{w w':World}{E:Option Addr}{L:List ByteArray}(h:gD w E L)(I:Below w.heap.size w w'):gD w' E L:=by
 rcases h with h|⟨b,o,rfl,z,J⟩
 ·exact .inl h
 ·exact .inr ⟨b,o,rfl,by have:=I.size;omega,λk K=>(I.cell (p:=⟨b,o+k,none⟩) z).trans (J k K)⟩
theorem gD.own{w:World}{B cap:Nat}{z:Option Addr}{L:List ByteArray}(h:w.ownsRow B 9 1 (.slice z L.length cap) L.length (bW L)):gD w z L:=by
 by_cases E:L.length=0
 ·exact .inl E
 ·obtain⟨g,rfl,_,I⟩:=qM h (by omega);exact .inr ⟨g,0,rfl,I,λk J=>by rw[dC];exact oU h k J⟩
abbrev mS:ByteArray:=⟨#[114,101,99,111,114,100]⟩
abbrev aCu:ByteArray:=⟨#[117,110,114,101,99,111,114,100]⟩
abbrev wS:ByteArray:=⟨#[111,98,108,105,116,101,114,97,116,101]⟩
abbrev aPy:ByteArray:=⟨#[115,104,111,119]⟩
abbrev aYm:ByteArray:=⟨#[115,119,97,112]⟩
abbrev yW:ByteArray:=⟨#[112,117,108,108]⟩
abbrev aE0:ByteArray:=⟨#[114,101,118,101,114,116]⟩
abbrev bAd:ByteArray:=⟨#[110,101,119]⟩
abbrev bAc:ByteArray:=⟨#[108,111,103]⟩
abbrev aSd:ByteArray:=⟨#[111,114,100,101,114]⟩
def aPj:List ByteArray->Bool
 | []=>false
 | a::T=>idB a && T.all dJ
def aU0:List ByteArray->Bool
 | [a]=>idB a
 | _=>false
def yS:List ByteArray->Bool
 | [a]=>mL a
 | [a,b]=>mL a && idB b
 | _=>false
def aIg(t:ByteArray):Prop:=t=aCu\/t=wS\/t=aPy\/t=aYm
def yR(t:ByteArray):Prop:=t=aE0\/t=bAd\/t=bAc\/t=aSd
theorem vQ(L:List ByteArray)(ao:Option Addr)(cap:Nat)(w:World)(hv:gD w ao L)(a0:L.length<=1000000):
  Calls Tryz.prog 108 #[.slice ao L.length cap] w λe w'=>e=.returned (.bool (L.all dJ))/\Below w.heap.size w w':=by
 go_enter Tryz.func108,Tryz.ntmps108;go_wp2
 go_loopw [7] (λi wr=>∃k:Nat,k<=L.length/\i=.int .i64 k/\Hid ((L.take k).all dJ=true)/\Below w.heap.size w wr) (λi _=>L.length - (intOf i).toNat)
 case atStart=>exact⟨0,aE _,rfl,rfl,Below.refl _ _⟩
 case round=>
  obtain⟨k,hk,rfl,Y,z⟩:=hrel;by_cases E:k<L.length
  ·rcases hv with h|⟨b,o,rfl,hb,hc⟩
   ·omega
   obtain⟨t,W⟩:∃t,t=L.getD k ByteArray.empty:=⟨_,rfl⟩;have U:wr.cell? ⟨b,o+k,none⟩=some (.string t):=by rw[W];exact(z.cell (p:=⟨b,o+k,none⟩) hb).trans (hc k E)
   have Z:Hid (t=L[k]):=by rw[W,aQ,aC E];rfl
   clear W hc;have a1:=z.size
   cases K:dJ t
   ·have J:Hid (dJ t=false):=K;clear K
    go_wp2_with (go_at_call 61;refine(iF t _).mono ?_;rw[J.out];rintro e w' ⟨rfl,I⟩)
    go_ret;have V:L.all dJ=false:=by rw[List.all_eq_false];exact⟨L[k],bZ E,by rw[<- Z.out,J.out];simp⟩
    exact⟨cB V.symm,z.trans (I.mono (by omega))⟩
   ·have J:Hid (dJ t=true):=K;clear K
    go_wp2_with (go_at_call 61;refine(iF t _).mono ?_;rw[J.out];rintro e w' ⟨rfl,I⟩)
    go_roundw
    case rel=>exact⟨k+1,by omega,by go_num,by show _=_;rw[aF E,List.all_append,Y.out,<- Z.out];simp[J.out],z.trans (I.mono (by omega))⟩
    case measure=>simp[intOf];omega
  ·go_wp2;go_ret;have e:k=L.length:=by omega
   have hn:=Y.out;rw[e,bD] at hn;exact⟨cB hn.symm,z⟩
theorem aAy(L:List ByteArray)(U:Option Addr)(cap:Nat)(w:World)(hv:gD w U L)(z:L.length<=1000000):
  Calls Tryz.prog 109 #[.slice U L.length cap] w λe w'=>e=.returned (.bool (yS L))/\Below w.heap.size w w':=by
 match L,hv,z with
 | [],hv,_=>
  have h1:(((([]:List ByteArray).length:Nat):Int) == 1)=false:=rfl;have h2:(((([]:List ByteArray).length:Nat):Int) == 2)=false:=rfl;go_enter Tryz.func109,Tryz.ntmps109;go_wp2;go_ret;exact⟨rfl,Below.refl _ _⟩
 | [a],hv,_=>
  rcases hv with h|⟨b,o,rfl,V,I⟩
  ·simp at h
  have K:w.cell? ⟨b,o,none⟩=some (.string a):=I 0 (by simp);go_enter Tryz.func109,Tryz.ntmps109
  go_wp2_with (go_at_call 174;refine(tZ _ _).mono ?_;rintro e w' ⟨rfl,rfl⟩)
  go_ret;exact⟨rfl,Below.refl _ _⟩
 | [a,c],hv,_=>
  rcases hv with h|⟨b,o,rfl,V,I⟩
  ·simp at h
  have K:w.cell? ⟨b,o,none⟩=some (.string a):=I 0 (by simp);have Y:w.cell? ⟨b,o+1,none⟩=some (.string c):=I 1 (by simp)
  cases J:mL a
  ·have E:Hid (mL a=false):=J;clear J;go_enter Tryz.func109,Tryz.ntmps109
   go_wp2_with (go_at_call 174;refine(tZ _ _).mono ?_;rw[E.out];rintro e w' ⟨rfl,rfl⟩)
   go_ret;exact⟨cB (by simp only[yS,E.out];rfl),Below.refl _ _⟩
  ·have E:Hid (mL a=true):=J;clear J;go_enter Tryz.func109,Tryz.ntmps109
   go_wp2_with (first|(go_at_call 174;refine(tZ _ _).mono ?_;rw[E.out];rintro e w' ⟨rfl,rfl⟩)|(go_at_call 107;refine(qK _ _).mono ?_;rintro e w' ⟨rfl,W⟩))
   go_ret;exact⟨cB (by simp only[yS,E.out];simp),‹_›⟩
 | a::c::d::T,hv,z=>
  have h1:((((a::c::d::T).length:Nat):Int) == 1)=false:=by rw[beq_eq_false_iff_ne];simp;omega
  have h2:((((a::c::d::T).length:Nat):Int) == 2)=false:=by rw[beq_eq_false_iff_ne];simp;omega
  have e:yS (a::c::d::T)=false:=rfl;rw[e];clear hv e;generalize (a::c::d::T).length=n at *;go_enter Tryz.func109,Tryz.ntmps109;go_wp2;go_ret;exact⟨rfl,Below.refl _ _⟩
theorem aE2{t l:ByteArray}(h:t≠l):(t.toList == l.toList)=false:=by
 rw[beq_eq_false_iff_ne];intro e;rw[kA,kA] at e;apply h
 cases t with
 | mk a=>cases l with
  | mk b=>congr 1;exact Array.ext' e
theorem aQr(t:ByteArray)(U:yR t)(R:List ByteArray)(b o cap:Nat)(w:World)(J:w.cell? ⟨b,o,none⟩=some (.string t))(z:R.length+1<=cap)(E:R.length<=1000000):
  Calls Tryz.prog 65 #[.slice (some ⟨b,o,none⟩) (R.length+1) cap] w λe w'=>e=.returned (.bool R.isEmpty)/\Below w.heap.size w w':=by
 have V:(((R.length+1:Nat):Int) == 0)=false:=by rw[beq_eq_false_iff_ne];omega
 have I:Hid (R.isEmpty=(((R.length:Nat):Int) == 0)):=by cases R with|nil=>rfl|cons a T=>(show _=_;symm;rw[List.isEmpty_cons,beq_eq_false_iff_ne,aY];omega)
 generalize R.length=n at *;rcases U with rfl|rfl|rfl|rfl
 all_goals
  by_cases K:cap=1
  all_goals
   go_enter Tryz.func65,Tryz.ntmps65;go_wp2;go_ret;exact⟨cB I.out.symm,Below.refl _ _⟩
theorem aVf{w:World}{b o:Nat}{R:List ByteArray}(E:b<w.heap.size)(z:∀k,k<R.length->w.cell? ⟨b,o+1+k,none⟩=some (.string (R.getD k ByteArray.empty))):gD w (some ⟨b,o+1,none⟩) R:=.inr ⟨b,o+1,rfl,E,z⟩
theorem aTz(t:ByteArray)(U:aIg t)(R:List ByteArray)(b o cap:Nat)(w:World)(W:w.cell? ⟨b,o,none⟩=some (.string t))(z:∀k,k<R.length->w.cell? ⟨b,o+1+k,none⟩=some (.string (R.getD k ByteArray.empty)))(E:R.length+1<=cap)(K:R.length<=1000000):
  Calls Tryz.prog 65 #[.slice (some ⟨b,o,none⟩) (R.length+1) cap] w λe w'=>e=.returned (.bool (aU0 R))/\Below w.heap.size w w':=by
 have Z:(((R.length+1:Nat):Int) == 0)=false:=by rw[beq_eq_false_iff_ne];omega
 by_cases h1:R.length=1
 ·obtain⟨a,rfl⟩:=List.length_eq_one_iff.1 h1;have J:w.cell? ⟨b,o+1,none⟩=some (.string a):=z 0 (by simp);have Y:¬ cap=1:=by simp at E;omega
  clear z h1 Z;rcases U with rfl|rfl|rfl|rfl
  all_goals
   go_enter Tryz.func65,Tryz.ntmps65
   go_wp2_with (go_at_call 107;refine(qK _ _).mono ?_;rintro e w' ⟨rfl,V⟩)
   go_ret;exact⟨rfl,‹_›⟩
 ·have I:aU0 R=false:=by
   match R,h1 with
   | [],_=>rfl
   | [_],h=>simp at h
   | _::_::_,_=>rfl
  have a0:(((R.length:Nat):Int) == 1)=false:=by rw[beq_eq_false_iff_ne];omega
  rw[I];clear z I h1;generalize R.length=n at *;rcases U with rfl|rfl|rfl|rfl
  all_goals
   by_cases J:cap=1
   all_goals
    go_enter Tryz.func65,Tryz.ntmps65;go_wp2;go_ret;exact⟨rfl,Below.refl _ _⟩
theorem aQs(R:List ByteArray)(b o cap:Nat)(w:World)(W:b<w.heap.size)(Y:w.cell? ⟨b,o,none⟩=some (.string yW))(E:∀k,k<R.length->w.cell? ⟨b,o+1+k,none⟩=some (.string (R.getD k ByteArray.empty)))(U:R.length+1<=cap)(I:R.length<=1000000):
  Calls Tryz.prog 65 #[.slice (some ⟨b,o,none⟩) (R.length+1) cap] w λe w'=>e=.returned (.bool (yS R))/\Below w.heap.size w w':=by
 have Z:(((R.length+1:Nat):Int) == 0)=false:=by rw[beq_eq_false_iff_ne];omega
 by_cases J:cap=1
 ·have K:R.length=0:=by omega
  have V:R=[]:=aS K;subst V;subst J;clear Z K E;go_enter Tryz.func65,Tryz.ntmps65
  go_wp2_with fail
  refine(aAy [] _ _ _ (.inl rfl) (by simp)).mono ?_;rintro e w' ⟨rfl,z⟩;go_wp2;go_ret;exact⟨rfl,z⟩
 ·have hv:=aVf W E;clear E;go_enter Tryz.func65,Tryz.ntmps65
  go_wp2_with fail
  refine(aAy R _ _ _ hv I).mono ?_;rintro e w' ⟨rfl,z⟩;go_wp2;go_ret;exact⟨rfl,z⟩
theorem aKt(R:List ByteArray)(b o cap:Nat)(w:World)(hb:b<w.heap.size)(a0:w.cell? ⟨b,o,none⟩=some (.string mS))(I:∀k,k<R.length->w.cell? ⟨b,o+1+k,none⟩=some (.string (R.getD k ByteArray.empty)))(z:R.length+1<=cap)(J:R.length<=1000000):
  Calls Tryz.prog 65 #[.slice (some ⟨b,o,none⟩) (R.length+1) cap] w λe w'=>e=.returned (.bool (aPj R))/\Below w.heap.size w w':=by
 match R,I,z,J with
 | [],_,z,_=>
  by_cases W:cap=1
  all_goals
   go_enter Tryz.func65,Tryz.ntmps65;go_wp2;go_ret;exact⟨rfl,Below.refl _ _⟩
 | a::T,I,z,J=>
  have W:w.cell? ⟨b,o+1,none⟩=some (.string a):=I 0 (by simp);have a1:¬ cap=1:=by simp at z;omega
  have K:∀k,k<T.length->w.cell? ⟨b,o+1+1+k,none⟩=some (.string (T.getD k ByteArray.empty)):=λk hk=>by
   have:=I (k+1) (by simpa using hk);rw[show o+1+1+k=o+1+(k+1) by omega];simpa using this
  simp only[aY] at z J ⊢;clear I;have hl:(((T.length+1+1:Nat):Int) == 0)=false:=by rw[beq_eq_false_iff_ne];omega
  cases aO:idB a
  ·have V:Hid (idB a=false):=aO;have e:aPj (a::T)=false:=by show (idB a && T.all dJ)=_;rw[aO];rfl
   rw[e];clear aO e K;generalize T.length=n at *;go_enter Tryz.func65,Tryz.ntmps65
   go_wp2_with (go_at_call 107;refine(qK _ _).mono ?_;rw[V.out];rintro e w' ⟨rfl,E⟩)
   go_ret;exact⟨rfl,‹_›⟩
  ·have V:Hid (idB a=true):=aO;have e:aPj (a::T)=T.all dJ:=by show (idB a && T.all dJ)=_;rw[aO];rfl
   rw[e];clear aO e;by_cases Y:cap=2
   ·have Z:T.length=0:=by omega
    have hT:T=[]:=aS Z;subst hT;subst Y;clear hl Z K;go_enter Tryz.func65,Tryz.ntmps65
    go_wp2_with fail
    refine(qK _ _).mono ?_;rw[V.out];rintro e w' ⟨rfl,E⟩
    go_wp2_with fail
    refine(vQ [] _ _ _ (.inl rfl) (by simp)).mono ?_;rintro e w2 ⟨rfl,U⟩;go_wp2;go_ret;exact⟨rfl,E.trans (U.mono E.size)⟩
   ·have hv:gD w (some ⟨b,o+1+1,none⟩) T:=.inr ⟨b,_,rfl,hb,K⟩;clear K;go_enter Tryz.func65,Tryz.ntmps65
    go_wp2_with fail
    refine(qK _ _).mono ?_;rw[V.out];rintro e w' ⟨rfl,E⟩
    go_wp2_with fail
    refine(vQ T _ _ _ (hv.below E) (by omega)).mono ?_;rintro e w2 ⟨rfl,U⟩;go_wp2;go_ret;exact⟨rfl,E.trans (U.mono E.size)⟩
structure aGt (t:ByteArray):Prop where
 a:(t.toList == [114,101,99,111,114,100])=false
 b:(t.toList == [117,110,114,101,99,111,114,100])=false
 c:(t.toList == [111,98,108,105,116,101,114,97,116,101])=false
 d:(t.toList == [115,104,111,119])=false
 e:(t.toList == [115,119,97,112])=false
 f:(t.toList == [112,117,108,108])=false
 g:(t.toList == [114,101,118,101,114,116])=false
 h:(t.toList == [110,101,119])=false
 i:(t.toList == [108,111,103])=false
 j:(t.toList == [111,114,100,101,114])=false
theorem aCv(t:ByteArray):t=mS\/aIg t\/t=yW\/yR t\/aGt t:=by
 by_cases h1:t=mS
 ·exact .inl h1
 by_cases h2:aIg t
 ·exact .inr (.inl h2)
 by_cases E:t=yW
 ·exact .inr (.inr (.inl E))
 by_cases z:yR t
 ·exact .inr (.inr (.inr (.inl z)))
 unfold aIg at h2;unfold yR at z;simp only[not_or] at h2 z;have k:∀{l:List UInt8},t≠⟨l.toArray⟩->(t.toList == l)=false:=by
  intro l h;have:=aE2 h;rw[kA ⟨l.toArray⟩] at this;exact this
 exact .inr (.inr (.inr (.inr ⟨k h1,k h2.1,k h2.2.1,k h2.2.2.1,k h2.2.2.2,k E,k z.1,k z.2.1,k z.2.2.1,k z.2.2.2⟩)))
theorem aNh(t:ByteArray)(K:aGt t)(n:Nat)(b o cap:Nat)(w:World)(I:w.cell? ⟨b,o,none⟩=some (.string t))(z:n+1<=cap)(E:n<=1000000):
  Calls Tryz.prog 65 #[.slice (some ⟨b,o,none⟩) (n+1) cap] w λe w'=>e=.returned (.bool false)/\Below w.heap.size w w':=by
 have hl:(((n+1:Nat):Int) == 0)=false:=by rw[beq_eq_false_iff_ne];omega
 obtain⟨U,V,W,Y,Z,hf,hg,hh,hi,hj⟩:=K;by_cases J:cap=1
 all_goals
  go_enter Tryz.func65,Tryz.ntmps65;go_wp2;go_ret;exact⟨rfl,Below.refl _ _⟩
theorem aNg(z:Option Addr)(cap:Nat)(w:World):Calls Tryz.prog 65 #[.slice z 0 cap] w λe w'=>e=.returned (.bool false)/\Below w.heap.size w w':=by
 go_enter Tryz.func65,Tryz.ntmps65;go_wp2;go_ret;exact⟨rfl,Below.refl _ _⟩
theorem oM(t s:ByteArray):(t.toList == s.toList)=decide (t=s):=by
 by_cases h:t=s
 ·subst h;simp
 ·rw[aE2 h];simp[h]
def pI(L:List ByteArray)(s:ByteArray):Option Nat:=L.findIdx? λx=>decide (x=s)
def uR:Option Nat->Int
 | some k=>k
 | none=>-1
theorem bAe{L:List ByteArray}{s:ByteArray}{k:Nat}(I:k<L.length)(h:L[k]=s)(z:∀i (hi:i<k),L[i]'(by omega)≠s):pI L s=some k:=by
 unfold pI;rw[cQ];refine⟨I,by simpa using h,λj E=>by simpa using z j E⟩
theorem aYp{L:List ByteArray}{s:ByteArray}(z:∀i (hi:i<L.length),L[i]≠s):pI L s=none:=by
 unfold pI;rw[fE];intro x E;obtain⟨i,hi,rfl⟩:=lB.1 E;simpa using z i hi
theorem xI{L:List ByteArray}{k:Nat}(h:k<L.length):L.getD k ByteArray.empty=L[k]:=by rw[aQ,aC h];rfl
theorem oV(L:List ByteArray)(s:ByteArray)(Y:Option Addr)(cap:Nat)(w:World)(hv:gD w Y L)(a0:L.length<=1000000):
  Calls Tryz.prog 165 #[.slice Y L.length cap,.string s] w λe w'=>e=.returned (.int .i64 (uR (pI L s)))/\w'=w:=by
 go_enter Tryz.func165,Tryz.ntmps165;go_wp2
 go_loop [5] (λi=>∃k:Nat,k<=L.length/\i=.int .i64 k/\Hid (∀i (hi:i<L.length),i<k->L[i]≠s)) (λi=>L.length - (intOf i).toNat)
 case atStart=>exact⟨0,aE _,rfl,λi _ h=>by omega⟩
 case round=>
  obtain⟨k,hk,rfl,K⟩:=hrel;by_cases E:k<L.length
  ·rcases hv with h|⟨b,o,rfl,hb,Z⟩
   ·omega
   have z:=Z k E;rw[xI E] at z;obtain⟨t,V⟩:∃t,L[k]=t:=⟨_,rfl⟩;rw[V] at z;have W:Hid (L[k]=t):=V;clear V Z
   cases I:decide (t=s)
   ·have U:(t.toList == s.toList)=false:=by rw[oM];exact I
    have J:Hid (t≠s):=by show _≠_;simpa using I
    clear I;go_wp2
    go_round
    case rel=>
     refine⟨k+1,by omega,by go_num,λi hi h=>?_⟩;by_cases e:i=k
     ·subst e;rw[W.out];exact J.out
     ·exact K.out i hi (by omega)
    case measure=>simp[intOf];omega
   ·have U:(t.toList == s.toList)=true:=by rw[oM];exact I
    have J:Hid (t=s):=by show _=_;simpa using I
    clear I;go_wp2;go_ret;exact⟨fW (by rw[bAe E (by rw[W.out];exact J.out) (λi hi=>K.out i (by omega) hi)];rfl),rfl⟩
  ·go_wp2;go_ret;exact⟨fW (by rw[aYp (λi hi=>K.out i hi (by omega))];rfl),rfl⟩
def wT(L:List ByteArray)(q:Nat)(k:Nat):List ByteArray:=(L.take k).eraseIdx q
theorem aVi{L:List ByteArray}{q k:Nat}(z:k<L.length)(e:k=q):wT L q (k+1)=wT L q k:=by
 subst e;have E:(L.take k).length=k:=by rw[bR];omega
 unfold wT;rw[show (L.take k).eraseIdx k=L.take k from yZ (by omega),aF z,List.eraseIdx_append_of_length_le (by omega),E,jQ];simp
theorem aVh{L:List ByteArray}{q k:Nat}(z:k<L.length)(e:k≠q):wT L q (k+1)=wT L q k++[L[k]]:=by
 have E:(L.take k).length=k:=by rw[bR];omega
 unfold wT;rw[aF z];by_cases h:q<k
 ·rw[List.eraseIdx_append_of_lt_length (by omega)]
 ·rw[show (L.take k).eraseIdx q=L.take k from yZ (by omega)];exact yZ (by simp;omega)
theorem aYl(L:List ByteArray)(q k:Nat):(wT L q k).length<=k:=by
 unfold wT;have:=List.length_eraseIdx_le (l:=L.take k) (i:=q);have h2:=aMv k L;omega
theorem wX(L:List ByteArray)(q:Nat)(ao:Option Addr)(cap:Nat)(w:World)(hv:gD w ao L)(a2:L.length<=1000000)(a3:q<=1000000):
  Calls Tryz.prog 213 #[.slice ao L.length cap,.int .i64 q] w λe w'=>∃v,e=.returned v/\w'.ownsRow w.heap.size 9 1 v (L.eraseIdx q).length (bW (L.eraseIdx q))/\Below w.heap.size w w':=by
 obtain⟨i0,hi,Z,a0,a1⟩:=info_parts Tryz.info9;go_enter Tryz.func213,Tryz.ntmps213;go_wp2
 go_loopw [5,6] (λv i wr=>∃k:Nat,k<=L.length/\i=.int .i64 k/\wr.ownsRow w.heap.size 9 1 v (wT L q k).length (bW (wT L q k))/\Below w.heap.size w wr) (λ_ i _=>L.length - (intOf i).toNat)
 case atStart=>exact⟨0,aE _,rfl,by simpa[wT] using World.ownsRow_nil _ _ _ _,Below.refl _ _⟩
 case round=>
  obtain⟨k,hk,rfl,z,E⟩:=hrel;have Y:w.heap.size<=wr.heap.size:=E.size;have a4:=aYl L q k;by_cases K:k<L.length
  ·rcases hv with h|⟨b,o,rfl,hb,hc⟩
   ·omega
   have V:wr.cell? ⟨b,o+k,none⟩=some (.string L[k]):=by rw[<- xI K];exact(E.cell (p:=⟨b,o+k,none⟩) hb).trans (hc k K)
   clear hc;by_cases I:k=q
   ·have W:(((k:Nat):Int) != ((q:Nat):Int))=false:=by rw[I];simp
    have U:Hid (wT L q (k+1)=wT L q k):=aVi K I;clear I;go_wp2
    go_roundw
    case rel=>exact⟨k+1,by omega,by go_num,by rw[U.out];exact z,E⟩
    case measure=>simp[intOf];omega
   ·have W:(((k:Nat):Int) != ((q:Nat):Int))=true:=by rw[bne_iff_ne];omega
    have U:Hid (wT L q (k+1)=wT L q k++[L[k]]):=aVh K I;clear I;generalize L[k]=t at *
    go_wp2_with (at_builtin;refine wpList_append_own _ rfl _ _ 35 rfl w.heap.size 9 i0 (.string ⟨#[]⟩) 1 16 Tryz.underlying35 hi Z a0 a1 rfl (by decide) _ _ _ rfl (z.alloc _) ⟨wr.heap.size,0,none⟩ 1 1 [.string t] rfl rfl (iY _ _ _) (eX [_]) (by unfold maxLen;omega) (by omega) (by simp;omega) ?_)
    intro v' w1 J hg _;have R:=iZ (aA _) z E Y J hg;clear J hg z E;go_wp2
    go_roundw
    case rel=>exact⟨k+1,by omega,by go_num,by rw[U.out];exact R.1,R.2.1⟩
    case measure=>simp[intOf];omega
  ·have e:k=L.length:=by omega
   have HE:Hid (wT L q k=L.eraseIdx q):=by show _=_;unfold wT;rw[e,bD]
   clear e;go_wp2;go_ret;rw[HE.out] at z;exact⟨_,rfl,z,E⟩
def eU(n:Nat)(m:ByteArray):List ByteArray:=List.replicate n m
theorem aLp(n:Nat)(m:ByteArray):(eU n m).length=n:=by simp[eU]
theorem aXm{n:Nat}{m:ByteArray}{k:Nat}(h:k<n):(eU n m).getD k ByteArray.empty=m:=by simp[eU,h]
theorem aAd(L:List ByteArray)(W Y:Option Addr)(Z cb A B:Nat)(w:World)(E:w.ownsRow A 9 1 (.slice W L.length Z) L.length (bW L))(J:w.ownsRow B 9 1 (.slice Y L.length cb) L.length (bW L))(a2:L.length<=1000000):
  Calls Tryz.prog 93 #[.slice W L.length Z,.slice Y L.length cb] w λe w'=>e=.returned (.bool true)/\∃q,w'=w.drewN q:=by
 have a5:(((L.length:Nat):Int) != ((L.length:Nat):Int))=false:=by simp
 go_enter Tryz.func93,Tryz.ntmps93;go_wp2
 go_loopw [5] (λi wr=>∃k q:Nat,k<=L.length/\i=.int .i64 k/\wr=w.drewN q) (λi _=>L.length - (intOf i).toNat)
 case atStart=>exact⟨0,0,aE _,rfl,rfl⟩
 case round=>
  obtain⟨k,q,hk,rfl,rfl⟩:=hrel;by_cases z:k<L.length
  ·obtain⟨g,I,a3,a4⟩:=qM E (by omega);obtain⟨g',K,a0,a1⟩:=qM J (by omega);subst I K;have U:w.cell? ⟨g,k,none⟩=some (.string (L.getD k ByteArray.empty)):=oU E k z;have V:w.cell? ⟨g',k,none⟩=some (.string (L.getD k ByteArray.empty)):=oU J k z;obtain⟨t,ht⟩:∃t,L.getD k ByteArray.empty=t:=⟨_,rfl⟩;rw[ht] at U V;clear ht E J;go_wp2
   go_quiet (fail)
   go_wp2
   go_roundw
   case rel=>exact⟨k+1,_,by omega,by go_num,rfl⟩
   case measure=>simp[intOf];omega
  ·go_wp2;go_ret;exact⟨rfl,q,rfl⟩
theorem aPq(n:Nat)(m:ByteArray)(J:Option Addr)(K A:Nat)(w:World)(E:w.ownsRow A 9 1 (.slice J n K) n (bW (eU n m)))(U:n<=1000000000):
  Calls Tryz.prog 101 #[.slice J n K,.int .i64 n,.string m] w λe w'=>e=.returned (.bool true)/\w'=w:=by
 have Z:(((n:Nat):Int) != ((n:Nat):Int))=false:=by simp
 go_enter Tryz.func101,Tryz.ntmps101;go_wp2
 go_loop [7] (λi=>∃k:Nat,k<=n/\i=.int .i64 k) (λi=>n - (intOf i).toNat)
 case atStart=>exact⟨0,aE _,rfl⟩
 case round=>
  obtain⟨k,hk,rfl⟩:=hrel;by_cases z:k<n
  ·obtain⟨g,I,W,Y⟩:=qM E (by omega);subst I;have V:w.cell? ⟨g,k,none⟩=some (.string m):=by
    have:=oU E k (by rw[aLp];exact z);rw[aXm z] at this;exact this
   clear E;go_wp2
   go_round
   case rel=>exact⟨k+1,by omega,by go_num⟩
   case measure=>simp[intOf];omega
  ·go_wp2;go_ret;exact⟨rfl,rfl⟩
theorem tR(w:World)(d:Int):
  Sem.run Tryz.prog (convert 156 9 (Value.slice (some ⟨w.heap.size,0,none⟩) 1 1)) (w.alloc (.cells #[.int .u8 d] 5))=.ok (.string (strOfNums [d])) (w.alloc (.cells #[.int .u8 d] 5)):=by
 refine run_convert_bytes_arg (w.alloc (.cells #[.int .u8 d] 5)) 156 5 Tryz.underlying156 Tryz.underlying5 w.heap.size 0 1 1 [d] rfl ?_ 9 Tryz.underlying9;intro i hi;have:i=0:=by omega
 subst this;simp
theorem aH5(n:Nat)(w:World)(Y:n<=1000000000000):
  Calls Tryz.prog 163 #[.int .i64 n] w λe w'=>∃s:ByteArray,e=.returned (.string s)/\s.size<=1000000000001/\Below w.heap.size w w':=by
 go_enter Tryz.func163,Tryz.ntmps163;go_wp2
 go_loopw [0,3] (λa b wr=>∃(k:Nat) (s:ByteArray),a=.int .i64 k/\b=.string s/\s.size+k<=1000000000000/\Below w.heap.size w wr) (λa _ _=>(intOf a).toNat)
 case atStart=>exact⟨n,_,rfl,rfl,by show 0+n<=_;omega,Below.refl _ _⟩
 case round=>
  obtain⟨k,s,rfl,rfl,W,E⟩:=hrel;have J:=E.size;by_cases V:9<k
  ·have I:=tR wr (48+(k:Int) % 10);have z:=strOfNums_size [48+(k:Int) % 10];simp only[aY,cX] at z;obtain⟨t,K⟩:∃t,strOfNums [48+(k:Int) % 10]=t:=⟨_,rfl⟩;rw[K] at I z;clear K;have U:t.size<=1:=by omega
   clear z;go_wp2
   go_roundw
   case rel=>exact⟨k / 10,t++s,by go_num,rfl,by rw[aN];omega,E.alloc J _⟩
   case measure=>simp[intOf];omega
  ·have I:=tR wr (48+(k:Int));have z:=strOfNums_size [48+(k:Int)];simp only[aY,cX] at z;obtain⟨t,K⟩:∃t,strOfNums [48+(k:Int)]=t:=⟨_,rfl⟩;rw[K] at I z;clear K;have U:t.size<=1:=by omega
   clear z;go_wp2;go_ret;exact⟨_,rfl,by rw[aN];omega,E.alloc J _⟩
end Go.Proofs.YtgdfipmdmgkidaaGreatDoor
