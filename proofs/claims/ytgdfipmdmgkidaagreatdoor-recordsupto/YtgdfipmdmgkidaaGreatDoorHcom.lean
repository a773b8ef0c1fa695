import Derived.Test.YtgdfipmdmgkidaaGreatDoorHsim
import Derived.Test.YtgdfipmdmgkidaaGreatDoorProw
import Derived.Test.YtgdfipmdmgkidaaGreatDoorHsto
import Derived.Test.YtgdfipmdmgkidaaGreatDoorNplace
import Derived.Test.YtgdfipmdmgkidaaGreatDoorWcomm
import Derived.Test.YtgdfipmdmgkidaaGreatDoorAl
set_option linter.all false
set_option maxHeartbeats 12800000
set_option maxRecDepth 100000
namespace Go.Proofs.YtgdfipmdmgkidaaGreatDoor
open Go.RowKit
def aU1(B n m a:Nat)(i:Nat):Value:=if a<=i then .slice (some ⟨B+1+(n - i),0,none⟩) (m+1) (m+1) else .slice none 0 0
structure mJ (w wr:World) (n m a:Nat) (T:Nat->Nat->Nat):Prop where
 size:wr.heap.size=w.heap.size+1+(n+1 - a)
 outer:wr.heap[w.heap.size]?=some (.cells (tU (n+1) (aU1 w.heap.size n m a)) 25 (0,0))
 rows:∀i,a<=i->i<=n->wr.heap[w.heap.size+1+(n - i)]?=some (.cells (tU (m+1) (yE T i)) 3 (0,0))
 bel:Below w.heap.size w wr
section
variable {w wr:World} {n m a:Nat} {T T':Nat->Nat->Nat}
theorem mJ.out(h:mJ w wr n m a T)(i:Nat)(hi:a<=i)(z:i<=n):wr.cell? ⟨w.heap.size,i,none⟩=some (.slice (some ⟨w.heap.size+1+(n - i),0,none⟩) (m+1) (m+1)):=by
 simp only[World.cell?,h.outer];simp[xH (n+1) _ i (by omega),aU1,hi]
theorem mJ.cell(h:mJ w wr n m a T)(i j:Nat)(hi:a<=i)(z:i<=n)(E:j<=m):wr.cell? ⟨w.heap.size+1+(n - i),j,none⟩=some (.int .i64 (T i j:Nat)):=by
 simp only[World.cell?,h.rows i hi z];simp[xH (m+1) _ j (by omega),yE]
theorem mJ.free(h:mJ w wr n m a T)(i j:Nat)(hi:a<=i)(z:i<=n):wr.frozen? ⟨w.heap.size+1+(n - i),j,none⟩=false:=by simp[World.frozen?,h.rows i hi z]
theorem mJ.congr(h:mJ w wr n m a T)(E:∀r c,r<=n->c<=m->T r c=T' r c):mJ w wr n m a T':=
 ⟨h.size,h.outer,λi hi z=>by rw[h.rows i hi z];congr 2;exact pX _ _ _ λc I=>by unfold yE;rw[E i c z (by omega)],h.bel⟩
theorem mJ.drewN(h:mJ w wr n m a T)(q:Nat):mJ w (wr.drewN q) n m a T:=⟨h.size,h.outer,h.rows,below_drewN h.bel q⟩
theorem mJ.put(h:mJ w wr n m a T)(i j v:Nat)(hi:a<=i)(U:i<=n)(K:j<=m)(E:∀r c,r<=n->c<=m->T' r c=if r=i/\c=j then v else T r c):mJ w (wr.setCell ⟨w.heap.size+1+(n - i),j,none⟩ (.int .i64 (v:Nat))) n m a T':=by
 refine⟨by simpa[World.setCell] using h.size,(Below.heap_setCell _ _ _ _ (by simp;omega)).trans h.outer,λr I z=>?_,h.bel.setCell (p:=⟨w.heap.size+1+(n - i),j,none⟩) (by simp;omega) _⟩;by_cases e:r=i
 ·subst e
  rw[heap_setCell_same wr (w.heap.size+1+(n - r)) j _ 3 _ (h.rows r I z),aEs (m+1) (yE T r) (yE T' r) j _ (by omega) (λc J=>by
   unfold yE;rw[E r c z (by omega)]
   by_cases e:c=j<;>simp[e])]
 ·rw[Below.heap_setCell _ _ _ _ (by simp;omega),h.rows r I z];congr 2;exact pX _ _ _ λc J=>by unfold yE;rw[E r c z (by omega)];simp[e]
theorem mJ.more(h:mJ w wr n m (a+1) T)(W:a<=n)(U:∀c,c<=m->T a c=0):mJ w ((wr.setCell ⟨w.heap.size,a,none⟩ (.slice (some ⟨wr.heap.size,0,none⟩) (m+1) (m+1))).alloc (.cells (tU (m+1) (λ_=>.int .i64 0)) 3)) n m a T:=by
 have hs:=h.size;have z:wr.heap.size=w.heap.size+1+(n - a):=by omega
 have h1:=heap_setCell_same wr w.heap.size a _ 25 (.slice (some ⟨wr.heap.size,0,none⟩) (m+1) (m+1)) h.outer;have h2:∀r,r≠w.heap.size->(wr.setCell ⟨w.heap.size,a,none⟩ (.slice (some ⟨wr.heap.size,0,none⟩) (m+1) (m+1))).heap[r]?=wr.heap[r]?:=λr K=>Below.heap_setCell _ _ _ _ K;have E:=h.bel.setCell (p:=⟨w.heap.size,a,none⟩) (aA _) (.slice (some ⟨wr.heap.size,0,none⟩) (m+1) (m+1));have V:(wr.setCell ⟨w.heap.size,a,none⟩ (.slice (some ⟨wr.heap.size,0,none⟩) (m+1) (m+1))).heap.size=wr.heap.size:=by simp[World.setCell]
 generalize wr.setCell ⟨w.heap.size,a,none⟩ (.slice (some ⟨wr.heap.size,0,none⟩) (m+1) (m+1))=w1 at *;refine⟨by simp;omega,?_,λr K I=>?_,E.alloc (by omega) _⟩
 ·rw[Below.heap_alloc w1 _ _ (by omega),h1,aEs (n+1) _ (aU1 w.heap.size n m a) a _ (by omega) (λi hi=>by
   unfold aU1;by_cases e:i=a
   ·subst e;simp[z]
   ·by_cases J:a<=i
    ·simp[e,J,show a+1<=i by omega]
    ·simp[e,J,show ¬ a+1<=i by omega])]
 ·by_cases e:r=a
  ·subst e;rw[<- z,<- V,(aH w1 _).1];congr 2;exact pX _ _ _ λc Y=>by unfold yE;rw[U c (by omega)];rfl
  ·rw[Below.heap_alloc w1 _ _ (by omega),h2 _ (by omega)];exact h.rows r (by omega) I
theorem mJ.tv(h:mJ w wr n m 0 T)(E:∀r c,r<=n->c<=m->T r c=T' r c)(cap:Nat):TV wr (.slice (some ⟨w.heap.size,0,none⟩) (n+1) cap) n m T':=by
 have hs:=h.size;refine⟨w.heap.size,0,cap,rfl,by omega,λi hi=>⟨w.heap.size+1+(n - i),0,m+1,by rw[dC];exact h.out i (aE _) hi,by omega,λj z=>?_⟩⟩;rw[dC,h.cell i j (aE _) hi z,E i j hi z]
theorem aVt(O N:List ByteArray){i:Nat}(j:Nat)(hi:i<O.length):CC O N i j<=CC O N (i+1) j+1:=by
 unfold CC;rw[bO hi];exact aVz _ _ _
theorem aVu(O N:List ByteArray)(i:Nat){j:Nat}(z:j<N.length):CC O N i j<=CC O N i (j+1)+1:=by
 unfold CC;rw[bO z];exact aV0 _ _ _
theorem aH4(O N:List ByteArray)(hO:O.length<=10000)(hN:N.length<=10000)(oa na:Option Addr)(oc nc:Nat)(w:World)(a3:gD w oa O)(a2:gD w na N):
  Calls Tryz.prog 289 #[.slice oa O.length oc,.slice na N.length nc] w λe w'=>∃v,e=.returned v/\TV w' v O.length N.length (CC O N)/\Below w.heap.size w w':=by
 have c4:=aGk O.length hO;have c5:=aGj N.length hN;have a7:=aO a3;have a6:=aO a2;have T0:mJ w (w.alloc (.cells (tU (O.length+1) (λ_=>.slice none 0 0)) 25)) O.length N.length (O.length+1) (TT O N (O.length+1) (N.length+1)):=
  ⟨by simp,by rw[(aH w _).1];congr 2;exact pX _ _ _ λi hi=>by unfold aU1;rw[if_neg (by omega)],λi hi hn=>absurd hi (by omega),(Below.refl _ _).alloc (aA _) _⟩
 clear a3 a2;go_enter Tryz.func289,Tryz.ntmps289;go_wp2;obtain⟨wa,a4⟩:∃wa,wa=w.alloc (.cells (tU (O.length+1) (λ_=>.slice none 0 0)) 25):=⟨_,rfl⟩;rw[<- a4] at T0 ⊢;clear a4
 go_loopw [6] (λx wr=>∃a:Nat,a<=O.length+1/\x=.int .i64 ((a:Int) - 1)/\Hid (mJ w wr O.length N.length a (TT O N a (N.length+1)))) (λx _=>(intOf x+1).toNat)
 case atStart=>exact⟨O.length+1,aA _,by simp,T0⟩
 case round=>
  clear T0;obtain⟨a,ha,rfl,E⟩:=hrel;by_cases h0:a=0
  ·subst h0;have HF:Hid (TV wr (.slice (some ⟨w.heap.size,0,none⟩) (O.length+1) (O.length+1)) O.length N.length (CC O N)):=E.out.tv (λr c _ _=>by unfold TT;rw[if_pos (.inl (aE _))]) _;have HB:=aO E.out.bel;clear E;go_wp2;go_ret;exact⟨_,rfl,HF.out,HB.out⟩
  ·obtain⟨x,rfl⟩:∃x,a=x+1:=⟨a - 1,by omega⟩;have ex:(((x+1:Nat):Int) - 1)=(x:Int):=by omega
   rw[ex];clear ex;have b6:x<=O.length:=by omega
   have HM:=aO (E.out.more b6 λc Y=>by unfold TT;rw[if_neg (by omega)]);have a9:wr.cell? ⟨w.heap.size,x,none⟩=some (.slice none 0 0):=by
    simp only[World.cell?,E.out.outer];simp[xH (O.length+1) _ x (by omega),aU1]
   have b0:wr.frozen? ⟨w.heap.size,x,none⟩=false:=by simp[World.frozen?,E.out.outer]
   have b5:w.heap.size<wr.heap.size:=by have:=E.out.size;omega
   have c8:(x:Int)<((O.length+1:Nat):Int):=by omega
   clear E;go_wp2;generalize (wr.setCell ⟨w.heap.size,x,none⟩ (.slice (some ⟨wr.heap.size,0,none⟩) (N.length+1) (N.length+1))).alloc (.cells (tU (N.length+1) (λ_=>.int .i64 0)) 3)=w1 at *;clear a9 b0 b5
   go_loopw [7,8] (λy _ wr=>∃b:Nat,b<=N.length+1/\y=.int .i64 ((b:Int) - 1)/\Hid (mJ w wr O.length N.length x (TT O N (x+1) b))) (λy _ _=>(intOf y+1).toNat)
   case atStart=>exact⟨N.length+1,aA _,by simp,HM⟩
   case round=>
    clear HM;obtain⟨b,hb,rfl,E⟩:=hrel;by_cases a8:b=0
    ·subst a8;have V:Hid (mJ w wr O.length N.length x (TT O N x (N.length+1))):=E.out.congr λr c hr Y=>by
      unfold TT;by_cases h:x<=r
      ·rw[if_pos (by omega),if_pos (.inl h)]
      ·rw[if_neg (by omega),if_neg (by omega)]
     clear E;go_wp2
     go_roundw
     case rel=>exact⟨x,by omega,by go_num,V⟩
     case measure=>simp[intOf]<;>omega
    ·obtain⟨y,rfl⟩:∃y,b=y+1:=⟨b - 1,by omega⟩;have ey:(((y+1:Nat):Int) - 1)=(y:Int):=by omega
     rw[ey];clear ey;have d2:y<=N.length:=by omega
     by_cases J:x=O.length\/y=N.length
     ·have V:Hid (mJ w wr O.length N.length x (TT O N (x+1) y)):=E.out.congr λr c hr Y=>by
       unfold TT;by_cases h:x+1<=r\/(r+1=x+1/\y+1<=c)
       ·rw[if_pos h,if_pos (by omega)]
       ·rw[if_neg h];by_cases h2:x+1<=r\/(r+1=x+1/\y<=c)
        ·have e1:r=x/\c=y:=by omega
         rw[if_pos h2,e1.1,e1.2];rcases J with h3|h3
         ·rw[aAj (by omega)]
         ·rw[aEm (by omega)]
        ·rw[if_neg h2]
      clear E;by_cases h1:x=O.length
      ·have q1:((x:Int) == (O.length:Int))=true:=by simp[h1]
       clear J h1;go_wp2
       go_roundw
       case rel=>exact⟨y,by omega,by go_num,V⟩
       case measure=>simp[intOf]<;>omega
      ·have q1:((x:Int) == (O.length:Int))=false:=by simp;omega
       have q2:((y:Int) == (N.length:Int))=true:=by simp;omega
       clear J h1;go_wp2
       go_roundw
       case rel=>exact⟨y,by omega,by go_num,V⟩
       case measure=>simp[intOf]<;>omega
     ·have hx:x<O.length:=by omega
      have hy:y<N.length:=by omega
      have q1:((x:Int) == (O.length:Int))=false:=by simp;omega
      have q2:((y:Int) == (N.length:Int))=false:=by simp;omega
      clear J;rcases a7.out.below E.out.bel with h|⟨ob,oo,rfl,c7,a1⟩
      ·omega
      rcases a6.out.below E.out.bel with h|⟨nb,no,rfl,c6,a0⟩
      ·omega
      have co:=a1 x hx;have cn:=a0 y hy;obtain⟨s,hs⟩:∃s,O.getD x ByteArray.empty=s:=⟨_,rfl⟩;obtain⟨t,ht⟩:∃t,N.getD y ByteArray.empty=t:=⟨_,rfl⟩;rw[hs] at co;rw[ht] at cn;have gs:O[x]=s:=by rw[<- hs,aQ,aC hx,jZ]
      have gt:N[y]=t:=by rw[<- ht,aQ,aC hy,jZ]
      clear a1 a0 hs ht;have o0:=E.out.out x (aA _) (by omega);have o1:=E.out.out (x+1) (by omega) (by omega);have f0:=E.out.free x y (aA _) (by omega);have c0:=E.out.cell x y (aA _) (by omega) (by omega);have c1:=E.out.cell (x+1) (y+1) (by omega) (by omega) (by omega);have c2:=E.out.cell (x+1) y (by omega) (by omega) (by omega);have c3:=E.out.cell x (y+1) (aA _) (by omega) (by omega);have t1:TT O N (x+1) (y+1) (x+1) (y+1)=CC O N (x+1) (y+1):=by unfold TT;rw[if_pos (by omega)]
      have t2:TT O N (x+1) (y+1) (x+1) y=CC O N (x+1) y:=by unfold TT;rw[if_pos (by omega)]
      have t3:TT O N (x+1) (y+1) x (y+1)=CC O N x (y+1):=by unfold TT;rw[if_pos (by omega)]
      rw[t1] at c1;rw[t2] at c2;rw[t3] at c3;have b1:=uW O N (x+1) (y+1);have b2:=uW O N (x+1) y;have b3:=uW O N x (y+1);have s1:=aVu O N (x+1) hy;have s2:=aVt O N (y+1) hx;have K:Hid (∀(q:Nat) (u:Int),u=((CC O N x y:Nat):Int)->mJ w ((wr.drewN q).setCell ⟨w.heap.size+1+(O.length - x),y,none⟩ (.int .i64 u)) O.length N.length x (TT O N (x+1) y)):=λq u hu=>by
       rw[hu];refine(E.out.drewN q).put x y _ (aA _) (by omega) (by omega) (λr c hr Y=>?_);unfold TT;by_cases e:r=x/\c=y
       ·obtain⟨rfl,rfl⟩:=e;rw[if_pos (by omega),if_pos ⟨rfl,rfl⟩]
       ·rw[if_neg e];by_cases e2:x+1<=r\/(r+1=x+1/\y+1<=c)
        ·rw[if_pos e2,if_pos (by omega)]
        ·rw[if_neg e2,if_neg (by omega)]
      clear t1 t2 t3;obtain⟨z0,a5⟩:∃z,TT O N (x+1) (y+1) x y=z:=⟨_,rfl⟩;rw[a5] at c0;have b7:(x:Int)+1<((O.length+1:Nat):Int):=by omega
      have d0:(y:Int)<((N.length+1:Nat):Int):=by omega
      have b8:(y:Int)+1<((N.length+1:Nat):Int):=by omega
      have c9:(x:Int)<(O.length:Int):=by omega
      have d1:(y:Int)<(N.length:Int):=by omega
      have wx:IntKind.i64.wrap ((x:Int)+1)=(x:Int)+1:=by simp[IntKind.wrap,IntKind.signed,IntKind.bits];omega
      have wy:IntKind.i64.wrap ((y:Int)+1)=(y:Int)+1:=by simp[IntKind.wrap,IntKind.signed,IntKind.bits];omega
      have tx:((x:Int)+1).toNat=x+1:=by omega
      have ty:((y:Int)+1).toNat=y+1:=by omega
      have px:(0:Int)<=(x:Int)+1:=by omega
      have py:(0:Int)<=(y:Int)+1:=by omega
      generalize Z:w.heap.size+1+(O.length - x)=g0 at *;generalize b4:w.heap.size+1+(O.length - (x+1))=g1 at *;have b9:=aO Z;clear E a5 Z b4;have hV:CC O N x y=if s=t then CC O N (x+1) (y+1)+1 else max (CC O N (x+1) y) (CC O N x (y+1)):=by
       by_cases e:s=t
       ·rw[if_pos e];exact aVs hx hy (by rw[gs,gt];exact e)
       ·rw[if_neg e];exact aSl hx hy (by rw[gs,gt];exact e)
      have HV:=aO hV;clear hV gs gt;generalize CC O N (x+1) (y+1)=C at *;generalize CC O N (x+1) y=A at *;generalize CC O N x (y+1)=D at *;have wc:IntKind.i64.wrap ((C:Int)+1)=(C:Int)+1:=by simp[IntKind.wrap,IntKind.signed,IntKind.bits];omega
      rcases yA A D with hAD|hAD
      ·have k1:decide ((A:Int)<(D:Int))=true:=by rw[decide_eq_true_iff];omega
       cases I:decide (s=t)
       ·have W:(s.toList == t.toList)=false:=by rw[jT];exact I
        have U:Hid (∀q,mJ w ((wr.drewN q).setCell ⟨g0,y,none⟩ (.int .i64 (D:Int))) O.length N.length x (TT O N (x+1) y)):=λq=>K.out q _ (by rw[HV.out,if_neg (by simpa using I)];omega);clear K HV I
        go_wp2_with fail
        go_quiet (fail)
        go_wp2
        go_roundw
        case rel=>exact⟨y,by omega,by go_num,U.out _⟩
        case measure=>simp[intOf]<;>omega
       ·have W:(s.toList == t.toList)=true:=by rw[jT];exact I
        by_cases Y:D<C+1
        ·have k2:decide ((D:Int)<(C:Int)+1)=true:=by rw[decide_eq_true_iff];omega
         have U:Hid (∀q,mJ w ((wr.drewN q).setCell ⟨g0,y,none⟩ (.int .i64 ((C:Int)+1))) O.length N.length x (TT O N (x+1) y)):=λq=>K.out q _ (by rw[HV.out,if_pos (by simpa using I)];omega);clear K HV I
         go_wp2_with fail
         go_quiet (fail)
         go_wp2
         go_roundw
         case rel=>exact⟨y,by omega,by go_num,U.out _⟩
         case measure=>simp[intOf]<;>omega
        ·have k2:decide ((D:Int)<(C:Int)+1)=false:=by rw[decide_eq_false_iff_not];omega
         have U:Hid (∀q,mJ w ((wr.drewN q).setCell ⟨g0,y,none⟩ (.int .i64 (D:Int))) O.length N.length x (TT O N (x+1) y)):=λq=>K.out q _ (by rw[HV.out,if_pos (by simpa using I)];omega);clear K HV I
         go_wp2_with fail
         go_quiet (fail)
         go_wp2
         go_roundw
         case rel=>exact⟨y,by omega,by go_num,U.out _⟩
         case measure=>simp[intOf]<;>omega
      ·have k1:decide ((A:Int)<(D:Int))=false:=by rw[decide_eq_false_iff_not];omega
       cases I:decide (s=t)
       ·have W:(s.toList == t.toList)=false:=by rw[jT];exact I
        have U:Hid (∀q,mJ w ((wr.drewN q).setCell ⟨g0,y,none⟩ (.int .i64 (A:Int))) O.length N.length x (TT O N (x+1) y)):=λq=>K.out q _ (by rw[HV.out,if_neg (by simpa using I)];omega);clear K HV I
        go_wp2_with fail
        go_quiet (fail)
        go_wp2
        go_roundw
        case rel=>exact⟨y,by omega,by go_num,U.out _⟩
        case measure=>simp[intOf]<;>omega
       ·have W:(s.toList == t.toList)=true:=by rw[jT];exact I
        by_cases Y:A<C+1
        ·have k2:decide ((A:Int)<(C:Int)+1)=true:=by rw[decide_eq_true_iff];omega
         have U:Hid (∀q,mJ w ((wr.drewN q).setCell ⟨g0,y,none⟩ (.int .i64 ((C:Int)+1))) O.length N.length x (TT O N (x+1) y)):=λq=>K.out q _ (by rw[HV.out,if_pos (by simpa using I)];omega);clear K HV I
         go_wp2_with fail
         go_quiet (fail)
         go_wp2
         go_roundw
         case rel=>exact⟨y,by omega,by go_num,U.out _⟩
         case measure=>simp[intOf]<;>omega
        ·have k2:decide ((A:Int)<(C:Int)+1)=false:=by rw[decide_eq_false_iff_not];omega
         have U:Hid (∀q,mJ w ((wr.drewN q).setCell ⟨g0,y,none⟩ (.int .i64 (A:Int))) O.length N.length x (TT O N (x+1) y)):=λq=>K.out q _ (by rw[HV.out,if_pos (by simpa using I)];omega);clear K HV I
         go_wp2_with fail
         go_quiet (fail)
         go_wp2
         go_roundw
         case rel=>exact⟨y,by omega,by go_num,U.out _⟩
         case measure=>simp[intOf]<;>omega
end
def mvF(O N:List ByteArray):Nat->Nat->Nat->List Nat
 | 0,_,_=>[]
 | f+1,i,j=>if iR O N i j then 0::mvF O N f (i+1) (j+1) else if i<O.length\/j<N.length then (if gQ O N i j=true then 1::mvF O N f (i+1) j else 2::mvF O N f i (j+1)) else []
def mvs(O N:List ByteArray):List Nat:=mvF O N (O.length+N.length) 0 0
theorem aZl{O N:List ByteArray}{i j:Nat}(hi:O.length<=i)(z:N.length<=j):∀f,mvF O N f i j=[]
 | 0=>rfl
 | f+1=>by
  unfold mvF;rw[if_neg (λh=>by have:=h.1;omega),if_neg (by omega)]
theorem aEx(O N:List ByteArray):∀(f i j:Nat),(mvF O N f i j).length<=f
 | 0,_,_=>by simp[mvF]
 | f+1,i,j=>by
  unfold mvF;have a:=aEx O N f (i+1) (j+1);have b:=aEx O N f (i+1) j;have c:=aEx O N f i (j+1);split
  ·simpa using a
  ·split
   ·split
    ·simpa using b
    ·simpa using c
   ·simp
theorem aLt(O N:List ByteArray)(hO:O.length<=10000)(hN:N.length<=10000)(oa na:Option Addr)(oc nc:Nat)(w:World)(b9:gD w oa O)(b8:gD w na N):
  Calls Tryz.prog 266 #[.slice oa O.length oc,.slice na N.length nc] w λe w'=>∃v,e=.returned v/\w'.ownsRow w.heap.size 3 1 v (mvs O N).length (oO (mvs O N))/\Below w.heap.size w w':=by
 have HC:=aO (aH4 O N hO hN oa na oc nc w b9 b8);have b6:=aO b9;have b5:=aO b8;clear b9 b8;go_enter Tryz.func266,Tryz.ntmps266
 go_wp2_with (go_at_call 289;refine HC.out.mono ?_;rintro r w1 ⟨v,rfl,c5,V⟩)
 have b4:=aO c5;have b7:=V;clear c5 V;obtain⟨tb,to,tc,rfl,-,-⟩:=b4.out
 go_loopw [6,7,8] (λl x y wr=>∃(M:List Nat) (i j f:Nat),x=.int .i64 i/\y=.int .i64 j/\i<=O.length/\j<=N.length/\(O.length - i)+(N.length - j)<=f/\Hid (M++mvF O N f i j=mvs O N)/\M.length<=i+j/\wr.ownsRow w1.heap.size 3 1 l M.length (oO M)/\Below w1.heap.size w1 wr) (λ_ x y _=>(O.length - (intOf x).toNat)+(N.length - (intOf y).toNat))
 case atStart=>exact⟨[],0,0,O.length+N.length,rfl,rfl,aE _,aE _,by omega,rfl,aA _,aK _ _ _ _,Below.refl _ _⟩
 case round=>
  obtain⟨M,i,j,f,rfl,rfl,hi,hj,hf,HM,d2,I,V⟩:=hrel;have a7:=b7.trans (V.mono b7.size);have d3:=V.size;by_cases J:i=O.length/\j=N.length
  ·obtain⟨rfl,rfl⟩:=J;have HE:Hid (M=mvs O N):=by
    have:=HM.out;rwa[aZl (aA _) (aA _),cR] at this
   clear HM;go_wp2;go_ret;exact⟨_,rfl,by rw[<- HE.out];exact bK I b7.size,a7⟩
  ·have b0:i<O.length\/j<N.length:=by omega
   obtain⟨f',rfl⟩:∃g,f=g+1:=⟨f - 1,by omega⟩;unfold mvF at HM;have W:M.length<=1000000:=by omega
   have h1:((i:Int)<(O.length:Int))\/((j:Int)<(N.length:Int)):=by omega
   by_cases hm:iR O N i j
   ·rw[if_pos hm] at HM;obtain⟨a8,a9,c2⟩:=hm;rcases b6.out.below a7 with h|⟨ob,oo,rfl,c4,Z⟩
    ·omega
    rcases b5.out.below a7 with h|⟨nb,no,rfl,c3,Y⟩
    ·omega
    have co:=Z i a8;have cn:=Y j a9;rw[c2] at co;generalize N.getD j ByteArray.empty=t at *;have k0:decide ((i:Int)<(O.length:Int))=true:=by rw[decide_eq_true_iff];omega
    have k1:decide ((j:Int)<(N.length:Int))=true:=by rw[decide_eq_true_iff];omega
    have k2:(t.toList == t.toList)=true:=by rw[jT];simp
    clear Z Y c2 J b0 h1
    go_wp2_with fail
    go_quiet (fail)
    go_wp2_with (at_builtin;refine jL ei3 _ rfl _ _ rfl w1.heap.size _ _ _ rfl (zY I _) #[.int .i64 0] rfl rfl (kW [0]) W (by decide) (by simp;omega) ?_)
    intro v' w2 z hg E;have U:=E _ _ (below_drewN V _) (aA _);have K:Hid (w2.ownsRow w1.heap.size 3 1 v' (M++[0]).length (oO (M++[0]))):=by unfold Hid;simpa[oO] using z
    clear z hg E I V co cn;go_wp2
    go_roundw
    case rel=>exact⟨M++[0],i+1,j+1,f',by go_num,by go_num,by omega,by omega,by omega,by have:=HM.out;unfold Hid;rw[<- this];simp,by simp;omega,K.out,U⟩
    case measure=>simp[intOf];omega
   ·rw[if_neg hm,if_pos b0] at HM
    cases hk:gQ O N i j
    ·have a9:=sW hi hj b0 hk;rw[hk,if_neg (by simp)] at HM;by_cases a8:i<O.length
     ·rcases b6.out.below a7 with h|⟨ob,oo,rfl,c4,Z⟩
      ·omega
      rcases b5.out.below a7 with h|⟨nb,no,rfl,c3,Y⟩
      ·omega
      have co:=Z i a8;have cn:=Y j a9;have b1:O.getD i ByteArray.empty≠N.getD j ByteArray.empty:=λh=>hm ⟨a8,a9,h⟩;generalize N.getD j ByteArray.empty=t at *;generalize O.getD i ByteArray.empty=s at *;have k0:decide ((i:Int)<(O.length:Int))=true:=by rw[decide_eq_true_iff];omega
      have k1:decide ((j:Int)<(N.length:Int))=true:=by rw[decide_eq_true_iff];omega
      have k2:(s.toList == t.toList)=false:=by rw[jT];simpa using b1
      have k3:((j:Int) == (N.length:Int))=false:=by simp;omega
      obtain⟨_,_,_,e1,-,a0⟩:=b4.out.below V (aA _)
      cases e1
      obtain⟨g1,q1,c1,a1,-,a2⟩:=a0 (i+1) (by omega);obtain⟨g0,q0,c0,a3,-,a4⟩:=a0 i (by omega);have a5:=a2 j (by omega);have a6:=a4 (j+1) (by omega);have b2:=uW O N (i+1) j;have b3:=uW O N i (j+1);have wx:IntKind.i64.wrap ((i:Int)+1)=(i:Int)+1:=by simp[IntKind.wrap,IntKind.signed,IntKind.bits];omega
      have wy:IntKind.i64.wrap ((j:Int)+1)=(j:Int)+1:=by simp[IntKind.wrap,IntKind.signed,IntKind.bits];omega
      have tx:((i:Int)+1).toNat=i+1:=by omega
      have ty:((j:Int)+1).toNat=j+1:=by omega
      have px:(0:Int)<=(i:Int)+1:=by omega
      have py:(0:Int)<=(j:Int)+1:=by omega
      have c6:(i:Int)<((O.length+1:Nat):Int):=by omega
      have c7:(i:Int)+1<((O.length+1:Nat):Int):=by omega
      have c9:(j:Int)<((N.length+1:Nat):Int):=by omega
      have d0:(j:Int)+1<((N.length+1:Nat):Int):=by omega
      have c8:(i:Int)<(O.length:Int):=by omega
      have d1:(j:Int)<(N.length:Int):=by omega
      have kb:CC O N (i+1) j<CC O N i (j+1):=by
       have:=hk;unfold gQ at this;rw[if_neg (by omega)] at this;simpa using this
      generalize CC O N (i+1) j=A at *;generalize CC O N i (j+1)=D at *;clear Z Y b1 J b0 h1 hm hk a0 a2 a4;have k4:decide ((D:Int)<=(A:Int))=false:=by rw[decide_eq_false_iff_not];omega
      have k5:¬ D<=A:=by omega
      clear kb
      go_wp2_with fail
      go_quiet (fail)
      go_wp2_with fail
      go_quiet (fail)
      go_wp2_with (at_builtin;refine jL ei3 _ rfl _ _ rfl w1.heap.size _ _ _ rfl (zY I _) #[.int .i64 2] rfl rfl (kW [2]) W (by decide) (by simp;omega) ?_)
      intro v' w2 z hg E;have U:=E _ _ (below_drewN V _) (aA _);have K:Hid (w2.ownsRow w1.heap.size 3 1 v' (M++[2]).length (oO (M++[2]))):=by unfold Hid;simpa[oO] using z
      clear z hg E I V;go_wp2
      go_roundw
      case rel=>exact⟨M++[2],i,j+1,f',by go_num,by go_num,by omega,by omega,by omega,by have:=HM.out;unfold Hid;rw[<- this];simp,by simp;omega,K.out,U⟩
      case measure=>simp[intOf];omega
     ·have k0:decide ((i:Int)<(O.length:Int))=false:=by rw[decide_eq_false_iff_not];omega
      have k1:decide ((j:Int)<(N.length:Int))=true:=by rw[decide_eq_true_iff];omega
      clear J b0 h1 hm hk
      go_wp2_with fail
      go_quiet (fail)
      go_wp2_with fail
      go_quiet (fail)
      go_wp2_with (at_builtin;refine jL ei3 _ rfl _ _ rfl w1.heap.size _ _ _ rfl (zY I _) #[.int .i64 2] rfl rfl (kW [2]) W (by decide) (by simp;omega) ?_)
      intro v' w2 z hg E;have U:=E _ _ (below_drewN V _) (aA _);have K:Hid (w2.ownsRow w1.heap.size 3 1 v' (M++[2]).length (oO (M++[2]))):=by unfold Hid;simpa[oO] using z
      clear z hg E I V;go_wp2
      go_roundw
      case rel=>exact⟨M++[2],i,j+1,f',by go_num,by go_num,by omega,by omega,by omega,by have:=HM.out;unfold Hid;rw[<- this];simp,by simp;omega,K.out,U⟩
      case measure=>simp[intOf];omega
    ·have a8:=xJ hi hk;rw[hk,if_pos rfl] at HM;by_cases a9:j<N.length
     ·rcases b6.out.below a7 with h|⟨ob,oo,rfl,c4,Z⟩
      ·omega
      rcases b5.out.below a7 with h|⟨nb,no,rfl,c3,Y⟩
      ·omega
      have co:=Z i a8;have cn:=Y j a9;have b1:O.getD i ByteArray.empty≠N.getD j ByteArray.empty:=λh=>hm ⟨a8,a9,h⟩;generalize N.getD j ByteArray.empty=t at *;generalize O.getD i ByteArray.empty=s at *;have k0:decide ((i:Int)<(O.length:Int))=true:=by rw[decide_eq_true_iff];omega
      have k1:decide ((j:Int)<(N.length:Int))=true:=by rw[decide_eq_true_iff];omega
      have k2:(s.toList == t.toList)=false:=by rw[jT];simpa using b1
      have k3:((j:Int) == (N.length:Int))=false:=by simp;omega
      obtain⟨_,_,_,e1,-,a0⟩:=b4.out.below V (aA _)
      cases e1
      obtain⟨g1,q1,c1,a1,-,a2⟩:=a0 (i+1) (by omega);obtain⟨g0,q0,c0,a3,-,a4⟩:=a0 i (by omega);have a5:=a2 j (by omega);have a6:=a4 (j+1) (by omega);have b2:=uW O N (i+1) j;have b3:=uW O N i (j+1);have wx:IntKind.i64.wrap ((i:Int)+1)=(i:Int)+1:=by simp[IntKind.wrap,IntKind.signed,IntKind.bits];omega
      have wy:IntKind.i64.wrap ((j:Int)+1)=(j:Int)+1:=by simp[IntKind.wrap,IntKind.signed,IntKind.bits];omega
      have tx:((i:Int)+1).toNat=i+1:=by omega
      have ty:((j:Int)+1).toNat=j+1:=by omega
      have px:(0:Int)<=(i:Int)+1:=by omega
      have py:(0:Int)<=(j:Int)+1:=by omega
      have c6:(i:Int)<((O.length+1:Nat):Int):=by omega
      have c7:(i:Int)+1<((O.length+1:Nat):Int):=by omega
      have c9:(j:Int)<((N.length+1:Nat):Int):=by omega
      have d0:(j:Int)+1<((N.length+1:Nat):Int):=by omega
      have c8:(i:Int)<(O.length:Int):=by omega
      have d1:(j:Int)<(N.length:Int):=by omega
      have kb:CC O N i (j+1)<=CC O N (i+1) j:=by
       have:=hk;unfold gQ at this;rw[if_neg (by omega)] at this;simpa using this
      generalize CC O N (i+1) j=A at *;generalize CC O N i (j+1)=D at *;clear Z Y b1 J b0 h1 hm hk a0 a2 a4;have k4:decide ((D:Int)<=(A:Int))=true:=by rw[decide_eq_true_iff];omega
      have k5:D<=A:=by omega
      clear kb
      go_wp2_with fail
      go_quiet (fail)
      go_wp2_with fail
      go_quiet (fail)
      go_wp2_with (at_builtin;refine jL ei3 _ rfl _ _ rfl w1.heap.size _ _ _ rfl (zY I _) #[.int .i64 1] rfl rfl (kW [1]) W (by decide) (by simp;omega) ?_)
      intro v' w2 z hg E;have U:=E _ _ (below_drewN V _) (aA _);have K:Hid (w2.ownsRow w1.heap.size 3 1 v' (M++[1]).length (oO (M++[1]))):=by unfold Hid;simpa[oO] using z
      clear z hg E I V;go_wp2
      go_roundw
      case rel=>exact⟨M++[1],i+1,j,f',by go_num,by go_num,by omega,by omega,by omega,by have:=HM.out;unfold Hid;rw[<- this];simp,by simp;omega,K.out,U⟩
      case measure=>simp[intOf];omega
     ·have k0:decide ((i:Int)<(O.length:Int))=true:=by rw[decide_eq_true_iff];omega
      have k1:decide ((j:Int)<(N.length:Int))=false:=by rw[decide_eq_false_iff_not];omega
      have k3:((j:Int) == (N.length:Int))=true:=by simp;omega
      clear J b0 h1 hm hk
      go_wp2_with fail
      go_quiet (fail)
      go_wp2_with fail
      go_quiet (fail)
      go_wp2_with (at_builtin;refine jL ei3 _ rfl _ _ rfl w1.heap.size _ _ _ rfl (zY I _) #[.int .i64 1] rfl rfl (kW [1]) W (by decide) (by simp;omega) ?_)
      intro v' w2 z hg E;have U:=E _ _ (below_drewN V _) (aA _);have K:Hid (w2.ownsRow w1.heap.size 3 1 v' (M++[1]).length (oO (M++[1]))):=by unfold Hid;simpa[oO] using z
      clear z hg E I V;go_wp2
      go_roundw
      case rel=>exact⟨M++[1],i+1,j,f',by go_num,by go_num,by omega,by omega,by omega,by have:=HM.out;unfold Hid;rw[<- this];simp,by simp;omega,K.out,U⟩
      case measure=>simp[intOf];omega
structure HkP (O N:List ByteArray) (Q:List dL) (m:List Nat) (k i j i0 j0 n:Nat):Prop where
 qr:dS O N i0 j0 (Q.drop n)
 i1:i0<=i
 i2:i<=O.length
 j1:j0<=j
 j2:j<=N.length
 nx:tJ O N i0 j0=tJ O N i j
 mv:∃f,(O.length - i)+(N.length - j)<=f/\m.drop k=mvF O N f i j
section
variable {O N:List ByteArray} {Q:List dL} {m:List Nat} {k i j i0 j0 n:Nat}
theorem HkP.cases(h:HkP O N Q m k i j i0 j0 n):(m.length<=k/\i=O.length/\j=N.length)\/(m[k]?=some 0/\iR O N i j)\/(m[k]?=some 1/\¬ iR O N i j/\gQ O N i j=true)\/(m[k]?=some 2/\¬ iR O N i j/\gQ O N i j=false/\(i<O.length\/j<N.length)):=by
 obtain⟨f,V,z⟩:=h.mv;have h1:=h.i2;have h2:=h.j2;have I:∀{a:Nat} {l:List Nat},m.drop k=a::l->m[k]?=some a:=λ{a l} U=>by
  have:=congrArg List.head? U;rwa[List.head?_drop] at this
 cases f with
 | zero=>
  refine .inl ⟨?_,by omega,by omega⟩;exact vC.1 z
 | succ f=>
  unfold mvF at z;split at z
  ·rename_i E
   exact .inr (.inl ⟨I z,E⟩)
  ·rename_i E
   split at z
   ·rename_i K
    split at z
    ·rename_i J
     exact .inr (.inr (.inl ⟨I z,E,J⟩))
    ·rename_i J
     exact .inr (.inr (.inr ⟨I z,E,by simpa using J,K⟩))
   ·exact .inl ⟨vC.1 z,by omega,by omega⟩
theorem HkP.tail(h:HkP O N Q m k i j i0 j0 n){a:Nat}(J:m[k]?=some a):∃f,(O.length - i)+(N.length - j)<=f+1/\m.drop k=mvF O N (f+1) i j/\m.drop k=a::m.drop (k+1):=by
 obtain⟨f,I,E⟩:=h.mv;obtain⟨K,e⟩:=aB.1 J;have z:m.drop k=a::m.drop (k+1):=by rw[bO K,e]
 cases f with
 | zero=>rw[E] at z;cases z
 | succ f=>exact⟨f,I,E,z⟩
theorem HkP.keep(h:HkP O N Q m k i j i0 j0 n)(W:m[k]?=some 0)(z:iR O N i j):∃R,Q.drop n=fA i0 i j0 j++R/\HkP O N Q m (k+1) (i+1) (j+1) (i+1) (j+1) (n+(fA i0 i j0 j).length):=by
 have J:tJ O N i0 j0=(i,j):=by rw[h.nx,aO9 z]
 obtain⟨f,Y,E,U⟩:=h.tail W;have hi:=z.1;have Z:=z.2.1;have I:m.drop (k+1)=mvF O N f (i+1) (j+1):=by
  rw[U] at E;unfold mvF at E;rw[if_pos z] at E;exact(nG E).2
 have K:=h.qr;generalize V:Q.drop n=X at K
 cases K with
 | stop h1 h2=>rw[J] at h1;cases h1;omega
 | @go k' l' rest a b c d=>
  rw[J] at c
  cases c
  refine⟨_,rfl,?_,aA _,by omega,aA _,by omega,rfl,f,by omega,I⟩;rw[<- aKa,V,List.drop_left]
  assumption
theorem HkP.stop(h:HkP O N Q m k i j i0 j0 n)(hi:i=O.length)(I:j=N.length):Q.drop n=fA i0 i j0 j:=by
 have z:tJ O N i0 j0=(i,j):=by rw[h.nx,aTa (by omega) (by omega)]
 have E:=h.qr;generalize Q.drop n=X at E
 cases E with
 | stop h1 h2=>rw[z] at h1;cases h1;rfl
 | go h1 h2 _=>rw[z] at h1;cases h1;omega
theorem HkP.kill(h:HkP O N Q m k i j i0 j0 n)(K:m[k]?=some 1)(E:¬ iR O N i j)(z:gQ O N i j=true):i<O.length/\HkP O N Q m (k+1) (i+1) j i0 j0 n:=by
 have hi:=xJ h.i2 z;have h1:=h.i1;obtain⟨f,U,I,J⟩:=h.tail K;refine⟨hi,h.qr,by omega,by omega,h.j1,h.j2,by rw[h.nx,aGs h.i2 E z],f,by omega,?_⟩;rw[J] at I;unfold mvF at I;rw[if_neg E,if_pos (.inl hi),if_pos z] at I;exact(nG I).2
theorem HkP.come(h:HkP O N Q m k i j i0 j0 n)(V:m[k]?=some 2)(I:¬ iR O N i j)(z:gQ O N i j=false)(E:i<O.length\/j<N.length):j<N.length/\HkP O N Q m (k+1) i (j+1) i0 j0 n:=by
 have U:=sW h.i2 h.j2 E z;have h1:=h.j1;obtain⟨f,W,J,K⟩:=h.tail V;refine⟨U,h.qr,h.i1,h.i2,by omega,by omega,by rw[h.nx,aGr h.i2 h.j2 I E z],f,by omega,?_⟩;rw[K] at J;unfold mvF at J;rw[if_neg I,if_pos E,z,if_neg (by simp)] at J;exact(nG J).2
theorem HkP.start{Q:List dL}(h:dS O N 0 0 Q):HkP O N Q (mvs O N) 0 0 0 0 0 0:=⟨by simpa using h,aA _,aE _,aA _,aE _,rfl,O.length+N.length,by omega,by simp[mvs]⟩
theorem aR3(S:List aU):aL S=(cA S).map (·.line):=by
 unfold aL living cA;have:=rL S S.length (aA _);rwa[bD] at this
theorem aUj(S:List aU)(k:Nat)(E:k<=S.length):(fC S k).map (λj=>S[j]?)=((S.take k).filter (·.alive)).map some:=by
 induction k with
 | zero=>simp[fC]
 | succ k ih=>
  have z:k<S.length:=by omega
  rw[aF z,iM,bF,<- ih (by omega)];show (if (S[k]?).any (·.alive) then fC S k++[k] else fC S k).map _=_;rw[aC z];by_cases h:S[k].alive=true
  ·simp[h,aC z]
  ·simp[h]
theorem aJg(S:List aU){x:Nat}(E:x<(living S).length):S[(living S)[x]]?=(cA S)[x]?:=by
 have h:=aUj S S.length (aA _);rw[bD] at h;have h2:=congrArg (λl=>l[x]?) h;simp only[aP] at h2;have I:(fC S S.length)[x]?=some (living S)[x]:=aC E;rw[I] at h2;have z:x<(cA S).length:=by rw[<- zW];exact E
 have J:(S.filter (·.alive))[x]?=some (cA S)[x]:=aC z;rw[J] at h2;rw[aC z];exact fZ h2
theorem aKj(S:List aU):cA (aM S)=jR::(cA S++[lD]):=by
 unfold cA aM;rw[aD4 (by rfl),iM];rfl
def edA(e:iA)(S:List aU)(i:Nat):Int:=if i=0 then -1 else (((cA S)[i - 1]?).map λt=>((fI e t:Nat):Int)).getD (-1)
def edB(e:iA)(S:List aU)(k:Nat):Int:=(((cA S)[k]?).map λt=>((fI e t:Nat):Int)).getD (-1)
theorem aRt(e:iA){S:List aU}(hS:∀t∈S,0<=t.num){q:dL}(h1:q.i<=q.k)(h2:q.k<=(aL S).length):
  ∃X M Z a b,S=X++(M++Z)/\dA (aM S) q=a::(M++[b])/\((a=jR/\X=[])\/∃X',X=X'++[a])/\((b=lD/\Z=[])\/∃Z',Z=b::Z')/\a.alive=true/\b.alive=true/\edg e a=edA e S q.i/\edg e b=edB e S q.k:=by
 have hl:=fK S;have a1:(cA S).length=(aL S).length:=by rw[aR3,aT]
 have U:q.i<(living (aM S)).length:=by omega
 have V:q.k+1<(living (aM S)).length:=by omega
 have Y:=kQ (aM S) (show q.i<q.k+1 by omega) V;have K:=iK (aM S) V;have E:=aX1 (aM S) Y K;have z:=aJg (aM S) U;have gb:=aJg (aM S) V;rw[aC (iK _ U)] at z;rw[aC K] at gb;have W:dA (aM S) q=(aM S)[(living (aM S))[q.i]]::(((aM S).take (living (aM S))[q.k+1]).drop ((living (aM S))[q.i]+1)++[(aM S)[(living (aM S))[q.k+1]]]):=by
  unfold dA;rw[fS _ U,fS _ V];exact E
 have aa:((aM S)[(living (aM S))[q.i]]'(iK _ U)).alive=true:=sG U;have ab:((aM S)[(living (aM S))[q.k+1]]).alive=true:=sG V;have a0:gS (aM S) (dA (aM S) q) [jR] ((aM S).take (living (aM S))[q.i]++((aM S)[(living (aM S))[q.i]]::(cD (((aM S).take (living (aM S))[q.k+1]).drop ((living (aM S))[q.i]+1))++([jR]++((aM S)[(living (aM S))[q.k+1]]::(aM S).drop ((living (aM S))[q.k+1]+1)))))):=by
  refine⟨_,_,_,_,_,W,?_,rfl,aa,ab,.inr (by simp)⟩;rw[W,<- E];have:=bV ((living (aM S))[q.k+1]+1) (aM S);have h3:=bV (living (aM S))[q.i] ((aM S).take ((living (aM S))[q.k+1]+1));rw[zD,pV (by omega)] at h3;rw[<- bG,h3,this]
 obtain⟨X,M,Z,a,b,e1,I,-,e3,e4,e5,e6⟩:=a0.split;rw[W] at I;have ea:=(nG I).1;have eb:=(jY (nG I).2 rfl).2;have eM:=(jY (nG I).2 rfl).1;simp only[fY,and_true] at eb;rw[ea] at z;rw[eb] at gb;rw[aKj] at z gb;refine⟨X,M,Z,a,b,e1,by rw[W,I],e3,e4,e5,e6,?_,?_⟩
 ·unfold edA;by_cases J:q.i=0
  ·rw[J] at z;simp only[aD6,cJ] at z;rw[z,if_pos J];rfl
  ·obtain⟨t,ht⟩:∃t,q.i=t+1:=⟨q.i - 1,by omega⟩;rw[ht,fB,aZ (by omega)] at z;rw[if_neg J,ht,Nat.add_sub_cancel,<- z];exact qZ (hS a (cT.1 (aD z.symm)).1)
 ·unfold edB;rw[fB] at gb;by_cases J:q.k<(cA S).length
  ·rw[aZ J] at gb;rw[<- gb];exact qZ (hS b (cT.1 (aD gb.symm)).1)
  ·have:q.k=(cA S).length:=by omega
   rw[this,bH (aA _),jQ] at gb;simp only[aD6,cJ] at gb;rw[gb,this,gK (aA _)];rfl
theorem aIv(e:iA)(i:cL)(m:Int)(z:0<=m)(L:List ByteArray):(eD i m L).map (fI e)=(List.range L.length).map λt=>e.cb i+m.toNat+t:=by
 unfold eD qT;rw[fG];refine fQ λt E=>?_;show e.cb i+(m+(t:Int)).toNat=_;omega
theorem aC4(i:cL)(m:Int)(L:List ByteArray):(eD i m L).map (·.line)=L:=by
 unfold eD qT;rw[fG];apply aD3
 ·simp
 ·intro t h1 h2;simp[brS,aQ,aC h2]
end
structure WR (w:World) (B rb:Nat) (D:RD):Prop where
 lo:B<=rb
 wb:∃pv cv fv sv,w.heap[rb]?=some (.cells #[pv,cv,fv,sv] 192 (0,0))/\w.ownsRow B 195 2 pv D.pts.length (D.pts.flatMap eP)/\w.ownsRow B 255 2 cv D.cells.length (D.cells.flatMap eL)/\w.ownsRow B 261 2 fv D.files.length (D.files.flatMap eL)/\w.ownsRow B 205 3 sv D.repos.length (D.repos.flatMap eR)
structure WO (w:World) (B rb:Nat) (D:RD):Prop where
 wr:WR w B rb D
 ok:∀p∈D.pts,OkP w p
 okr:∀r∈D.repos,OkR w r
theorem WO.view{w:World}{B rb:Nat}{D:RD}(h:WO w B rb D):WV w rb D:=by
 obtain⟨pv,cv,z,K,E,h1,h2,I,J⟩:=h.wr.wb;exact⟨⟨pv,cv,z,K,E,eJ.own h1,eJ.own h2,eJ.own I,eJ.own J⟩,h.ok,h.okr⟩
theorem WR.below{w w':World}{B rb:Nat}{D:RD}(h:WR w B rb D)(z:Below w.heap.size w w'):WR w' B rb D:=by
 obtain⟨pv,cv,I,U,E,h1,h2,J,K⟩:=h.wb;exact⟨h.lo,⟨pv,cv,I,U,by rw[z.block rb (lt_of_block E)];exact E,bQ h1 z (aA _),bQ h2 z (aA _),bQ J z (aA _),bQ K z (aA _)⟩⟩
theorem WO.below{w w':World}{B rb:Nat}{D:RD}(h:WO w B rb D)(z:Below w.heap.size w w'):WO w' B rb D:=⟨h.wr.below z,λp E=>(h.ok p E).below z,λr I=>(h.okr r I).below z⟩
theorem WR.lt{w:World}{B rb:Nat}{D:RD}(h:WR w B rb D):rb<w.heap.size:=by
 obtain⟨pv,cv,E,I,z,_⟩:=h.wb;exact lt_of_block z
def xB(w:World)(rb k:Nat):Prop:=k=rb\/∃i v,w.cell? ⟨rb,i,none⟩=some v/\v.ownBlock=some k
structure hJ (w w':World) (rb:Nat):Prop where
 os:w'.os=w.os
 tape:w'.tape=w.tape
 output:w'.output=w.output
 size:w.heap.size<=w'.heap.size
 keep:∀k,k<w.heap.size->¬ xB w rb k->w'.heap[k]?=w.heap[k]?
 mt:∀k,xB w' rb k->xB w rb k\/w.heap.size<=k
theorem hJ.trans{a b c:World}{rb:Nat}(h:hJ a b rb)(k:hJ b c rb):hJ a c rb where
 os:=k.os.trans h.os
 tape:=k.tape.trans h.tape
 output:=k.output.trans h.output
 size:=aR h.size k.size
 keep j hj hn:=(k.keep j (bJ hj h.size) λz=>(h.mt j z).elim hn λh2=>absurd hj (by omega)).trans (h.keep j hj hn)
 mt j hj:=(k.mt j hj).elim (h.mt j) λh2=>.inr (aR h.size h2)
theorem hJ.ofBelow{w w':World}{rb:Nat}(z:Below w.heap.size w w')(I:rb<w.heap.size):hJ w w' rb where
 os:=z.os
 tape:=z.tape
 output:=z.output
 size:=z.size
 keep k E _:=z.block k E
 mt k E:=by
  rcases E with rfl|⟨i,v,h1,h2⟩
  ·exact .inl (.inl rfl)
  ·exact .inl (.inr ⟨i,v,by rw[<- h1];exact(bN (z.block rb I) i).symm,h2⟩)
abbrev cE(t:TypeId):Prop:=t≠192/\t≠195/\t≠255/\t≠261/\t≠205
theorem WR.muts{w:World}{B rb:Nat}{D:RD}(h:WR w B rb D){k:Nat}(U:xB w rb k):B<=k/\k<w.heap.size/\∃t,TB w k t/\¬ cE t:=by
 obtain⟨pv,cv,W,Y,E,h1,h2,J,K⟩:=h.wb;have own:∀{v:Value} {t:TypeId} {sz n:Nat} {V:List Value},w.ownsRow B t sz v n V->¬ cE t->v.ownBlock=some k->B<=k/\k<w.heap.size/\∃t,TB w k t/\¬ cE t:=λI hs hv=>⟨(I.lt k hv).1,(I.lt k hv).2,_,dI I hv,hs⟩;rcases U with rfl|⟨i,v,z,hv⟩
 ·exact⟨h.lo,lt_of_block E,192,⟨_,_,E⟩,by simp[cE]⟩
 ·simp only[World.cell?,E] at z
  match i,z with
  | 0,z=>cases z;exact own h1 (by simp[cE]) hv
  | 1,z=>cases z;exact own h2 (by simp[cE]) hv
  | 2,z=>cases z;exact own J (by simp[cE]) hv
  | 3,z=>cases z;exact own K (by simp[cE]) hv
  | i+4,z=>simp at z
theorem hJ.held{w w':World}{B rb:Nat}{D:RD}(h:hJ w w' rb)(I:WR w B rb D):bU cE w w':=⟨h.size,λg t z hs=>h.keep g z.lt λE=>by
 obtain⟨-,-,J,h1,h2⟩:=I.muts E;by_cases e:t=J
 ·subst e;exact h2 hs
 ·exact z.ne h1 e rfl⟩
theorem hJ.below{w w':World}{B rb:Nat}{D:RD}(h:hJ w w' rb)(E:WR w B rb D)(I:B<=w.heap.size):Below B w w':=⟨h.os,h.tape,h.output,h.size,λk J=>h.keep k (by omega) λz=>by have:=(E.muts z).1;omega⟩
theorem sE.held{w w':World}{z:Nat}{s:RS}(h:sE w z s)(k:bU cE w w'):sE w' z s:=by
 obtain⟨cv,J,rv,I,E,h1,h2,K,U⟩:=h.wb;exact⟨⟨cv,J,rv,I,by rw[k.keep z 259 ⟨_,_,E⟩ (by simp[cE])];exact E,h1.held k (by simp[cE]),h2.held k (by simp[cE]),K.held k (by simp[cE]),U.held k (by simp[cE])⟩,λr V=>(h.ok r V).held k (by simp[cE])⟩
theorem xV{t:TypeId}(h:fix t):cE t:=by rcases h with rfl|rfl|rfl|rfl|rfl<;>simp[cE]
theorem hJ.row{w J:World}{B rb i sz n:Nat}{t:TypeId}{u v':Value}{xs:List Value}{c:Array Value}{o:Obj}(z:w.heap[rb]?=some (.cells c 192 (0,0)))(hi:c[i]?=some u)(hu:w.ownsRow B t sz u n xs)(ht:t≠192)(E:(w.alloc o).grownBy J u.ownBlock)(hv:∀g,v'.ownBlock=some g->u.ownBlock=some g\/w.heap.size<=g):
  hJ w (J.setCell ⟨rb,i,none⟩ v') rb/\(J.setCell ⟨rb,i,none⟩ v').heap[rb]?=some (.cells (c.setIfInBounds i v') 192 (0,0)):=by
 have V:=lt_of_block z;have a0:(w.alloc o).heap.size=w.heap.size+1:=by simp
 have I:u.ownBlock≠some rb:=λh=>by
  have:=dI hu h;exact this.ne ⟨_,_,z⟩ ht rfl
 have h2:J.heap[rb]?=some (.cells c 192 (0,0)):=by rw[E.block rb (by omega) (λh=>I h.symm),Below.heap_alloc _ _ _ V];exact z
 have W:=heap_setCell_same J rb i c 192 v' h2;refine⟨⟨E.os,E.tape,E.output,by have:=E.size;simp[World.setCell];omega,λk U Z=>?_,λk U=>?_⟩,W⟩
 ·rw[Below.heap_setCell _ _ _ _ (λh=>Z (.inl h)),E.block k (by omega) (λh=>Z (.inr ⟨i,u,by simp[World.cell?,z,hi],h.symm⟩)),Below.heap_alloc _ _ _ U]
 ·rcases U with rfl|⟨j,v,K,Y⟩
  ·exact .inl (.inl rfl)
  ·simp only[World.cell?,W] at K;by_cases e:i=j
   ·subst e;have hl:i<c.size:=(aV.1 hi).1;have:v=v':=by simpa[hl] using K.symm
    subst this;exact(hv k Y).imp (λh=>.inr ⟨i,u,by simp[World.cell?,z,hi],h⟩) id
   ·refine .inl (.inr ⟨j,v,?_,Y⟩);rw[lM e] at K;simpa[World.cell?,z] using K
theorem lW{w I:World}{B V rb i sz E n n':Nat}{t K:TypeId}{u v v':Value}{U J:List Value}{c:Array Value}{o:Obj}(h:w.ownsRow B t sz v n U)(hu:w.ownsRow V K E u n' J)(z:t≠K)(Z:t≠192)(h2:I.heap[rb]?=some (.cells c 192 (0,0)))(Y:(w.alloc o).grownBy I u.ownBlock):(I.setCell ⟨rb,i,none⟩ v').ownsRow B t sz v n U:=by
 refine gO ((h.alloc o).kept Y ?_) h2 Z
 cases W:u.ownBlock with
 | none=>cases v.ownBlock<;>simp
 | some g=>exact .inr λe=>(dI h e).ne (dI hu W) z rfl
theorem WR.other{w w':World}{B rb g:Nat}{D:RD}{t:TypeId}(h:WR w B rb D)(z:w.grownBy w' (some g))(E:TB w g t)(hs:cE t):WR w' B rb D:=by
 obtain⟨pv,cv,J,sv,I,h1,h2,K,U⟩:=h.wb;obtain⟨s1,V,W,Y,Z⟩:=hs;exact⟨h.lo,⟨pv,cv,J,sv,by rw[z.block rb (lt_of_block I) (λe=>E.ne ⟨_,_,I⟩ s1 (fZ e).symm)];exact I,nD h1 z E V.symm,nD h2 z E W.symm,nD K z E Y.symm,nD U z E Z.symm⟩⟩
theorem hJ.other{J w w':World}{B rb g:Nat}{D:RD}{t:TypeId}(h:hJ J w rb)(Z:WR w B rb D)(z:w.grownBy w' (some g))(ht:TB w g t)(hs:cE t)(W:J.heap.size<=g):hJ J w' rb:=by
 obtain⟨pv,cv,fv,sv,K,-⟩:=Z.wb;have I:w'.heap[rb]?=w.heap[rb]?:=z.block rb (lt_of_block K) (λe=>ht.ne ⟨_,_,K⟩ hs.1 (fZ e).symm)
 exact⟨z.os.trans h.os,z.tape.trans h.tape,z.output.trans h.output,aR h.size z.size,λk E Y=>(z.block k (bJ E h.size) (λe=>by have:=fZ e;omega)).trans (h.keep k E Y),λk E=>h.mt k (by
  rcases E with rfl|⟨i,v,U,V⟩
  ·exact .inl rfl
  ·exact .inr ⟨i,v,by rw[<- U];exact(bN I i).symm,V⟩)⟩
theorem OkP.still{w w':World}{p:RPt}(h:OkP w p)(k:bU cE w w'):OkP w' p:=h.held (k.mono λ_=>xV)
theorem OkR.still{w w':World}{r:iD}(h:OkR w r)(k:bU cE w w'):OkR w' r:=h.held (k.mono λ_=>xV)
theorem WR.wo{w w':World}{B rb:Nat}{D D':RD}(h:WR w' B rb D')(z:WO w B rb D)(J:hJ w w' rb)(K:D'.pts=D.pts)(U:D'.repos=D.repos):WO w' B rb D':=
 ⟨h,λp E=>(z.ok p (K▸E)).still (J.held z.wr),λr I=>(z.okr r (U▸I)).still (J.held z.wr)⟩
end Go.Proofs.YtgdfipmdmgkidaaGreatDoor
