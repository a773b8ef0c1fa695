import Derived.Test.YtgdfipmdmgkidaaGreatDoorProw
import Derived.BigRegion
import Derived.Test.YtgdfipmdmgkidaaGreatDoorAl
set_option linter.all false
set_option maxHeartbeats 6400000
set_option maxRecDepth 100000
namespace Go.Proofs.YtgdfipmdmgkidaaGreatDoor
open Go.RowKit
theorem Tryz.info324:(Tryz.prog.info? 324).map (λi=>(i.zero,i.size,i.bytes))=some (some (.agg #[.int .i64 0,.int .i64 0,.slice none 0 0]),3,40):=by kernel_rfl
theorem uF(w:World)(x y z:Value)(t:TypeId):∀j u,[x,y,z][j]?=some u->(w.alloc (.cells #[x,y,z] t)).cell? ((⟨w.heap.size,0,none⟩:Addr).add j)=some u:=by
 intro j u E;obtain⟨a,b,c⟩:=dW (aH w (.cells #[x,y,z] t)).1
 match j,E with
 | 0,E=>simp at E;subst E;exact a
 | 1,E=>simp at E;subst E;exact b
 | 2,E=>simp at E;subst E;exact c
 | j+3,E=>simp at E
theorem GV.mono{w:World}{B z:Nat}{v:Value}{N:List ByteArray}{G:List Gp}(h:GV w z v N G)(E:B<=z):GV w B v N G:=⟨bK h.row E,λg I=>bK (h.lines g I) E⟩
def pJ(O N:List ByteArray)(w w':World)(v:Value):Prop:=∃G:List Gp,GV w' w.heap.size v N G/\dS O N 0 0 (G.map (·.q))
theorem aK1(O N:List ByteArray)(hO:O.length<=10000)(hN:N.length<=10000)(oa:Option Addr)(oc b o nc:Nat)(w:World)(e2:gD w oa O)(e1:gD w (some ⟨b,o,none⟩) N)(hb:b<w.heap.size)(g4:N.length<=nc)
  (hc:Calls Tryz.prog 269 #[.slice oa O.length oc,.slice (some ⟨b,o,none⟩) N.length nc] w λe w'=>∃v,e=.returned v/\TV w' v O.length N.length (CC O N)/\Below w.heap.size w w') :
  Calls Tryz.prog 249 #[.slice oa O.length oc,.slice (some ⟨b,o,none⟩) N.length nc] w λe w'=>∃v,e=.returned v/\pJ O N w w' v/\Below w.heap.size w w':=by
 obtain⟨i0,hi,e3,e4,e5⟩:=info_parts Tryz.info324;have HC:=aO hc;clear hc;go_enter Tryz.func249,Tryz.ntmps249
 go_wp2_with fail
 refine HC.out.mono ?_;rintro e w1 ⟨cv,rfl,d4,b0⟩;clear HC;obtain⟨tb,to,tc,rfl⟩:∃tb to tc,cv=.slice (some ⟨tb,to,none⟩) (O.length+1) tc:=by
  obtain⟨tb,to,tc,rfl,_⟩:=d4;exact⟨tb,to,tc,rfl⟩
 have c6:=e2.below b0;have c5:=e1.below b0;have d3:=b0.size;obtain⟨J,c2⟩:∃J,J=w1.alloc (.cells #[.slice oa O.length oc,.slice (some ⟨b,o,none⟩) N.length nc,.slice (some ⟨tb,to,none⟩) (O.length+1) tc] 349):=⟨_,rfl⟩;have b1:Below w1.heap.size w1 J:=by rw[c2];exact(Below.refl _ _).alloc (aA _) _
 have e8:J.heap[w1.heap.size]?=some (.cells #[.slice oa O.length oc,.slice (some ⟨b,o,none⟩) N.length nc,.slice (some ⟨tb,to,none⟩) (O.length+1) tc] 349 (0,0)):=by rw[c2];exact(aH w1 _).1
 have g5:w1.heap.size<J.heap.size/\J.heap.size<=w1.heap.size+1:=by rw[c2];simp
 have HT:Hid (TV J (.slice (some ⟨tb,to,none⟩) (O.length+1) tc) O.length N.length (CC O N)):=d4.below b1 (aA _);have e6:=aO (c6.below b1);have d6:=aO (c5.below b1);clear d4 e2 e1 c6 c5;go_wp2;rw[<- c2];clear c2
 go_loopw [6,7,8] (λv x y wr=>∃(i j:Nat) (G:List Gp),i<=O.length/\j<=N.length/\x=.int .i64 i/\y=.int .i64 j/\Hid (GV wr J.heap.size v N G)/\G.length<=i/\Hid (∀z,dS O N i j z->dS O N 0 0 (G.map (λg:Gp=>g.q)++z))/\Below J.heap.size J wr) (λ_ x _ _=>O.length+1 - (intOf x).toNat)
 case atStart=>exact⟨0,0,[],aE _,aE _,rfl,rfl,⟨aK _ _ _ _,λg hg=>by cases hg⟩,aA _,λz h=>h,Below.refl _ _⟩
 case round=>
  obtain⟨i,j,G,d7,d8,rfl,rfl,HG,f8,K,b2⟩:=hrel;have e0:=b2.size;have e9:=(b2.block _ (by omega)).trans e8;obtain⟨d0,d1,d2⟩:=dW e9;obtain⟨p1,p2,p3,p4,p5⟩:=oB O N i j d7 d8;obtain⟨k,l,c4⟩:∃k l,tJ O N i j=(k,l):=⟨_,_,rfl⟩;rw[c4] at p1 p2 p3 p4 p5;simp only at p1 p2 p3 p4 p5;have d5:Hid (Calls Tryz.prog 270 #[.agg #[.slice oa O.length oc,.slice (some ⟨b,o,none⟩) N.length nc,.slice (some ⟨tb,to,none⟩) (O.length+1) tc],.int .i64 i,.int .i64 j] wr λe w'=>e=.returned (.tuple #[.int .i64 (k:Nat),.int .i64 (l:Nat)])/\Below wr.heap.size wr w'):=by
   have h:=aDo O N i j d7 d8 (by omega) (by omega) oa (some ⟨b,o,none⟩) oc nc _ wr (HT.out.below b2 (aA _)) (e6.out.below b2) (d6.out.below b2);rw[c4] at h;exact h
  have a9:=aO c4;clear c4
  go_wp2_with fail
  refine d5.out.mono ?_;rintro e w3 ⟨rfl,c3⟩;clear d5;have a1:=aO (HG.out.below c3);have V:Below J.heap.size J w3:=b2.trans (c3.mono e0);have g6:=c3.size;clear HG c3 d0 d1 d2;have c8:Below w.heap.size w w3:=(b0.trans (b1.mono d3)).trans (V.mono (by omega));by_cases a8:i<k\/j<l
  ·have a3:Hid (fA i k j l=[⟨i,k,j,l⟩]):=by show _=_;unfold fA;rw[if_pos a8]
   by_cases e7:j<nc
   ·have f9:(j:Int)<=(l:Int):=by omega
    have g0:(l:Int)<=(nc:Int):=by omega
    have f7:l<=nc:=by omega
    have f5:(j:Int)<(nc:Int):=by omega
    have f6:nc - j≠0:=by omega
    have b3:Hid (Calls Tryz.prog 271 #[.slice (some ⟨b,o+j,none⟩) (l - j) (nc - j)] w3 λe w'=>∃v,e=.returned v/\w'.ownsRow w3.heap.size 9 1 v ((N.take l).drop j).length (bW ((N.take l).drop j))/\Below w3.heap.size w3 w'):=yM N j l p3 p4 b o nc w3 (by omega) (d6.out.below V) (by omega);have c9:(i<k/\decide (i<k)=true)\/(decide (i<k)=false/\j<l/\decide (j<l)=true):=by
     by_cases h:i<k
     ·exact .inl ⟨h,by simpa using h⟩
     ·exact .inr ⟨by simpa using h,by omega,by simp;omega⟩
    clear a8;rcases c9 with ⟨q1,q2⟩|⟨q1,q2,q3⟩
    all_goals
     go_wp2_with fail
     refine b3.out.mono ?_;rintro e w4 ⟨lv,rfl,a7,a5⟩;clear b3;have f3:=a5.size;obtain⟨la,lc,a6⟩:=bC a7;have b6:=a1.out.below a5;have a4:GV (w4.alloc (.cells #[.int .i64 (i:Nat),.int .i64 (k:Nat),lv] 324)) J.heap.size u6 N G:=b6.below ((Below.refl _ _).alloc (aA _) _);have c1:(w4.alloc (.cells #[.int .i64 (i:Nat),.int .i64 (k:Nat),lv] 324)).ownsRow J.heap.size 9 1 lv (bX N ⟨i,k,j,l⟩).length (bW (bX N ⟨i,k,j,l⟩)):=bK (a7.alloc _) (by omega);have b5:=aO c1;have b4:=aO a4;have I:=a4.row;have Z:=uF w4 (.int .i64 (i:Nat)) (.int .i64 (k:Nat)) lv 324;have c7:Below J.heap.size J w4:=V.trans (a5.mono (by omega));have a0:∀u∈[Value.int .i64 (i:Nat),.int .i64 (k:Nat),lv],u.oneCell'=true:=by
      intro u hu;simp only[cC,fN,or_false] at hu;rcases hu with rfl|rfl|rfl
      ·rfl
      ·rfl
      ·rw[a6];rfl
     obtain⟨ln,Y⟩:∃n,((N.take l).drop j).length=n:=⟨_,rfl⟩;rw[Y] at a6;subst a6;clear c1 a4 b6 a7 Y a1
     go_wp2_with (at_builtin;refine wpList_append_own _ rfl _ _ 321 rfl J.heap.size 324 i0 _ 3 40 Tryz.underlying321 hi e3 e4 e5 rfl (by decide) _ _ _ rfl I ⟨w4.heap.size,0,none⟩ 1 1 [.int .i64 (i:Nat),.int .i64 (k:Nat),.slice la ln lc] rfl rfl Z a0 (by unfold maxLen;omega) (by omega) (by simp;omega) ?_)
     intro v' w6 U hg _;have a2:Hid (GV w6 J.heap.size v' N (G++[(⟨⟨i,k,j,l⟩,.slice la ln lc⟩:Gp)])):=b4.out.step hg U b5.out;have b8:Below J.heap.size J w6:=qP (B:=J.heap.size) (aA _) I (c7.alloc (by omega) _) (by simp;omega) hg;have b7:Below w.heap.size w w6:=(b0.trans (b1.mono d3)).trans (b8.mono (by omega));clear U hg I Z a0 b4 b5;by_cases E:k=O.length
     ·have c0:((k:Int) == (O.length:Int))=true:=by simp;omega
      have W:decide (k=O.length)=true:=by simpa using E
      have HF:Hid (pJ O N w w6 v'):=⟨_,a2.out.mono (by omega),by rw[bF];exact K.out _ (by have:=dS.stop a9.out E;rw[a3.out] at this;exact this)⟩;clear a2 K;go_wp2;go_ret;exact⟨_,rfl,HF.out,b7⟩
     ·have c0:((k:Int) == (O.length:Int))=false:=by rw[beq_eq_false_iff_ne];omega
      have W:decide (k=O.length)=false:=by simpa using E
      have b9:k<O.length:=by omega
      have d9:l<N.length:=by
       rcases p5 with h|h
       ·exact h.2.1
       ·omega
      have HF:Hid (∀z,dS O N (k+1) (l+1) z->dS O N 0 0 ((G++[(⟨⟨i,k,j,l⟩,.slice la ln lc⟩:Gp)]).map (λg:Gp=>g.q)++z)):=λz hr=>by
       have h1:=dS.go a9.out b9 hr;rw[a3.out] at h1;have h2:=K.out _ h1;simpa using h2
      clear K p5;go_wp2
      go_roundw
      case rel=>exact⟨k+1,l+1,_,by omega,by omega,by go_num,by go_num,a2,by simp;omega,HF,b8⟩
      case measure=>simp[intOf];omega
   ·obtain rfl:nc=j:=by omega
    obtain rfl:l=nc:=by omega
    have q1:i<k:=by omega
    have q2:decide (i<k)=true:=by simpa using q1
    have f4:l - l=0:=jQ _;have b3:Hid (Calls Tryz.prog 271 #[.slice (some ⟨b,o,none⟩) 0 0] w3 λe w'=>∃v,e=.returned v/\w'.ownsRow w3.heap.size 9 1 v ((N.take l).drop l).length (bW ((N.take l).drop l))/\Below w3.heap.size w3 w'):=by
     have h:=yM [] 0 0 (aA _) (aA _) b o 0 w3 (by simp) (.inl rfl) (by omega);have e:(N.take l).drop l=[]:=by rw[vC,bR];omega
     rw[e];show Calls _ _ _ _ _;simpa using h
    clear a8 e7
    go_wp2_with fail
    refine b3.out.mono ?_;rintro e w4 ⟨lv,rfl,a7,a5⟩;clear b3;have f3:=a5.size;obtain⟨la,lc,a6⟩:=bC a7;have b6:=a1.out.below a5;have a4:GV (w4.alloc (.cells #[.int .i64 (i:Nat),.int .i64 (k:Nat),lv] 324)) J.heap.size u6 N G:=b6.below ((Below.refl _ _).alloc (aA _) _);have c1:(w4.alloc (.cells #[.int .i64 (i:Nat),.int .i64 (k:Nat),lv] 324)).ownsRow J.heap.size 9 1 lv (bX N ⟨i,k,l,l⟩).length (bW (bX N ⟨i,k,l,l⟩)):=bK (a7.alloc _) (by omega);have b5:=aO c1;have b4:=aO a4;have I:=a4.row;have Z:=uF w4 (.int .i64 (i:Nat)) (.int .i64 (k:Nat)) lv 324;have c7:Below J.heap.size J w4:=V.trans (a5.mono (by omega));have a0:∀u∈[Value.int .i64 (i:Nat),.int .i64 (k:Nat),lv],u.oneCell'=true:=by
     intro u hu;simp only[cC,fN,or_false] at hu;rcases hu with rfl|rfl|rfl
     ·rfl
     ·rfl
     ·rw[a6];rfl
    obtain⟨ln,Y⟩:∃n,((N.take l).drop l).length=n:=⟨_,rfl⟩;rw[Y] at a6;subst a6;clear c1 a4 b6 a7 Y a1
    go_wp2_with (at_builtin;refine wpList_append_own _ rfl _ _ 321 rfl J.heap.size 324 i0 _ 3 40 Tryz.underlying321 hi e3 e4 e5 rfl (by decide) _ _ _ rfl I ⟨w4.heap.size,0,none⟩ 1 1 [.int .i64 (i:Nat),.int .i64 (k:Nat),.slice la ln lc] rfl rfl Z a0 (by unfold maxLen;omega) (by omega) (by simp;omega) ?_)
    intro v' w6 U hg _;have a2:Hid (GV w6 J.heap.size v' N (G++[(⟨⟨i,k,l,l⟩,.slice la ln lc⟩:Gp)])):=b4.out.step hg U b5.out;have b8:Below J.heap.size J w6:=qP (B:=J.heap.size) (aA _) I (c7.alloc (by omega) _) (by simp;omega) hg;have b7:Below w.heap.size w w6:=(b0.trans (b1.mono d3)).trans (b8.mono (by omega));clear U hg I Z a0 b4 b5;by_cases E:k=O.length
    ·have c0:((k:Int) == (O.length:Int))=true:=by simp;omega
     have W:decide (k=O.length)=true:=by simpa using E
     have HF:Hid (pJ O N w w6 v'):=⟨_,a2.out.mono (by omega),by rw[bF];exact K.out _ (by have:=dS.stop a9.out E;rw[a3.out] at this;exact this)⟩;clear a2 K;go_wp2;go_ret;exact⟨_,rfl,HF.out,b7⟩
    ·have c0:((k:Int) == (O.length:Int))=false:=by rw[beq_eq_false_iff_ne];omega
     have W:decide (k=O.length)=false:=by simpa using E
     have b9:k<O.length:=by omega
     have d9:l<N.length:=by
      rcases p5 with h|h
      ·exact h.2.1
      ·omega
     have HF:Hid (∀z,dS O N (k+1) (l+1) z->dS O N 0 0 ((G++[(⟨⟨i,k,l,l⟩,.slice la ln lc⟩:Gp)]).map (λg:Gp=>g.q)++z)):=λz hr=>by
      have h1:=dS.go a9.out b9 hr;rw[a3.out] at h1;have h2:=K.out _ h1;simpa using h2
     clear K p5;go_wp2
     go_roundw
     case rel=>exact⟨k+1,l+1,_,by omega,by omega,by go_num,by go_num,a2,by simp;omega,HF,b8⟩
     case measure=>simp[intOf];omega
  ·have a3:Hid (fA i k j l=[]):=by show _=_;unfold fA;rw[if_neg a8]
   have q1:decide (i<k)=false:=by simp;omega
   have q2:decide (j<l)=false:=by simp;omega
   by_cases E:k=O.length
   ·have c0:((k:Int) == (O.length:Int))=true:=by simp;omega
    have W:decide (k=O.length)=true:=by simpa using E
    have HF:Hid (pJ O N w w3 u6):=⟨_,a1.out.mono (by omega),by have h1:=dS.stop a9.out E;rw[a3.out] at h1;simpa using K.out _ h1⟩;clear a1 K;go_wp2;go_ret;exact⟨_,rfl,HF.out,c8⟩
   ·have c0:((k:Int) == (O.length:Int))=false:=by rw[beq_eq_false_iff_ne];omega
    have W:decide (k=O.length)=false:=by simpa using E
    have b9:k<O.length:=by omega
    have d9:l<N.length:=by
     rcases p5 with h|h
     ·exact h.2.1
     ·omega
    have HF:Hid (∀z,dS O N (k+1) (l+1) z->dS O N 0 0 (G.map (λg:Gp=>g.q)++z)):=λz hr=>by
     have h1:=dS.go a9.out b9 hr;rw[a3.out] at h1;exact K.out _ h1
    clear K p5;go_wp2
    go_roundw
    case rel=>exact⟨k+1,l+1,_,by omega,by omega,by go_num,by go_num,a1,by omega,HF,V⟩
    case measure=>simp[intOf];omega
def tU(n:Nat)(f:Nat->Value):Array Value:=((List.range n).map f).toArray
theorem aW2(n:Nat)(f:Nat->Value):(tU n f).size=n:=by simp[tU]
theorem xH(n:Nat)(f:Nat->Value)(i:Nat)(h:i<n):(tU n f)[i]?=some (f i):=by simp[tU,h]
theorem aEs(n:Nat)(f g:Nat->Value)(k:Nat)(u:Value)(E:k<n)(z:∀i,i<n->g i=if i=k then u else f i):(tU n f).setIfInBounds k u=tU n g:=by
 apply Array.ext';apply rV;intro i;simp only[tU,aW,List.getElem?_set];by_cases hi:i<n
 ·by_cases e:k=i
  ·subst e;simp[hi,z k hi]
  ·have e':i≠k:=λh=>e h.symm;simp[hi,e,e',z i hi]
 ·by_cases e:k=i
  ·omega
  ·simp[hi,e]
theorem pX(n:Nat)(f g:Nat->Value)(h:∀i,i<n->f i=g i):tU n f=tU n g:=by
 unfold tU;congr 1;exact fQ λi hi=>h i (fL.1 hi)
theorem aEw(z:Value)(n:Nat):madeCells #[z] n=tU n (λ_=>z):=by
 apply Array.ext';apply rV;intro j;by_cases E:j<n
 ·simp[madeCells,tU,E,Nat.mod_one]
 ·simp[madeCells,tU,E]
def aRy(B m k:Nat)(i:Nat):Value:=if i<k then .slice (some ⟨B+1+i,0,none⟩) (m+1) (m+1) else .slice none 0 0
def yE(T:Nat->Nat->Nat)(i:Nat)(j:Nat):Value:=.int .i64 (T i j:Nat)
structure yB (w wr:World) (n m k:Nat) (T:Nat->Nat->Nat):Prop where
 lo:w.heap.size+1+k<=wr.heap.size
 outer:wr.heap[w.heap.size]?=some (.cells (tU (n+1) (aRy w.heap.size m k)) 25 (0,0))
 rows:∀i,i<k->wr.heap[w.heap.size+1+i]?=some (.cells (tU (m+1) (yE T i)) 3 (0,0))
 bel:Below w.heap.size w wr
theorem yB.out{w wr:World}{n m k:Nat}{T:Nat->Nat->Nat}(h:yB w wr n m k T)(i:Nat)(hi:i<k)(z:i<=n):wr.cell? ⟨w.heap.size,i,none⟩=some (.slice (some ⟨w.heap.size+1+i,0,none⟩) (m+1) (m+1)):=by
 have e:=xH (n+1) (aRy w.heap.size m k) i (by omega);unfold World.cell?;rw[h.outer];simp[e,aRy,hi]
theorem yB.cell{w wr:World}{n m k:Nat}{T:Nat->Nat->Nat}(h:yB w wr n m k T)(i j:Nat)(hi:i<k)(z:j<=m):wr.cell? ⟨w.heap.size+1+i,j,none⟩=some (.int .i64 (T i j:Nat)):=by
 have e:=xH (m+1) (yE T i) j (by omega);unfold World.cell?;rw[h.rows i hi];simp[e,yE]
theorem yB.free{w wr:World}{n m k:Nat}{T:Nat->Nat->Nat}(h:yB w wr n m k T)(i j:Nat)(hi:i<k):wr.frozen? ⟨w.heap.size+1+i,j,none⟩=false:=by
 unfold World.frozen?;rw[h.rows i hi];simp
theorem yB.put{w wr:World}{n m k:Nat}{T E:Nat->Nat->Nat}(h:yB w wr n m k T)(i j v:Nat)(hi:i<k)(K:j<=m)(I:∀r c,r<k->c<=m->E r c=if r=i/\c=j then v else T r c):yB w (wr.setCell ⟨w.heap.size+1+i,j,none⟩ (.int .i64 (v:Nat))) n m k E:=by
 refine⟨by simpa[World.setCell] using h.lo,(Below.heap_setCell _ _ _ _ (by simp;omega)).trans h.outer,λr z=>?_,h.bel.setCell (p:=⟨w.heap.size+1+i,j,none⟩) (by simp;omega) _⟩;by_cases e:r=i
 ·subst e
  rw[heap_setCell_same wr (w.heap.size+1+r) j _ 3 _ (h.rows r z),aEs (m+1) (yE T r) (yE E r) j _ (by omega) (λc J=>by
   unfold yE;rw[I r c z (by omega)]
   by_cases e:c=j<;>simp[e])]
 ·rw[Below.heap_setCell _ _ _ _ (by simp;omega),h.rows r z];congr 2;exact pX _ _ _ λc J=>by unfold yE;rw[I r c z (by omega)];simp[e]
theorem yB.congr{w wr:World}{n m k:Nat}{T z:Nat->Nat->Nat}(h:yB w wr n m k T)(E:∀r c,r<k->c<=m->T r c=z r c):yB w wr n m k z:=by
 refine⟨h.lo,h.outer,λi hi=>?_,h.bel⟩;rw[h.rows i hi];congr 2;exact pX _ _ _ λc I=>by unfold yE;rw[E i c hi (by omega)]
theorem yB.drewN{w wr:World}{n m k:Nat}{T:Nat->Nat->Nat}(h:yB w wr n m k T)(q:Nat):yB w (wr.drewN q) n m k T:=⟨h.lo,h.outer,h.rows,below_drewN h.bel q⟩
theorem yB.tv{w wr:World}{n m:Nat}{T z:Nat->Nat->Nat}(h:yB w wr n m (n+1) T)(I:∀r c,r<=n->c<=m->T r c=z r c)(cap:Nat):TV wr (.slice (some ⟨w.heap.size,0,none⟩) (n+1) cap) n m z:=by
 refine⟨_,_,_,rfl,by have:=h.lo;omega,λi hi=>⟨w.heap.size+1+i,0,m+1,?_,by have:=h.lo;omega,λj E=>?_⟩⟩
 ·rw[dC];exact h.out i (by omega) hi
 ·rw[dC,<- I i j hi E];exact h.cell i j (by omega) E
theorem Tryz.info25:(Tryz.prog.info? 25).map (λi=>(i.zero,i.size,i.bytes))=some (some (.slice none 0 0),1,24):=by kernel_rfl
theorem yB.start(w:World)(n m:Nat)(T:Nat->Nat->Nat):yB w (w.alloc (.cells (tU (n+1) (λ_=>.slice none 0 0)) 25)) n m 0 T:=by
 refine⟨by simp,?_,λi hi=>by omega,(Below.refl _ _).alloc (aA _) _⟩;rw[(aH w _).1];congr 2
theorem yB.more{w wr:World}{n m k:Nat}(h:yB w wr n m k (λ_ _=>0))(hs:wr.heap.size=w.heap.size+1+k)(V:k<=n):yB w ((wr.setCell ⟨w.heap.size,k,none⟩ (.slice (some ⟨wr.heap.size,0,none⟩) (m+1) (m+1))).alloc (.cells (tU (m+1) (λ_=>.int .i64 0)) 3)) n m (k+1) (λ_ _=>0)/\
  ((wr.setCell ⟨w.heap.size,k,none⟩ (.slice (some ⟨wr.heap.size,0,none⟩) (m+1) (m+1))).alloc (.cells (tU (m+1) (λ_=>.int .i64 0)) 3)).heap.size=w.heap.size+1+(k+1):=by
 rw[hs];obtain⟨E,z⟩:∃E,E=wr.setCell ⟨w.heap.size,k,none⟩ (.slice (some ⟨w.heap.size+1+k,0,none⟩) (m+1) (m+1)):=⟨_,rfl⟩;have J:E.heap.size=w.heap.size+1+k:=by rw[z,<- hs];simp[World.setCell]
 have h1:=heap_setCell_same wr w.heap.size k _ 25 (.slice (some ⟨w.heap.size+1+k,0,none⟩) (m+1) (m+1)) h.outer;have h2:∀r,r≠w.heap.size->E.heap[r]?=wr.heap[r]?:=λr U=>by rw[z];exact Below.heap_setCell _ _ _ _ U
 have I:Below w.heap.size w E:=by rw[z];exact h.bel.setCell (p:=⟨w.heap.size,k,none⟩) (aA _) _
 rw[<- z] at h1 ⊢;refine⟨⟨by simp;omega,?_,λr U=>?_,I.alloc (by omega) _⟩,by simp;omega⟩
 ·rw[Below.heap_alloc E _ _ (by omega),h1,aEs (n+1) _ (aRy w.heap.size m (k+1)) k _ (by omega) (λi hi=>by
   unfold aRy;by_cases e:i=k
   ·subst e;simp
   ·by_cases K:i<k
    ·simp[e,K,show i<k+1 by omega]
    ·simp[e,K,show ¬ i<k+1 by omega])]
 ·by_cases e:r=k
  ·subst e;have:=(aH E (.cells (tU (m+1) (λ_=>.int .i64 0)) 3)).1;rw[J] at this;rw[this];rfl
  ·rw[Below.heap_alloc E _ _ (by omega),h2 _ (by omega)];exact h.rows r (by omega)
theorem aGk(n:Nat)(J:n<=10000)(u:World):(Instr.makeSlice 257 (.int .i64 ((n:Int)+1)) (.int .i64 ((n:Int)+1))).run Tryz.prog u=.ok (.slice (some ⟨u.heap.size,0,none⟩) (n+1) (n+1)) (u.alloc (.cells (tU (n+1) (λ_=>.slice none 0 0)) 25)):=by
 obtain⟨i0,hi,z,E,I⟩:=info_parts Tryz.info25;have h:=run_make (P:=Tryz.prog) u 257 25 i0 (.slice none 0 0) Tryz.underlying257 hi z .i64 .i64 ((n:Int)+1) ((n:Int)+1) (by omega) (aBg _) (by rw[I];omega) (by omega);have e:((n:Int)+1).toNat=n+1:=by omega
 rw[e] at h;rw[<- aEw];simpa[E,Value.cells] using h
theorem aGj(m:Nat)(J:m<=10000)(u:World):(Instr.makeSlice 25 (.int .i64 ((m:Int)+1)) (.int .i64 ((m:Int)+1))).run Tryz.prog u=.ok (.slice (some ⟨u.heap.size,0,none⟩) (m+1) (m+1)) (u.alloc (.cells (tU (m+1) (λ_=>.int .i64 0)) 3)):=by
 obtain⟨i0,hi,z,E,I⟩:=info_parts Tryz.info3;have h:=run_make (P:=Tryz.prog) u 25 3 i0 (.int .i64 0) Tryz.underlying25 hi z .i64 .i64 ((m:Int)+1) ((m:Int)+1) (by omega) (aBg _) (by rw[I];omega) (by omega);have e:((m:Int)+1).toNat=m+1:=by omega
 rw[e] at h;rw[<- aEw];simpa[E,Value.cells] using h
def TT(O N:List ByteArray)(a b:Nat)(r c:Nat):Nat:=if a<=r\/(r+1=a/\b<=c) then CC O N r c else 0
theorem yN(O N:List ByteArray)(hO:O.length<=10000)(hN:N.length<=10000)(oa na:Option Addr)(oc nc:Nat)(w:World)(a1:gD w oa O)(a0:gD w na N):
  Calls Tryz.prog 269 #[.slice oa O.length oc,.slice na N.length nc] w λe w'=>∃v,e=.returned v/\TV w' v O.length N.length (CC O N)/\Below w.heap.size w w':=by
 have c4:=aGk O.length hO;have c5:=aGj N.length hN;have a8:=aO a1;have a7:=aO a0;have T0:=yB.start w O.length N.length (λ_ _=>0);have S0:(w.alloc (.cells (tU (O.length+1) (λ_=>.slice none 0 0)) 25)).heap.size=w.heap.size+1+0:=by simp
 clear a1 a0;go_enter Tryz.func269,Tryz.ntmps269;go_wp2;obtain⟨wa,a2⟩:∃wa,wa=w.alloc (.cells (tU (O.length+1) (λ_=>.slice none 0 0)) 25):=⟨_,rfl⟩;rw[<- a2] at T0 S0 ⊢;clear a2
 go_loopw [15] (λx wr=>∃k:Nat,k<=O.length+1/\x=.int .i64 k/\Hid (yB w wr O.length N.length k (λ_ _=>0))/\Hid (wr.heap.size=w.heap.size+1+k)) (λx _=>O.length+1 - (intOf x).toNat)
 case atStart=>exact⟨0,aE _,rfl,T0,S0⟩
 case round=>
  obtain⟨k,hk,rfl,E,HS⟩:=hrel;by_cases b4:k<O.length+1
  ·have b9:(k:Int)<((O.length+1:Nat):Int):=by omega
   have K:=E.out.outer;have b7:wr.cell? ⟨w.heap.size,k,none⟩=some (.slice none 0 0):=by
    have e:=xH (O.length+1) (aRy w.heap.size N.length k) k b4;unfold World.cell?;rw[K];simp[e,aRy]
   have b8:wr.frozen? ⟨w.heap.size,k,none⟩=false:=by unfold World.frozen?;rw[K];simp
   have c8:w.heap.size<wr.heap.size:=by have:=HS.out;omega
   have J:=E.out.more HS.out (by omega);have a5:=aO J.1;have a4:=aO J.2;clear J K E HS;go_wp2
   go_roundw
   case rel=>exact⟨k+1,by omega,by go_num,a5,a4⟩
   case measure=>simp[intOf]<;>omega
  ·obtain rfl:k=O.length+1:=by omega
   have V:Hid (yB w wr O.length N.length (O.length+1) (λr c=>if O.length<=r then CC O N r c else 0)):=E.out.congr λr c hr K=>by
    by_cases h:O.length<=r
    ·simp[h,aAj h]
    ·simp[h]
   clear E HS T0 S0;go_wp2
   go_loopw [7] (λx wr=>∃a:Nat,a<=O.length/\x=.int .i64 ((a:Int) - 1)/\Hid (yB w wr O.length N.length (O.length+1) (λr c=>if a<=r then CC O N r c else 0))) (λx _=>(intOf x+1).toNat)
   case atStart=>exact⟨O.length,aA _,rfl,V⟩
   case round=>
    clear V;obtain⟨a,ha,rfl,E⟩:=hrel;by_cases h0:a=0
    ·subst h0;have HF:Hid (TV wr (.slice (some ⟨w.heap.size,0,none⟩) (O.length+1) (O.length+1)) O.length N.length (CC O N)):=E.out.tv (λr c _ _=>by simp) _;have HB:=aO E.out.bel;clear E;go_wp2;go_ret;exact⟨_,rfl,HF.out,HB.out⟩
    ·obtain⟨x,rfl⟩:∃x,a=x+1:=⟨a - 1,by omega⟩;have ex:(((x+1:Nat):Int) - 1)=(x:Int):=by omega
     rw[ex];have W:Hid (yB w wr O.length N.length (O.length+1) (TT O N (x+1) N.length)):=E.out.congr λr c hr K=>by
      unfold TT;by_cases h:x+1<=r
      ·rw[if_pos h,if_pos (.inl h)]
      ·rw[if_neg h];by_cases h2:r+1=x+1/\N.length<=c
       ·rw[if_pos (.inr h2),aEm h2.2]
       ·rw[if_neg (λh3=>h3.elim h h2)]
     clear E ex;go_wp2
     go_loopw [8] (λy wr=>∃b:Nat,b<=N.length/\y=.int .i64 ((b:Int) - 1)/\Hid (yB w wr O.length N.length (O.length+1) (TT O N (x+1) b))) (λy _=>(intOf y+1).toNat)
     case atStart=>exact⟨N.length,aA _,rfl,W⟩
     case round=>
      clear W;obtain⟨b,hb,rfl,E⟩:=hrel;by_cases a9:b=0
      ·subst a9;have a6:Hid (yB w wr O.length N.length (O.length+1) (λr c=>if x<=r then CC O N r c else 0)):=E.out.congr λr c hr K=>by
        unfold TT;by_cases h:x<=r
        ·rw[if_pos h,if_pos (by omega)]
        ·rw[if_neg h,if_neg (by omega)]
       clear E;go_wp2
       go_roundw
       case rel=>exact⟨x,by omega,by go_num,a6⟩
       case measure=>simp[intOf]<;>omega
      ·obtain⟨y,rfl⟩:∃y,b=y+1:=⟨b - 1,by omega⟩;have ey:(((y+1:Nat):Int) - 1)=(y:Int):=by omega
       rw[ey];clear ey;have hx:x<O.length:=by omega
       have hy:y<N.length:=by omega
       rcases a8.out.below E.out.bel with h|⟨ob,oo,rfl,c7,Z⟩
       ·omega
       rcases a7.out.below E.out.bel with h|⟨nb,no,rfl,c6,Y⟩
       ·omega
       have co:=Z x hx;have cn:=Y y hy;obtain⟨s,hs⟩:∃s,O.getD x ByteArray.empty=s:=⟨_,rfl⟩;obtain⟨t,ht⟩:∃t,N.getD y ByteArray.empty=t:=⟨_,rfl⟩;rw[hs] at co;rw[ht] at cn;have gs:O[x]=s:=by rw[<- hs,aQ,aC hx,jZ]
       have gt:N[y]=t:=by rw[<- ht,aQ,aC hy,jZ]
       clear Z Y hs ht;have o0:=E.out.out x (by omega) (by omega);have o1:=E.out.out (x+1) (by omega) (by omega);have f0:=E.out.free x y (by omega);have c0:=E.out.cell x y (by omega) (by omega);have c1:=E.out.cell (x+1) (y+1) (by omega) (by omega);have c2:=E.out.cell (x+1) y (by omega) (by omega);have c3:=E.out.cell x (y+1) (by omega) (by omega);have t1:TT O N (x+1) (y+1) (x+1) (y+1)=CC O N (x+1) (y+1):=by unfold TT;rw[if_pos (by omega)]
       have t2:TT O N (x+1) (y+1) (x+1) y=CC O N (x+1) y:=by unfold TT;rw[if_pos (by omega)]
       have t3:TT O N (x+1) (y+1) x (y+1)=CC O N x (y+1):=by unfold TT;rw[if_pos (by omega)]
       rw[t1] at c1;rw[t2] at c2;rw[t3] at c3;have b1:=uW O N (x+1) (y+1);have b2:=uW O N (x+1) y;have b3:=uW O N x (y+1)
       have I:∀(q v:Nat),v=CC O N x y->yB w ((wr.drewN q).setCell ⟨w.heap.size+1+x,y,none⟩ (.int .i64 (v:Nat))) O.length N.length (O.length+1) (TT O N (x+1) y):=λq v hv=>(E.out.drewN q).put x y v (by omega) (by omega) (λr c hr K=>by
        unfold TT;by_cases e:r=x/\c=y
        ·obtain⟨rfl,rfl⟩:=e;rw[if_pos (by omega),if_pos ⟨rfl,rfl⟩,hv]
        ·rw[if_neg e];by_cases e2:x+1<=r\/(r+1=x+1/\y+1<=c)
         ·rw[if_pos e2,if_pos (by omega)]
         ·rw[if_neg e2,if_neg (by omega)])
       have HP:Hid (∀(q:Nat) (u:Int),u=((CC O N x y:Nat):Int)->yB w ((wr.drewN q).setCell ⟨w.heap.size+1+x,y,none⟩ (.int .i64 u)) O.length N.length (O.length+1) (TT O N (x+1) y)):=λq u hu=>by rw[hu];exact I q _ rfl
       clear I t1 t2 t3;obtain⟨z0,a3⟩:∃z,TT O N (x+1) (y+1) x y=z:=⟨_,rfl⟩;rw[a3] at c0;have c9:(x:Int)<((O.length+1:Nat):Int):=by omega
       have b5:(x:Int)+1<((O.length+1:Nat):Int):=by omega
       have d1:(y:Int)<((N.length+1:Nat):Int):=by omega
       have b6:(y:Int)+1<((N.length+1:Nat):Int):=by omega
       have d0:(x:Int)<(O.length:Int):=by omega
       have d2:(y:Int)<(N.length:Int):=by omega
       have wx:IntKind.i64.wrap ((x:Int)+1)=(x:Int)+1:=by simp[IntKind.wrap,IntKind.signed,IntKind.bits];omega
       have wy:IntKind.i64.wrap ((y:Int)+1)=(y:Int)+1:=by simp[IntKind.wrap,IntKind.signed,IntKind.bits];omega
       have tx:((x:Int)+1).toNat=x+1:=by omega
       have ty:((y:Int)+1).toNat=y+1:=by omega
       have px:(0:Int)<=(x:Int)+1:=by omega
       have py:(0:Int)<=(y:Int)+1:=by omega
       clear E a3
       cases U:decide (s=t)
       ·have b0:(s.toList == t.toList)=false:=by rw[jT];exact U
        have HV:Hid (CC O N x y=max (CC O N (x+1) y) (CC O N x (y+1))):=aSl hx hy (by rw[gs,gt];simpa using U);clear gs gt U c1 b1;generalize CC O N (x+1) y=A at *;generalize CC O N x (y+1)=D at *
        go_wp2_with fail
        go_quiet (fail)
        go_wp2_with fail
        go_region
        all_goals
         have HE:Hid (yB w ((wr.drewN (nq+1)).setCell ⟨w.heap.size+1+x,y,none⟩ (.int .i64 (if A<D then (D:Int) else (A:Int)))) O.length N.length (O.length+1) (TT O N (x+1) y)):=HP.out (nq+1) _ (by rw[HV.out];split<;>omega);clear HP co cn o0 o1 f0 c0 c2 c3;generalize (wr.drewN (nq+1)).setCell ⟨w.heap.size+1+x,y,none⟩ (.int .i64 (if A<D then (D:Int) else (A:Int)))=w9 at *;go_wp2
         go_roundw
         case rel=>exact⟨y,by omega,by go_num,HE⟩
         case measure=>simp[intOf]<;>omega
       ·have b0:(s.toList == t.toList)=true:=by rw[jT];exact U
        have HV:Hid (CC O N x y=CC O N (x+1) (y+1)+1):=aVs hx hy (by rw[gs,gt];simpa using U);clear gs gt U c2 c3 b2 b3;generalize CC O N (x+1) (y+1)=A at *
        go_wp2_with fail
        go_quiet (fail)
        go_wp2_with fail
        go_region
        all_goals
         have HE:Hid (yB w ((wr.drewN (nq+1)).setCell ⟨w.heap.size+1+x,y,none⟩ (.int .i64 ((A:Int)+1))) O.length N.length (O.length+1) (TT O N (x+1) y)):=HP.out (nq+1) _ (by rw[HV.out];omega);clear HP co cn o0 o1 f0 c0 c1;generalize (wr.drewN (nq+1)).setCell ⟨w.heap.size+1+x,y,none⟩ (.int .i64 ((A:Int)+1))=w9 at *;go_wp2
         go_roundw
         case rel=>exact⟨y,by omega,by go_num,HE⟩
         case measure=>simp[intOf]<;>omega
def gS(F N Br F':List aU):Prop:=∃A a M b C,N=a::(M++[b])/\F=A++(N++C)/\F'=A++(a::(cD M++(Br++(b::C))))/\a.alive=true/\b.alive=true/\((∃m∈M,m.alive=true)\/Br≠[])
def aRf(N:List aU):List aU:=cD (cA ((N.take (N.length - 1)).drop 1))
theorem aCc(a b:aU)(M:List aU):((a::(M++[b])).take ((a::(M++[b])).length - 1)).drop 1=M:=by
 simp
theorem aU4{α:Type}{X Z Y A N C:List α}(h:X++(Z++Y)=A++(N++C))(hN:N≠[])(W:∀t,N.head?=some t->t∉Z)(a0:∀t,N.getLast?=some t->t∉Z)(hZ:∃z∈Z,z∉N):
  (∃D,X=A++(N++D)/\C=D++(Z++Y))\/(∃D,Y=D++(N++C)/\A=X++(Z++D)):=by
 by_cases h1:A.length+N.length<=X.length
 ·left;have I:A++N=X.take (A.length+N.length):=by
   have:=congrArg (List.take (A.length+N.length)) h;rw[fD h1,<- bG,vM (by simp)] at this;exact this.symm
  have J:C=X.drop (A.length+N.length)++(Z++Y):=by
   have:=congrArg (List.drop (A.length+N.length)) h;rw[dO h1,<- bG A N C,aHr (by simp)] at this;exact this.symm
  refine⟨X.drop (A.length+N.length),?_,J⟩;rw[<- bG,I,bV]
 ·by_cases h2:X.length+Z.length<=A.length
  ·right;have I:A.take (X.length+Z.length)=X++Z:=by
    have:=congrArg (List.take (X.length+Z.length)) h;rw[fD h2,<- bG,vM (by simp)] at this;exact this.symm
   have J:Y=A.drop (X.length+Z.length)++(N++C):=by
    have:=congrArg (List.drop (X.length+Z.length)) h;rw[dO h2,<- bG X Z Y,aHr (by simp)] at this;exact this
   refine⟨A.drop (X.length+Z.length),J,?_⟩;rw[<- bG,<- I,bV]
  ·exfalso
   -- positions: X.length - A.length ..:the first of N lies ahead of Z's end,the last behind X's end
   have U:∀j,j<N.length->(X++(Z++Y))[A.length+j]?=N[j]?:=λj hj=>by
    rw[h,bH (by omega),aZ (by omega)];congr 1;omega
   have E:∀j,j<N.length->X.length<=A.length+j->A.length+j<X.length+Z.length->N[j]?=Z[A.length+j - X.length]?:=λj hj h3 h4=>by
    rw[<- U j hj,bH h3,aZ (by omega)]
   have K:0<N.length:=List.length_pos_iff.2 hN
   -- the first is not in Z
   have hA:A.length<X.length:=by
    by_cases V:A.length<X.length
    ·exact V
    ·have:=E 0 K (by omega) (by omega);have hi:A.length+0 - X.length<Z.length:=by omega
     rw[aC hi] at this;exact absurd (bZ hi) (W _ (by rw[List.head?_eq_getElem?];exact this))
   have hB:X.length+Z.length<A.length+N.length:=by
    by_cases V:X.length+Z.length<A.length+N.length
    ·exact V
    ·have:=E (N.length - 1) (by omega) (by omega) (by omega);have hi:A.length+(N.length - 1) - X.length<Z.length:=by omega
     rw[aC hi] at this;exact absurd (bZ hi) (a0 _ (by rw[List.getLast?_eq_getElem?];exact this))
   obtain⟨z,hz,a1⟩:=hZ;obtain⟨k,hk,rfl⟩:=aMu hz;have:=E (X.length+k - A.length) (by omega) (by omega) (by omega);have e:A.length+(X.length+k - A.length) - X.length=k:=by omega
   rw[e,aC hk] at this;exact a1 (aD this)
theorem aQ9{F F1 a5 N1 B1 N2 B2:List aU}(h1:gS F N1 B1 F1)(h2:gS F1 N2 B2 a5)(hb:∀t∈N2,t∉B1)(hk:∀t∈N2,t∉aRf N1):∃F2,gS F N2 B2 F2/\gS F2 N1 B1 a5:=by
 obtain⟨A1,J,I,U,Y,rfl,rfl,rfl,a6,a7,e1⟩:=h1;obtain⟨A2,K,W,V,C2,rfl,hF,rfl,a3,a4,e2⟩:=h2;unfold aRf at hk;rw[aCc] at hk;have hZ:(A1++[J])++((cD I++B1)++(U::Y))=A2++((K::(W++[V]))++C2):=by
  rw[<- hF];simp
 have Z:∀t,t.alive=true->t∈K::(W++[V])->t∉cD I++B1:=λt ha ht hm=>by
  rcases aG.1 hm with hm|hm
  ·obtain⟨u,_,rfl⟩:=aI.1 hm
   cases ha
  ·exact hb t ht hm
 have hz:∃z∈cD I++B1,z∉K::(W++[V]):=by
  rcases e1 with ⟨m,hm,a8⟩|a9
  ·refine⟨lY m,aG.2 (.inl (aI.2 ⟨m,hm,rfl⟩)),λa0=>?_⟩;exact hk _ a0 (aI.2 ⟨m,cT.2 ⟨hm,a8⟩,rfl⟩)
  ·obtain⟨z,hz⟩:=List.exists_mem_of_ne_nil _ a9;exact⟨z,aG.2 (.inr hz),λa0=>hb _ a0 hz⟩
 have hc:=aU4 hZ (by simp) (λt ht=>by simp at ht;subst ht;exact Z _ a3 (by simp)) (λt ht=>by
  have:t=V:=by
   rw[show K::(W++[V])=(K::W)++[V] by simp,fX] at ht;simpa using ht.symm
  subst this
  exact Z _ a4 (by simp)) hz
 rcases hc with ⟨D,hX,rfl⟩|⟨D,hY,rfl⟩
 · -- the second hunk lies ahead of the first
  have hE:∃E,A2++(K::(cD W++(B2++(V::D))))=E++[J]:=by
   by_cases hD:D=[]
   ·subst hD;have:V=J:=by
     have:=congrArg List.getLast? hX;rw[fX,cR,show A2++(K::(W++[V]))=(A2++(K::W))++[V] by simp,fX] at this;simpa using this.symm
    subst this;exact⟨A2++(K::(cD W++B2)),by simp⟩
   ·obtain⟨D',d,rfl⟩:∃D' d,D=D'++[d]:=⟨_,_,(jF hD).symm⟩;have:d=J:=by
     have:=congrArg List.getLast? hX;rw[fX,show A2++((K::(W++[V]))++(D'++[d]))=(A2++((K::(W++[V]))++D'))++[d] by simp,fX] at this;simpa using this.symm
    subst this;exact⟨A2++(K::(cD W++(B2++(V::D')))),by simp⟩
  obtain⟨E,hE⟩:=hE;refine⟨A2++(K::(cD W++(B2++(V::(D++(I++(U::Y))))))),⟨A2,K,W,V,D++(I++(U::Y)),rfl,?_,rfl,a3,a4,e2⟩,⟨E,J,I,U,Y,rfl,?_,?_,a6,a7,e1⟩⟩
  ·have:A1++((J::(I++[U]))++Y)=(A1++[J])++(I++(U::Y)):=by simp
   rw[this,hX];simp
  ·have:E++((J::(I++[U]))++Y)=(E++[J])++(I++(U::Y)):=by simp
   rw[this,<- hE];simp
  ·have:E++(J::(cD I++(B1++(U::Y))))=(E++[J])++((cD I++B1)++(U::Y)):=by simp
   rw[this,<- hE];simp
 · -- behind it
  have hE:∃E,D++(K::(cD W++(B2++(V::C2))))=U::E:=by
   cases D with
   | nil=>
    have:U=K:=by simpa using congrArg List.head? hY
    subst this;exact⟨_,rfl⟩
   | cons d D'=>
    have:U=d:=by simpa using congrArg List.head? hY
    subst this;exact⟨_,rfl⟩
  obtain⟨E,hE⟩:=hE;refine⟨(A1++(J::I))++(D++(K::(cD W++(B2++(V::C2))))),⟨A1++(J::(I++D)),K,W,V,C2,rfl,?_,by simp,a3,a4,e2⟩,⟨A1,J,I,U,E,rfl,?_,?_,a6,a7,e1⟩⟩
  ·have:A1++((J::(I++[U]))++Y)=(A1++(J::I))++(U::Y):=by simp
   rw[this,hY];simp
  ·rw[hE];simp
  ·have:A1++(J::(cD I++(B1++(U::E))))=((A1++[J])++(cD I++B1))++(U::E):=by simp
   rw[this,<- hE];simp
end Go.Proofs.YtgdfipmdmgkidaaGreatDoor
