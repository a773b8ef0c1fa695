import Derived.Test.YtgdfipmdmgkidaaGreatDoorHcme
import Derived.Deep.DeepCutAuto
import Derived.Test.YtgdfipmdmgkidaaGreatDoorAl
set_option linter.all false
set_option maxHeartbeats 25600000
set_option maxRecDepth 100000
namespace Go.Proofs.YtgdfipmdmgkidaaGreatDoor
open Go.RowKit
theorem aC2(i:cL)(N:List ByteArray):∀(Q:List dL) (n:Int),(kL i N n Q).map (·.line)=Q.flatMap (bX N)
 | [],_=>rfl
 | q::Q,n=>by rw[kL,bF,aC4,aC2 i N Q,bL]
theorem aK5(e:iA)(i:cL)(n:Int)(S:List aU)(text:ByteArray)(Q:List dL)(Hs:List Hk)(p B rb sb f:Nat)(D:RD)(z:RS)(rv:Value)(w:World)
  (hW:WR w B rb D) (hB:B<=w.heap.size) (hs:sE w sb z) (m0:z.rows[f]?=some (rv,S.map (fI e))) (hd:∀t∈S,z.dead[fI e t]?=some (!t.alive)) (z4:(S.map (fI e)).Nodup) (n8:∀t∈S,0<=t.num) (y9:∀t∈S,∃k,D.cells[fI e t]?=some (t.line,k))
  (hg:dS (aL S) (bM text) 0 0 Q) (hm:oJ (aM S) i n (bM text) Q Hs) (hn:0<=n) (x8:D.cells.length=e.cb i+n.toNat) (hS:S.length<=100000) (hO:(aL S).length<=10000) (hN:(bM text).length<=10000) (hc:D.cells.length<=900000) (D0:text.size<=100000) :
  Calls Tryz.prog 242 #[.pointer (some ⟨rb,0,none⟩),.pointer (some ⟨sb,0,none⟩),.int .i64 f,.string text,.int .i64 p] w λr w'=>∃(v:Value) (R:List zH),r=.returned v/\eJ w' 269 4 R.length v (R.flatMap eH)/\(∀h∈R,OkH w' h)/\R.length=Hs.length/\(∀(k:Nat) (h:Hk) (q:zH),Hs[k]?=some h->R[k]?=some q->zI e h q)/\WR w' B rb (D.more ((Hs.flatMap (·.Br)).map (·.line)) p)/\hJ w w' rb:=by
 have HW:=aO hW;have HS:=aO hs;have HR:=aO m0;have HD:=aO hd;have A7:=aO z4;have A8:=aO n8;have A6:=aO y9;have HG:=aO hg;have HM:=aO hm;have t5:=aO x8;have F2:=(aB.1 m0).1;clear hW hs m0 hd z4 n8 y9 hg hm x8;go_enter Tryz.func242,Tryz.ntmps242;go_wp2
 go_loopw [11,12,13,14] (λov cv x _ wr=>∃k:Nat,k<=S.length/\x=.int .i64 k/\Hid (wr.ownsRow w.heap.size 9 1 ov ((cA (S.take k)).map (·.line)).length (bW ((cA (S.take k)).map (·.line))))/\Hid (wr.ownsRow w.heap.size 3 1 cv (pO e S k).length (oO (pO e S k)))/\Below w.heap.size w wr) (λ_ _ x _ _=>S.length - (intOf x).toNat)
 case atStart=>exact⟨0,aE _,rfl,aK _ _ _ _,by unfold Hid;simpa[pO,cA] using aK _ _ _ _,Below.refl _ _⟩
 case round=>
  obtain⟨k,hk,rfl,f9,i7,hb⟩:=hrel;have C8:=hb.size;obtain⟨ra,rc,q0,m1⟩:=(HS.out.below hb).rows_;obtain⟨b1,o1,rfl,q1,d8⟩:=m1 _ _ _ HR.out;obtain⟨ia,ic,e0,-,r9⟩:=RI.each d8;rw[aT] at e0;subst e0;clear m1;by_cases s8:k<S.length
  ·obtain⟨t,ht⟩:∃t,S[k]?=some t:=⟨_,aC s8⟩;have t0:=aD ht;obtain⟨b2,o2,rfl,-,q2⟩:=r9 k (fI e t) (by rw[aP,ht];rfl);have d1:=HD.out t t0;obtain⟨da,dc,q3,y5⟩:=(HS.out.below hb).dead_;obtain⟨b3,o3,rfl,q4⟩:=y5 _ _ d1;have d2:=(aB.1 d1).1;obtain⟨kk,s7⟩:=A6.out t t0;obtain⟨pv,cv,fv,sv,w0,w1,w2,w3,w4⟩:=(HW.out.below hb).wb;have q5:wr.cell? ⟨rb,1,none⟩=some cv:=by simp[World.cell?,w0]
   obtain⟨ca,cc,e2,-,f5⟩:=eJ.each (eJ.own w2) (λ_=>rfl);subst e2;obtain⟨b5,o5,rfl,-,x4⟩:=f5 _ _ s7;have q6:wr.cell? ⟨b5,o5+fI e t * 2,none⟩=some (.string t.line):=x4 0 _ rfl;have x9:=(aB.1 s7).1;have HT:=aO (aJf e ht);have F1:=aOw e S k;have m3:Hid ((cA (S.take (k+1))).map (·.line)=(cA (S.take k)).map (·.line)++(if t.alive=true then [t.line] else [])):=by
    unfold Hid cA;rw[aF s8,iM,bF,(aB.1 ht).2];by_cases h:t.alive=true<;>simp[h]
   have E8:((cA (S.take k)).map (·.line)).length<=k:=by
    rw[aT];exact aR (dZ _ _) (by rw[bR];omega)
   clear r9 y5 ht d1 d8 f5 x4 w0 w1 w2 w3 w4 s7 t0;generalize fI e t=c at *;generalize z.dead.length=nd at *;generalize z.rows.length=nr at *;generalize D.cells.length=F5 at *
   cases f4:t.alive
   ·have z9:wr.cell? ⟨b3,o3+c,none⟩=some (.bool true):=by rw[q4,f4];rfl
    have p6:Hid (pO e S (k+1)=pO e S k):=by unfold Hid;rw[HT.out,f4];simp
    have p7:Hid ((cA (S.take (k+1))).map (·.line)=(cA (S.take k)).map (·.line)):=by unfold Hid;rw[m3.out,f4];simp
    clear f4 HT m3 q4;go_wp2
    go_roundw
    case rel=>exact⟨k+1,by omega,by go_num,by rw[p7.out];exact f9,by rw[p6.out];exact i7,hb⟩
    case measure=>simp[intOf];omega
   ·have z9:wr.cell? ⟨b3,o3+c,none⟩=some (.bool false):=by rw[q4,f4];rfl
    have p6:Hid (pO e S (k+1)=pO e S k++[c]):=by unfold Hid;rw[HT.out,f4];simp
    have p7:Hid ((cA (S.take (k+1))).map (·.line)=(cA (S.take k)).map (·.line)++[t.line]):=by unfold Hid;rw[m3.out,f4];simp
    clear f4 HT m3 q4;generalize pO e S k=M at *;generalize (cA (S.take k)).map (·.line)=X at *;generalize t.line=l at *
    go_wp2_with (at_builtin;refine jL ei9 _ rfl _ _ rfl w.heap.size _ _ _ rfl f9.out #[.string l] rfl rfl (eX [l]) (by omega) (by decide) C8 ?_)
    intro v' w2 a4 hg d4;have b0:=d4 _ _ hb (aA _);have u9:Hid (w2.ownsRow w.heap.size 9 1 v' (X++[l]).length (bW (X++[l]))):=by unfold Hid;simpa[bW] using a4
    have a1:=aO (aPd i7.out f9.out (by decide) hg);clear a4 hg d4 i7 f9 hb q0 q1 q2 q3 z9 q5 q6
    go_wp2_with (at_builtin;refine jL ei3 _ rfl _ _ rfl w.heap.size _ _ _ rfl a1.out #[.int .i64 c] rfl rfl (kW [c]) (by omega) (by decide) b0.size ?_)
    intro D5 w3 a4 hg d4;have C4:=d4 _ _ b0 (aA _);have B0:Hid (w3.ownsRow w.heap.size 3 1 D5 (M++[c]).length (oO (M++[c]))):=by unfold Hid;simpa[oO] using a4
    have B1:=aO (aPd u9.out a1.out (by decide) hg);clear a4 hg d4 a1 u9 b0;go_wp2
    go_roundw
    case rel=>exact⟨k+1,by omega,by go_num,by rw[p7.out];exact B1,by rw[p6.out];exact B0,C4⟩
    case measure=>simp[intOf];omega
  ·obtain rfl:k=S.length:=by omega
   have i8:Hid (wr.ownsRow w.heap.size 9 1 u11 (aL S).length (bW (aL S))):=by
    have:=f9.out;rwa[bD,<- nE] at this
   have a1:Hid (wr.ownsRow w.heap.size 3 1 u12 ((cA S).map (fI e)).length (oO ((cA S).map (fI e)))):=by
    have:=i7.out;unfold pO at this;rwa[bD] at this
   clear f9 i7 r9 d8;generalize z.rows.length=nr at *;have u0:=aO (xG text wr D0);have w8:((cA S).map (fI e)).length=(aL S).length:=by rw[nE];simp
   rw[w8] at a1;obtain⟨oa,oc,e1⟩:=bC i8.out;obtain⟨ca,cc,e2⟩:=bC a1.out;subst e1 e2
   go_wp2_with (go_at_call 162;refine u0.out.mono ?_;rintro r w2 ⟨lv,rfl,m6,b0⟩)
   clear q0 q1 hk s8;obtain⟨la,lc,e3⟩:=bC m6;subst e3;have d5:Below w.heap.size w w2:=hb.trans (b0.mono hb.size);have j7:Below w2.heap.size w2 (w2.alloc (.cells #[.int .i64 (-1),.int .i64 (-1),.slice none 0 0,.slice none 0 0] 269)):=(Below.refl _ _).alloc (aA _) _;have s0:=(aH w2 (.cells #[.int .i64 (-1),.int .i64 (-1),.slice none 0 0,.slice none 0 0] 269)).1;have z6:(w2.alloc (.cells #[.int .i64 (-1),.int .i64 (-1),.slice none 0 0,.slice none 0 0] 269)).heap.size=w2.heap.size+1:=by simp
   generalize w2.alloc (.cells #[.int .i64 (-1),.int .i64 (-1),.slice none 0 0,.slice none 0 0] 269)=w3 at *;have s9:Below wr.heap.size wr w3:=b0.trans (j7.mono b0.size);have u7:=aO (aLt (aL S) (bM text) hO hN oa la oc lc w3 ((gD.own i8.out).below s9) ((gD.own m6).below j7));refine u7.out.mono ?_;rintro r w4 ⟨mv,rfl,l6,g8⟩;have f6:Below w.heap.size w w4:=(d5.trans (j7.mono d5.size)).trans (g8.mono (by have:=d5.size;omega));have B4:=aO (HS.out.below f6);have v3:=aO (HW.out.below f6);have A1:Hid (eJ w4 3 1 (aL S).length (.slice ca (aL S).length cc) (oO ((cA S).map (fI e)))):=(eJ.below (eJ.own a1.out) s9).below g8;have u5:Hid (eJ w4 9 1 (bM text).length (.slice la (bM text).length lc) (bW (bM text))):=(eJ.below (eJ.own m6) j7).below g8;have m9:Hid (RI w4 mv (mvs (aL S) (bM text))):=eJ.own l6;obtain⟨ma,mc,e4⟩:=bC l6;subst e4;obtain⟨E,r8⟩:∃h,w2.heap.size=h:=⟨_,rfl⟩;rw[r8] at s0 z6 ⊢;have u4:Hid (w4.heap[E]?=some (.cells #[.int .i64 (-1),.int .i64 (-1),.slice none 0 0,.slice none 0 0] 269 (0,0))):=(g8.block E (by omega)).trans s0;have d6:w.heap.size<=E/\E<w4.heap.size:=⟨by rw[<- r8];exact d5.size,by have:=g8.size;omega⟩;obtain⟨m,l5⟩:∃m,mvs (aL S) (bM text)=m:=⟨_,rfl⟩;rw[l5] at m9 l6;rw[l5];have C7:m.length<=20000:=by rw[<- l5];exact aR (aEx _ _ _ _ _) (by omega)
   have p9:=HkP.start HG.out;rw[l5] at p9;generalize C1:bM text=N at *;generalize v8:(aL S).length=nO at *;have a9:=aO v8;have v0:Hid (HkS e i n S N Q Hs p B rb E D w w4 w4 m 0 (.slice none 0 0) false 0 0):=
    ⟨0,0,0,.slice none 0 0,[],[],w4,p9,by simp,⟨hJ.ofBelow f6 HW.out.lt,by simpa[RD.more_nil] using v3.out,bU.refl _,bU.refl _,u4.out,aK _ _ _ _,aK _ _ _ _,λh hh=>(by cases hh)⟩,rfl,λk h q _ hq=>(by cases hq),rfl,aE _⟩
   obtain⟨ml,l0⟩:∃l,m.length=l:=⟨_,rfl⟩;rw[l0] at C7 l6 ⊢;have i5:=aO l0;clear p9 l0 l5 v8 C1 d5 j7 s0 z6 s9 r8 g8 f6 b0 m6 l6 u7 u0 i8 a1 hb v3 u4 w8;go_wp2
   go_loopw [16,18,19,20,22] (λov sv xi xj xk wx=>∃k:Nat,xk=.int .i64 k/\((∃(sm:Bool) (a b:Nat),k<=ml/\sv=.bool sm/\xi=.int .i64 a/\xj=.int .i64 b/\Hid (HkS e i n S N Q Hs p B rb E D w w4 wx m k ov sm a b))\/(k=ml+1/\Hid (HkF e N Q Hs p B rb D w w4 wx ov)))) (λ_ _ _ _ xk _=>ml+1 - (intOf xk).toNat)
   case atStart=>exact⟨0,rfl,.inl ⟨false,0,0,aE _,rfl,rfl,rfl,v0⟩⟩
   case round=>
    clear v0;obtain⟨k,rfl,⟨sm,a,b,E7,rfl,rfl,rfl,a8⟩|⟨rfl,HF⟩⟩:=hrel
    ·have d7:∀v:Nat,m[k]?=some v->∃mb mo,ma=some ⟨mb,mo,none⟩/\wr.cell? ⟨mb,mo+k,none⟩=some (.int .i64 v):=λv hv=>by
      obtain⟨i0,j0,q,nv,K,R,wf,hP,-,hM,-⟩:=a8.out;obtain⟨_,_,e5,-,f5⟩:=RI.each ((eJ.held m9.out hM.h1 (by simp[uM,cE])).held hM.h2 (by simp[uM,cE]))
      cases e5
      obtain⟨b7,o7,e6,-,e7⟩:=f5 k v hv;exact⟨b7,o7,e6,e7⟩
     have x7:((ml<=k/\a=nO/\b=N.length)\/(m[k]?=some 0/\iR (aL S) N a b))\/(m[k]?=some 1/\¬ iR (aL S) N a b/\gQ (aL S) N a b=true)\/(m[k]?=some 2/\¬ iR (aL S) N a b/\gQ (aL S) N a b=false/\(a<(aL S).length\/b<N.length)):=by
      obtain⟨i0,j0,q,nv,K,R,wf,hP,-⟩:=a8.out;rcases hP.cases with ⟨h1,h2,h3⟩|h1|h1|h1
      ·exact .inl (.inl ⟨by rw[<- i5.out];exact h1,by rw[<- a9.out];exact h2,h3⟩)
      ·exact .inl (.inr h1)
      ·exact .inr (.inl h1)
      ·exact .inr (.inr h1)
     rcases x7 with hst|⟨b4,k9,k7⟩|⟨b4,k9,k7,n7⟩
     ·have n4:a<=nO/\b<=N.length:=by
       obtain⟨i0,j0,q,nv,K,R,wf,hP,-⟩:=a8.out;exact⟨by rw[<- a9.out];exact hP.i2,hP.j2⟩
      have n0:=aO hst;clear hst
      go_upto_region 20 with fail
      go_cut [94] (λD4 wx=>D4=.bool true/\wx=wr)
      case first=>
       rcases n0.out with ⟨h1,-⟩|⟨h1,-⟩
       ·have k1:((k:Int) == (ml:Int))=true:=by simp;omega
        clear d7 h1;go_wp2
        go_meet
        exact⟨rfl,rfl⟩
       ·obtain⟨mb,mo,rfl,c1⟩:=d7 0 h1;have n5:k<ml:=by rw[<- i5.out];exact(aB.1 h1).1
        have k1:((k:Int) == (ml:Int))=false:=by simp;omega
        clear d7 h1;go_wp2
        go_meet
        exact⟨rfl,rfl⟩
      case rest=>
      obtain⟨rfl,t3⟩:=hcut;subst t3;clear d7;obtain⟨i0,j0,q,nv,K,R,wf,hP,z8,hM,h5,h6,h7,h8⟩:=a8.out;have v1:=aO z8;have U:=aO hM;have b6:=aO hP;have g0:=aO h5;have g4:=aO h6;have p5:=aO h7;clear z8 hP hM h5 h6 h7 a8
      go_upto_if 98 with fail
      go_cut [23] (λD3 wx=>D3=.int .i64 (edB e S a)/\wx=wc)
      case first=>
       by_cases hA:a<nO
       ·obtain⟨_,_,e5,-,f5⟩:=eJ.at_ ((eJ.held A1.out U.out.h1 (by simp[uM,cE])).held U.out.h2 (by simp[uM,cE]))
        cases e5
        obtain⟨b7,o7,rfl,-,x5⟩:=f5 (by omega);have n1:a<(cA S).length:=by
         have:=a9.out;rw[nE,aT] at this;omega
        have c1:wc.cell? ⟨b7,o7+a,none⟩=some (.int .i64 (fI e (cA S)[a])):=x5 a _ (by rw[aP,aP,aC n1];rfl);have h4:Hid ((fI e (cA S)[a]:Int)=edB e S a):=by unfold Hid edB;rw[aC n1];rfl
        clear f5 x5;generalize fI e (cA S)[a]=cb at *;go_wp2
        go_meet
        exact⟨by rw[h4.out],rfl⟩
       ·have h4:Hid ((-1:Int)=edB e S a):=by
         unfold Hid edB;rw[gK (by have:=a9.out;rw[nE,aT] at this;omega)];rfl
        go_wp2
        go_meet
        exact⟨by rw[h4.out],rfl⟩
      case rest=>
      obtain⟨rfl,t3⟩:=hcut;subst t3;have u2:Hid (∃Rr,Q.drop q=fA i0 a j0 b++Rr/\((ml<=k/\Rr=[])\/(k<ml/\a<nO/\b<N.length/\HkP (aL S) N Q m (k+1) (a+1) (b+1) (a+1) (b+1) (q+(fA i0 a j0 b).length)))):=by
       rcases n0.out with ⟨h1,h2,h3⟩|⟨h1,h2⟩
       ·exact⟨[],by rw[cR];exact b6.out.stop (by rw[a9.out];exact h2) h3,.inl ⟨h1,rfl⟩⟩
       ·obtain⟨Rr,r1,r2⟩:=b6.out.keep h1 h2;exact⟨Rr,r1,.inr ⟨by rw[<- i5.out];exact(aB.1 h1).1,by rw[<- a9.out];exact h2.1,h2.2.1,r2⟩⟩
      go_upto_if 103 with fail
      go_cut [16] (λD2 wx=>HkC e Hs B rb E (q+(fA i0 a j0 b).length) (D.more ((Q.take q).flatMap (bX N)++(N.take b).drop j0) p) w w4 wx D2)
      case first=>
       cases sm with
       | true=>
        have a7:i0<a\/j0<b:=of_decide_eq_true v1.out.symm;obtain⟨Rr,r1,-⟩:=u2.out;obtain⟨⟨X,M,Z,e1,eA,eB,eR⟩,-,-⟩:=aQq hn A8.out HD.out HM.out r1 a7 b6.out.i1 b6.out.i2 b6.out.j1 b6.out.j2;have i4:Hid (q+(fA i0 a j0 b).length=R.length+1):=by unfold Hid fA;rw[if_pos a7,g0.out];rfl
        have o8:Hid (∀rv,∀x,Hs[R.length]?=some x->zI e x ⟨edA e S i0,edB e S a,rv,M.map (sC e),nv,K⟩):=λrv x hx=>by rw[p5.out];exact eR rv nv x (by rw[<- g0.out];exact hx)
        have A4:=aO eA;have h4:=aO eB;have o6:=aO e1;obtain⟨va,vc,z5⟩:=bC U.out.new;subst z5;have A3:Hid (∀n9∈M.map (sC e),z.dead[n9.1]?=some n9.2):=λn9 h9=>by
         obtain⟨t9,m4,rfl⟩:=aI.1 h9;exact HD.out t9 (by rw[o6.out];simp[m4])
        have E9:X.length+(M.length+Z.length)=S.length:=by rw[o6.out];simp
        have d1:wc.cell? ⟨E,1,none⟩=some (.int .i64 (-1)):=by simp[World.cell?,U.out.hb_]
        have f1:wc.frozen? ⟨E,1,none⟩=false:=by simp[World.frozen?,U.out.hb_]
        have t1:=heap_setCell_same wc E 1 _ 269 (.int .i64 (edB e S a)) U.out.hb_;have g1:=gY wc E 1 (.int .i64 (edB e S a));have f8:(wc.setCell ⟨E,1,none⟩ (.int .i64 (edB e S a))).heap.size=wc.heap.size:=by simp[World.setCell]
        have y6:bU uM w4 (wc.setCell ⟨E,1,none⟩ (.int .i64 (edB e S a))):=(U.out.h1.trans U.out.h2).trans (bU.of_grown g1 λk' C6=>by cases C6;exact⟨269,⟨_,_,U.out.hb_⟩,by simp[uM]⟩);have W:=aO (B4.out.held2 y6 (by simp[uM,cE]) (by simp[uM,cE]) (by simp[uM,cE]) (by simp[uM,cE]));clear eR eA eB e1 r1 y6 g1;obtain⟨wa,m7⟩:∃wa,wa=wc.setCell ⟨E,1,none⟩ (.int .i64 (edB e S a)):=⟨_,rfl⟩;rw[<- m7] at t1 f8 W;obtain⟨ra,A0,q0,m1⟩:=W.out.rows_;obtain⟨c5,m8,rfl,q1,d8⟩:=m1 _ _ _ HR.out;have k8:S.map (fI e)=X.map (fI e)++(M.map (fI e)++Z.map (fI e)):=by rw[o6.out];simp
        rw[k8] at d8;have l7:=A7.out;rw[k8] at l7;have t4:Hid (∀u,Below wa.heap.size wa u->Calls Tryz.prog 207 #[.pointer (some ⟨sb,0,none⟩),.slice ia S.length ic,.agg #[.int .i64 (edA e S i0),.int .i64 (edB e S a),.slice none 0 0,.slice va K.length vc]] u λr w'=>r=.returned (.tuple #[.int .i64 (X.length:Nat),.int .i64 ((X.length+M.length:Nat):Nat),.bool true])/\Below wa.heap.size wa w'):=λu hu=>by
         have:=qH (X.map (fI e)) (M.map (fI e)) (Z.map (fI e)) (edA e S i0) (edB e S a) none va 0 0 K.length vc (.slice ia S.length ic) sb z u (W.out.below hu) (eJ.below d8 hu) l7 A4.out h4.out (by simp;omega);refine this.mono ?_;rintro r w' ⟨rfl,C3⟩;refine⟨by simp,hu.trans (C3.mono hu.size)⟩
        have z0:wa.cell? ⟨E,0,none⟩=some (.int .i64 (edA e S i0)):=by simp[World.cell?,t1]
        have z1:wa.cell? ⟨E,1,none⟩=some (.int .i64 (edB e S a)):=by simp[World.cell?,t1]
        have z2:wa.cell? ⟨E,2,none⟩=some (.slice none 0 0):=by simp[World.cell?,t1]
        have z3:wa.cell? ⟨E,3,none⟩=some (.slice va K.length vc):=by simp[World.cell?,t1]
        have z7:sb<wa.heap.size:=W.out.lt;have x3:c5<wa.heap.size:=by
         by_cases h:c5<wa.heap.size
         ·exact h
         ·simp[World.cell?,eI (show wa.heap.size<=c5 by omega)] at q1
        have c6:E<wa.heap.size:=lt_of_block t1;have j5:∀u,Below wa.heap.size wa u->u.cell? ⟨sb,2,none⟩=some (.slice (some ⟨c5,m8,none⟩) z.rows.length A0)/\u.cell? ⟨c5,m8+f,none⟩=some (.slice ia S.length ic)/\u.cell? ⟨E,0,none⟩=some (.int .i64 (edA e S i0))/\u.cell? ⟨E,1,none⟩=some (.int .i64 (edB e S a))/\u.cell? ⟨E,2,none⟩=some (.slice none 0 0)/\u.cell? ⟨E,3,none⟩=some (.slice va K.length vc):=λu hu=>
         ⟨(bN (hu.block sb z7) _).trans q0,(bN (hu.block c5 x3) _).trans q1,(bN (hu.block E c6) _).trans z0,(bN (hu.block E c6) _).trans z1,(bN (hu.block E c6) _).trans z2,(bN (hu.block E c6) _).trans z3⟩
        have j3:=aO j5;have D9:f<z.rows.length:=(aB.1 HR.out).1;clear j5 m1 l7 q0 q1 z0 z1 z2 z3 k8;generalize B6:edA e S i0=A9 at *;generalize B7:edB e S a=B9 at *;generalize D1:z.rows.length=zr at *;have g6:=aO m7;clear B6 B7 D1
        go_wp2_with fail
        rw[<- m7];clear m7;obtain⟨s1,s2,s3,s4,s5,s6⟩:=j3.out wa (Below.refl _ _)
        go_region_held3 (λw'=>w'.cell? ⟨sb,2,none⟩=some (.slice (some ⟨c5,m8,none⟩) zr A0)/\w'.cell? ⟨c5,m8+f,none⟩=some (.slice ia S.length ic)/\w'.cell? ⟨E,0,none⟩=some (.int .i64 A9)/\w'.cell? ⟨E,1,none⟩=some (.int .i64 B9)/\w'.cell? ⟨E,2,none⟩=some (.slice none 0 0)/\w'.cell? ⟨E,3,none⟩=some (.slice va K.length vc))
         (first|exact KP.out|exact⟨s1,s2,s3,s4,s5,s6⟩|go_keep)
         (first|(go_at_call 207;refine(t4.out _ (Below.refl _ _).drew).mono ?_;rintro r w6 ⟨rfl,j6⟩;have KP:=aO (j3.out w6 j6)))
        obtain⟨k1,k2,k3,k4,k5,k6⟩:=KP.out;have l9:RI w6 (.slice ia S.length ic) (X.map (fI e)++(M.map (fI e)++Z.map (fI e))):=eJ.below d8 j6;have x6:S.length<=ic:=by
         obtain⟨_,_,e9,F0,-⟩:=RI.each l9;simp only[lC] at e9;obtain⟨-,h9,rfl⟩:=e9;omega
        have C2:(ia=none/\S.length=0/\ic=0/\X.length=0/\M.length=0)\/(∃b o,ia=some ⟨b,o,none⟩/\ic=X.length/\M.length=0/\TB w6 b 3)\/(∃b o,ia=some ⟨b,o,none⟩/\X.length<ic/\RI w6 (.slice (some ⟨b,o+X.length,none⟩) M.length (ic - X.length)) (M.map (fI e))):=by
         obtain⟨-,E1,D6,e9,-,hx⟩:=l9;simp only[lC] at e9;obtain⟨rfl,-,rfl⟩:=e9;rcases hx with ⟨h0,h1,h2⟩|⟨b9,o9,rfl,ht,x9⟩
         ·refine .inl ⟨h0,?_,h2,?_,?_⟩<;>simp at h1<;>omega
         ·by_cases hX:ic=X.length
          ·exact .inr (.inl ⟨b9,o9,rfl,hX,by omega,ht⟩)
          ·refine .inr (.inr ⟨b9,o9,rfl,by omega,by simp[oO],some ⟨b9,o9+X.length,none⟩,ic - X.length,by simp,by simp;omega,.inr ⟨b9,o9+X.length,rfl,ht,λj u hj=>?_⟩⟩);rw[dB];refine x9 (X.length+j) u ?_;simp only[oO,bF];rw[bH (by simp),aT,aT,aD8,aZ]
           ·exact hj
           ·have:=(aB.1 hj).1;simpa[oO] using this
        have v2:=aO (W.out.below j6);have a0:=aO j6;have e8:X.length+M.length - X.length=M.length:=by omega
        have e7:(X.length:Int)<=((X.length+M.length:Nat):Int):=by omega
        have e6:((X.length+M.length:Nat):Int)<=(ic:Int):=by omega
        clear l9 j6 KP t4 d8 x6;have t6:w6.heap[E]?=some (.cells #[.int .i64 A9,.int .i64 B9,.slice none 0 0,.slice va K.length vc] 269 (0,0)):=(a0.out.block E c6).trans t1;have g5:Hid (∀V,RI w6 V (M.map (fI e))->Calls Tryz.prog 241 #[.pointer (some ⟨sb,0,none⟩),V] w6 λr w'=>∃rv,r=.returned rv/\w'.ownsRow w6.heap.size 273 2 rv (M.map (sC e)).length ((M.map (sC e)).flatMap eN)/\Below w6.heap.size w6 w'/\w'.cell? ⟨E,2,none⟩=some (.slice none 0 0)/\w'.frozen? ⟨E,2,none⟩=false/\(w'.setCell ⟨E,2,none⟩ rv).heap[E]?=some (.cells #[.int .i64 A9,.int .i64 B9,rv,.slice va K.length vc] 269 (0,0))):=λV hV=>by
         refine(aG5 (M.map (sC e)) V sb z w6 v2.out (by rw[uJ];exact hV) A3.out (by simp;omega)).mono ?_;rintro r w' ⟨rv,rfl,q1,q2⟩;have t7:w'.heap[E]?=_:=(q2.block E (lt_of_block t6)).trans t6;exact⟨rv,rfl,q1,q2,by simp[World.cell?,t7],by simp[World.frozen?,t7],heap_setCell_same w' E 2 _ 269 rv t7⟩
        have q7:R.length<=1000000:=by
         have:=g0.out;have h9:=HG.out.len (aE _) (aE _);have m4:=a9.out;omega
        have D7:w4.heap.size<=w6.heap.size:=by
         have:=U.out.h1.size;have:=U.out.h2.size;have:=a0.out.size;omega
        rcases C2 with ⟨rfl,h0,rfl,h1,h2⟩|⟨b9,o9,rfl,rfl,h2,C9⟩|⟨b9,o9,rfl,h1,h2⟩
        ·have H0:=aO h0;clear h0;have a3:=aO (g5.out (.slice none 0 0) (by obtain rfl:M=[]:=aS h2;exact⟨rfl,none,0,rfl,aA _,.inl ⟨rfl,rfl,rfl⟩⟩));clear g5
         go_wp2_with fail
         refine a3.out.mono ?_;rintro r w7 ⟨rv,rfl,a6,c8,c7,f7,t7⟩;obtain⟨I,J,e9⟩:=bC a6;subst e9;have c0:=aO a6;have a2:=aO c8;have u8:Hid ((M.map (sC e)).length<=100000):=by unfold Hid;simp;omega
         generalize d9:(M.map (sC e)).length=rn at *;have i9:=aO d9;have y0:(w7.setCell ⟨E,2,none⟩ (.slice I rn J)).cell? ⟨E,0,none⟩=some (.int .i64 A9):=by simp[World.cell?,t7]
         have y1:(w7.setCell ⟨E,2,none⟩ (.slice I rn J)).cell? ⟨E,1,none⟩=some (.int .i64 B9):=by simp[World.cell?,t7]
         have y2:(w7.setCell ⟨E,2,none⟩ (.slice I rn J)).cell? ⟨E,2,none⟩=some (.slice I rn J):=by simp[World.cell?,t7]
         have y3:(w7.setCell ⟨E,2,none⟩ (.slice I rn J)).cell? ⟨E,3,none⟩=some (.slice va K.length vc):=by simp[World.cell?,t7]
         have i6:Hid ((w7.setCell ⟨E,2,none⟩ (.slice I rn J)).ownsRow w4.heap.size 269 4 u16 R.length (R.flatMap eH)):=by
          have o1:=U.out.out.kept (gY wc E 1 (.int .i64 B9)) (.inr λe9=>by have:=(U.out.out.lt E e9).1;omega);rw[<- g6.out] at o1;have o2:=bQ (bQ o1 a0.out (aA _)) a2.out (aA _);exact o2.kept (gY w7 E 2 _) (.inr λe9=>by have:=(o2.lt E e9).1;omega)
         have f3:w4.heap.size<=(w7.setCell ⟨E,2,none⟩ (.slice I rn J)).heap.size:=by
          have:=a2.out.size;simp[World.setCell];omega
         have c4:Hid ((w7.setCell ⟨E,2,none⟩ (.slice I rn J)).heap.size=w7.heap.size):=by unfold Hid;simp[World.setCell]
         clear a6 c8 d9 s1 s2 s3 s4 s5 s6 a3
         go_wp2_with (at_builtin;refine jA aWw _ rfl _ _ rfl w4.heap.size _ _ _ rfl i6.out #[.int .i64 A9,.int .i64 B9,.slice I rn J,.slice va K.length vc] (by rw[c4.out];rfl) rfl (by simp[Value.oneCell']) q7 (by decide) f3 ?_)
         intro g cap w9 a5 k0 n2 j8;go_wp2
         go_meet
         rw[i4.out];refine U.out.close (b:=B9) (rv:=.slice I rn J) (run:=M.map (sC e)) g4.out d6 (by omega) ?_ (by rw[i9.out];exact bK c0.out (by have:=a0.out.size;omega)) rfl k0 a5 (o8.out _);rw[<- g6.out];have h1:=a0.out.trans (a2.out.mono a0.out.size);rwa[f8] at h1
        ·have a3:=aO (g5.out (.slice (some ⟨b9,o9,none⟩) 0 0) (by obtain rfl:M=[]:=aS h2;exact⟨rfl,some ⟨b9,o9,none⟩,0,rfl,aA _,.inr ⟨b9,o9,rfl,C9,λj u hj=>by cases hj⟩⟩));clear g5
         go_wp2_with fail
         refine a3.out.mono ?_;rintro r w7 ⟨rv,rfl,a6,c8,c7,f7,t7⟩;obtain⟨I,J,e9⟩:=bC a6;subst e9;have c0:=aO a6;have a2:=aO c8;have u8:Hid ((M.map (sC e)).length<=100000):=by unfold Hid;simp;omega
         generalize d9:(M.map (sC e)).length=rn at *;have i9:=aO d9;have y0:(w7.setCell ⟨E,2,none⟩ (.slice I rn J)).cell? ⟨E,0,none⟩=some (.int .i64 A9):=by simp[World.cell?,t7]
         have y1:(w7.setCell ⟨E,2,none⟩ (.slice I rn J)).cell? ⟨E,1,none⟩=some (.int .i64 B9):=by simp[World.cell?,t7]
         have y2:(w7.setCell ⟨E,2,none⟩ (.slice I rn J)).cell? ⟨E,2,none⟩=some (.slice I rn J):=by simp[World.cell?,t7]
         have y3:(w7.setCell ⟨E,2,none⟩ (.slice I rn J)).cell? ⟨E,3,none⟩=some (.slice va K.length vc):=by simp[World.cell?,t7]
         have i6:Hid ((w7.setCell ⟨E,2,none⟩ (.slice I rn J)).ownsRow w4.heap.size 269 4 u16 R.length (R.flatMap eH)):=by
          have o1:=U.out.out.kept (gY wc E 1 (.int .i64 B9)) (.inr λe9=>by have:=(U.out.out.lt E e9).1;omega);rw[<- g6.out] at o1;have o2:=bQ (bQ o1 a0.out (aA _)) a2.out (aA _);exact o2.kept (gY w7 E 2 _) (.inr λe9=>by have:=(o2.lt E e9).1;omega)
         have f3:w4.heap.size<=(w7.setCell ⟨E,2,none⟩ (.slice I rn J)).heap.size:=by
          have:=a2.out.size;simp[World.setCell];omega
         have c4:Hid ((w7.setCell ⟨E,2,none⟩ (.slice I rn J)).heap.size=w7.heap.size):=by unfold Hid;simp[World.setCell]
         clear a6 c8 d9 s1 s2 s3 s4 s5 s6 a3
         go_wp2_with (at_builtin;refine jA aWw _ rfl _ _ rfl w4.heap.size _ _ _ rfl i6.out #[.int .i64 A9,.int .i64 B9,.slice I rn J,.slice va K.length vc] (by rw[c4.out];rfl) rfl (by simp[Value.oneCell']) q7 (by decide) f3 ?_)
         intro g cap w9 a5 k0 n2 j8;go_wp2
         go_meet
         rw[i4.out];refine U.out.close (b:=B9) (rv:=.slice I rn J) (run:=M.map (sC e)) g4.out d6 (by omega) ?_ (by rw[i9.out];exact bK c0.out (by have:=a0.out.size;omega)) rfl k0 a5 (o8.out _);rw[<- g6.out];have h1:=a0.out.trans (a2.out.mono a0.out.size);rwa[f8] at h1
        ·have a3:=aO (g5.out _ h2);clear g5 h2
         go_wp2_with fail
         refine a3.out.mono ?_;rintro r w7 ⟨rv,rfl,a6,c8,c7,f7,t7⟩;obtain⟨I,J,e9⟩:=bC a6;subst e9;have c0:=aO a6;have a2:=aO c8;have u8:Hid ((M.map (sC e)).length<=100000):=by unfold Hid;simp;omega
         generalize d9:(M.map (sC e)).length=rn at *;have i9:=aO d9;have y0:(w7.setCell ⟨E,2,none⟩ (.slice I rn J)).cell? ⟨E,0,none⟩=some (.int .i64 A9):=by simp[World.cell?,t7]
         have y1:(w7.setCell ⟨E,2,none⟩ (.slice I rn J)).cell? ⟨E,1,none⟩=some (.int .i64 B9):=by simp[World.cell?,t7]
         have y2:(w7.setCell ⟨E,2,none⟩ (.slice I rn J)).cell? ⟨E,2,none⟩=some (.slice I rn J):=by simp[World.cell?,t7]
         have y3:(w7.setCell ⟨E,2,none⟩ (.slice I rn J)).cell? ⟨E,3,none⟩=some (.slice va K.length vc):=by simp[World.cell?,t7]
         have i6:Hid ((w7.setCell ⟨E,2,none⟩ (.slice I rn J)).ownsRow w4.heap.size 269 4 u16 R.length (R.flatMap eH)):=by
          have o1:=U.out.out.kept (gY wc E 1 (.int .i64 B9)) (.inr λe9=>by have:=(U.out.out.lt E e9).1;omega);rw[<- g6.out] at o1;have o2:=bQ (bQ o1 a0.out (aA _)) a2.out (aA _);exact o2.kept (gY w7 E 2 _) (.inr λe9=>by have:=(o2.lt E e9).1;omega)
         have f3:w4.heap.size<=(w7.setCell ⟨E,2,none⟩ (.slice I rn J)).heap.size:=by
          have:=a2.out.size;simp[World.setCell];omega
         have c4:Hid ((w7.setCell ⟨E,2,none⟩ (.slice I rn J)).heap.size=w7.heap.size):=by unfold Hid;simp[World.setCell]
         clear a6 c8 d9 s1 s2 s3 s4 s5 s6 a3
         go_wp2_with (at_builtin;refine jA aWw _ rfl _ _ rfl w4.heap.size _ _ _ rfl i6.out #[.int .i64 A9,.int .i64 B9,.slice I rn J,.slice va K.length vc] (by rw[c4.out];rfl) rfl (by simp[Value.oneCell']) q7 (by decide) f3 ?_)
         intro g cap w9 a5 k0 n2 j8;go_wp2
         go_meet
         rw[i4.out];refine U.out.close (b:=B9) (rv:=.slice I rn J) (run:=M.map (sC e)) g4.out d6 (by omega) ?_ (by rw[i9.out];exact bK c0.out (by have:=a0.out.size;omega)) rfl k0 a5 (o8.out _);rw[<- g6.out];have h1:=a0.out.trans (a2.out.mono a0.out.size);rwa[f8] at h1
       | false=>
        have a7:¬ (i0<a\/j0<b):=of_decide_eq_false v1.out.symm;have i4:Hid (q+(fA i0 a j0 b).length=R.length):=by unfold Hid fA;rw[if_neg a7,g0.out];rfl
        clear a7;go_wp2
        go_meet
        rw[i4.out];exact U.out.rest g4.out
      case rest=>
      have t8:=aO hcut;obtain⟨R9,-,-,-,⟨c9,C5,t9⟩,-⟩:=hcut;have d0:wc.cell? ⟨E,0,none⟩=some c9[0]:=by simp[World.cell?,t9]
      have d1:wc.cell? ⟨E,1,none⟩=some c9[1]:=by simp[World.cell?,t9]
      have d2:wc.cell? ⟨E,2,none⟩=some c9[2]:=by simp[World.cell?,t9]
      have d3:wc.cell? ⟨E,3,none⟩=some c9[3]:=by simp[World.cell?,t9]
      have fz:∀j,wc.frozen? ⟨E,j,none⟩=false:=λj=>by simp[World.frozen?,t9]
      obtain⟨x1,x2⟩:=aW4 t9 C5 (.int .i64 (edB e S a)) (.int .i64 (-1)) (.slice none 0 0) (.slice none 0 0);obtain⟨R',y1,y2,y3⟩:=t8.out.next x2 x1 d6;have B5:=aO y1;have v5:=aO y2;have v6:=aO y3;have E2:=n4.1;have b0:=n4.2;clear x1 x2 y1 y2 y3 t8;go_wp2
      go_roundw
      case rel=>
       obtain⟨Rr,r1,r2⟩:=u2.out;obtain⟨g1,g2,g3⟩:=aX7 (N:=N) r1 h8 b6.out.i1 b6.out.j1;have g7:=B5.out;rw[g1] at g7;refine⟨k+1,by go_num,?_⟩;rcases r2 with ⟨q1,rfl⟩|⟨q1,q2,q3,q4⟩
       ·refine .inr ⟨by omega,R',g7.out,g7.ok,?_,v6.out,?_,g7.fr⟩
        ·rw[v5.out,HM.out.1];have:=congrArg List.length (g3 rfl);rw[bR] at this;omega
        ·have:=g7.wr_;rwa[g3 rfl] at this
       ·have C0:=g7.conv (D':=D.more ((Q.take (q+(fA i0 a j0 b).length)).flatMap (bX N)++(N.take (b+1)).drop (b+1)) p) (by rw[fF (by rw[bR];omega),cR]) aWv.symm;exact .inl ⟨false,a+1,b+1,by omega,rfl,by go_num,by go_num,a+1,b+1,_,_,[],R',_,q4,by simp,C0,v5.out,v6.out,by simp,g2⟩
      case measure=>simp[intOf];omega
     ·have n5:k<ml:=by rw[<- i5.out];exact(aB.1 b4).1
      obtain⟨mb,mo,rfl,c1⟩:=d7 1 b4;have u3:Hid (a<nO/\HkS e i n S N Q Hs p B rb E D w w4 wr m (k+1) u16 true (a+1) b):=by
       obtain⟨i0,j0,q,nv,K,R,wf,hP,-,hM,h5,h6,h7,h8⟩:=a8.out;obtain⟨g1,g2⟩:=hP.kill b4 k9 k7;have:=g2.i1;exact⟨by rw[<- a9.out];exact g1,i0,j0,q,nv,K,R,wf,g2,by have:=hP.i1;simp;omega,hM,h5,h6,h7,h8⟩
      have k1:((k:Int) == (ml:Int))=false:=by simp;omega
      have D8:=u3.out.1;clear d7 b4 k9 k7 a8;go_wp2
      go_roundw
      case rel=>exact⟨k+1,by go_num,.inl ⟨true,a+1,b,by omega,rfl,by go_num,rfl,u3.out.2⟩⟩
      case measure=>simp[intOf];omega
     ·have n5:k<ml:=by rw[<- i5.out];exact(aB.1 b4).1
      obtain⟨mb,mo,rfl,c1⟩:=d7 2 b4;obtain⟨i0,j0,q,nv,K,R,wf,hP,-,hM,h5,h6,h7,h8⟩:=a8.out;obtain⟨g1,g2⟩:=hP.come b4 k9 k7 n7;have E6:=hP.j1;obtain⟨l,hl⟩:∃l,N[b]?=some l:=⟨_,aC g1⟩;have m2:=eJ.held (eJ.held u5.out hM.h1 (by simp[uM,cE])) hM.h2 (by simp[uM,cE]);obtain⟨F3,F4,e5,-,y7⟩:=eJ.at_ m2
      cases e5
      obtain⟨lb,lo,rfl,-,y8⟩:=y7 (by omega);have c2:wr.cell? ⟨lb,lo+b,none⟩=some (.string l):=y8 b _ (by unfold bW;rw[aP,hl];rfl);have c3:wr.cell? ⟨E,3,none⟩=some nv:=by simp[World.cell?,hM.hb_]
      have HY:Hid ((Q.take q).flatMap (bX N)++(N.take b).drop j0++[l]=(Q.take q).flatMap (bX N)++(N.take (b+1)).drop j0):=by
       unfold Hid;rw[bG];congr 1;rw[aF g1,dO (by rw[bR];omega),(aB.1 hl).2]
      have q8:(D.more ((Q.take q).flatMap (bX N)++(N.take b).drop j0) p).cells.length=e.cb i+(eO n N (Q.take q)).toNat+(b - j0):=by
       simp only[RD.more,aJ,aT,mB,bR];rw[t5.out,rM];omega
      have v9:(D.more ((Q.take q).flatMap (bX N)++(N.take b).drop j0) p).cells.length<=999999:=by
       have h9:=dS.num HG.out (aE _) (aE _) n;rw[rM] at h9 q8;have m4:Q.flatMap (bX N)=(Q.take q).flatMap (bX N)++(Q.drop q).flatMap (bX N):=by rw[<- eE,bV]
       rw[m4,aJ] at h9;have:=t5.out;omega
      have o4:=aO (aC5 l p B rb _ wr.drew (hM.below (Below.refl _ _).drew).wr_ (aR hB hM.fr.size) v9);rw[q8] at o4;have b8:=aO (hM.below (Below.refl _ _).drew);have B2:=aO g2;have g4:=aO h6;have g0:=aO h5;have p5:=aO h7;have a3:=aO (eJ.below m2 (Below.refl _ _).drew);have E0:Hid (i0<=a/\a<=nO):=⟨hP.i1,by rw[<- a9.out];exact hP.i2⟩;have B8:K.length<=1000000:=by rw[h7];simp;omega
      have W:Hid (wr.drew.cell? ⟨E,3,none⟩=some nv/\wr.drew.cell? ⟨lb,lo+b,none⟩=some (.string l)):=⟨c3,c2⟩;have k1:((k:Int) == (ml:Int))=false:=by simp;omega
      have E3:b<N.length:=g1;clear d7 b4 k9 k7 a8 hP hM g1 g2 h5 h6 h7 m2 y7 y8 q8 v9 n7 hl;generalize y4:e.cb i+(eO n N (Q.take q)).toNat+(b - j0)=cn at *;have A2:=aO y4;clear y4
      go_wp2_with fail
      refine dF (λw'=>w'.cell? ⟨E,3,none⟩=some nv/\w'.cell? ⟨lb,lo+b,none⟩=some (.string l)) 12 (by kernel_rfl) ?_;refine zt 0 (v:=?vA0) W.out (λw0 Y=>?hy) ?_
      case hy=>obtain⟨s1,s2⟩:=Y;go_simp;with_reducible rfl
      simp only[Act.put,aW];refine zt 1 (v:=?vA1) W.out (λw0 Y=>?hy) ?_
      case hy=>obtain⟨s1,s2⟩:=Y;go_simp;with_reducible rfl
      simp only[Act.put];refine zt 2 (v:=?vA2) W.out (λw0 Y=>?hy) ?_
      case hy=>obtain⟨s1,s2⟩:=Y;go_simp;with_reducible rfl
      simp only[Act.put];refine zt 3 (v:=?vA3) W.out (λw0 Y=>?hy) ?_
      case hy=>obtain⟨s1,s2⟩:=Y;go_simp;with_reducible rfl
      simp only[Act.put];refine zt 4 (v:=?vA4) W.out (λw0 Y=>?hy) ?_
      case hy=>obtain⟨s1,s2⟩:=Y;go_simp;with_reducible rfl
      simp only[Act.put];refine zt 5 (v:=?vA5) W.out (λw0 Y=>?hy) ?_
      case hy=>obtain⟨s1,s2⟩:=Y;go_simp;with_reducible rfl
      simp only[Act.put];refine zt 6 (v:=?vA6) W.out (λw0 Y=>?hy) ?_
      case hy=>obtain⟨s1,s2⟩:=Y;go_simp;with_reducible rfl
      simp only[Act.put];refine zt 7 (v:=?vA7) W.out (λw0 Y=>?hy) ?_
      case hy=>obtain⟨s1,s2⟩:=Y;go_simp;with_reducible rfl
      simp only[Act.put];refine bT 8 _ rfl (by kernel_rfl) (λKK hK=>?_);go_simp;refine o4.out.mono ?_;rintro r w5 ⟨rfl,o0,j9⟩;clear o4;dsimp only;have g9:=j9.held b8.out.wr_;have j4:w5.cell? ⟨E,3,none⟩=some nv/\w5.cell? ⟨lb,lo+b,none⟩=some (.string l):=by
       refine⟨(bN (g9.keep E 269 ⟨_,_,b8.out.hb_⟩ (by simp[cE])) 3).trans W.out.1,?_⟩;obtain⟨_,_,_,e5,-,hx⟩:=a3.out
       cases e5
       rcases hx with ⟨h0,-⟩|⟨b9,o9,e6,ht,-⟩
       ·cases h0
       ·cases e6
        exact(bN (g9.keep lb 9 ht (by simp[cE])) (lo+b)).trans W.out.2
      refine hK.out _ _ (λ_=>j4) ?_;clear hK;have u1:=aO j9;have v4:=aO o0;clear j9 o0;refine bT 9 _ rfl (by kernel_rfl) (λKK hK=>?_);go_simp;refine hK.out _ _ (λ_=>⟨bP _ j4.1,bP _ j4.2⟩) ?_;clear hK;refine bT 10 _ rfl (by kernel_rfl) (λKK hK=>?_);refine xU ei3 w5 _ (by rfl) _ _ (by rfl) wf.heap.size nv K.length (oO K) (by rfl) ?own #[.int .i64 cn] (.inl rfl) (by rfl) (by rfl) (kW [cn]) B8 (by decide) ?bas ?_
      case own=>exact lR b8.out.new λg hg=>g9.keep g 3 (dI b8.out.new hg) (by simp[cE])
      case bas=>exact aR b8.out.h2.size g9.size
      intro g cap w6 l8 r7 x0 q9;obtain⟨v7,p8⟩:=b8.out.come u1.out v4.out r7 l8 d6 (by omega);have m5:w6.cell? ⟨E,3,none⟩=some nv/\w6.cell? ⟨lb,lo+b,none⟩=some (.string l):=by
       refine⟨by simp[World.cell?,p8],?_⟩;have n6:lb<w5.heap.size/\nv.ownBlock≠some lb:=by
        obtain⟨_,_,_,e5,-,hx⟩:=a3.out
        cases e5
        rcases hx with ⟨h0,-⟩|⟨b9,o9,e6,ht,-⟩
        ·cases h0
        ·cases e6
         exact⟨bJ ht.lt g9.size,λe7=>ht.ne (dI b8.out.new e7) (by decide) rfl⟩
       exact(bN ((iH r7).block lb n6.1 (λe7=>n6.2 e7.symm)) (lo+b)).trans j4.2
      refine hK.out _ _ (λ_=>m5) ?_;clear hK;have u6:=aO v7;have E5:w6.frozen? ⟨E,3,none⟩=false:=by simp[World.frozen?,p8]
      have E4:=m5.1;have B3:=aO m5;have A5:Hid (HkS e i n S N Q Hs p B rb E D w w4 (w6.setCell ⟨E,3,none⟩ (.slice (some ⟨g,0,none⟩) (K.length+1) cap)) m (k+1) u16 true a (b+1)):=by
       refine⟨i0,j0,q,.slice (some ⟨g,0,none⟩) (K.length+1) cap,K++[cn],R,wf,B2.out,by simp;omega,?_,g0.out,g4.out,?_,h8⟩
       ·have:=u6.out;rw[RD.more_add,HY.out] at this;exact this
       ·rw[p5.out,show b+1 - j0=(b - j0)+1 by omega,vL,bF,cU,lA,A2.out]
      clear v7 p8 l8 r7 x0 q9 j4 m5 g9 u1 v4 b8 u6;refine bT 11 _ rfl (by kernel_rfl) (λKK hK=>?_);go_simp;refine hK.out _ _ (λ_=>B3.out) ?_;clear hK;refine bT 12 _ rfl (by kernel_rfl) (λKK hK=>?_);go_simp;refine hK.out _ _ (λh=>absurd rfl h) ?_;clear hK;refine fJ (by kernel_rfl) ?_ _;go_wp2
      go_roundw
      case rel=>exact⟨k+1,by go_num,.inl ⟨true,a,b+1,by omega,rfl,rfl,by go_num,A5⟩⟩
      case measure=>simp[intOf];omega
    ·go_wp2;go_ret;obtain⟨R,r1,r2,r3,r4,r5,r6⟩:=HF.out;refine⟨_,R,rfl,eJ.own r1,r2,r3,r4,?_,r6⟩;rw[oS Q Hs n HM.out,aC2];exact r5
section
variable {e:iA} {own:List ByteArray} {Pa:List PM} {D D':RD} {L:ByteArray->cL->Prop} {s:ByteArray->PL}
theorem aH1(x text:ByteArray)(i:cL)(n:Int)(Q:List dL)(Hs:List Hk)(r p B:Nat)(R:iD)(rb sb:Nat)(z:RS)(w:World)(hK:kC w rb D' e own Pa D)(hW:WR w B rb D')(hs:sE w sb z)(hS:iE e own Pa D L s z.abs)(hl:(s x).S.length<=40000)(hR:D'.repos[r]?=some R)(hk:(dR s x).isSome=true)(hf:aX R.F x=some text)(al:(s x).by_≠lF)
  (d2:((s x).S.map jO).Nodup) (hg:dS (aL (s x).S) (bM text) 0 0 Q) (hm:oJ (aM (s x).S) i n (bM text) Q Hs) (hn:0<=n) (c7:D'.cells.length=e.cb i+n.toNat) (hO:(aL (s x).S).length<=10000) (hN:(bM text).length<=10000) (hc:D'.cells.length<=900000) (d6:text.size<=100000) :
  Calls Tryz.prog 204 #[.pointer (some ⟨rb,0,none⟩),.int .i64 r,.pointer (some ⟨sb,0,none⟩),.string x,.int .i64 p] w λq w'=>∃(v:Value) (J:List zH),q=.returned (.agg #[.string x,.int .i64 2,.int .i64 (e.fi x (s x).by_),.int .i64 0,.slice none 0 0,.slice none 0 0,v])/\eJ w' 269 4 J.length v (J.flatMap eH)/\(∀h∈J,OkH w' h)/\J.length=Hs.length/\(∀(k:Nat) (h:Hk) (q:zH),Hs[k]?=some h->J[k]?=some q->zI e h q)/\WR w' B rb (D'.more ((Hs.flatMap (·.Br)).map (·.line)) p)/\hJ w w' rb:=by
 obtain⟨c8,b4⟩:=hS.last hK x;have b8:fil e x (s x).by_=(e.fi x (s x).by_:Nat):=by unfold fil;rw[if_neg al]
 rw[b8] at b4;have H1:Hid (∀u,Below w.heap.size w u->Calls Tryz.prog 239 #[.pointer (some ⟨rb,0,none⟩),.pointer (some ⟨sb,0,none⟩),.string x] u λq w'=>q=.returned (.int .i64 (e.fi x (s x).by_:Nat))/\Below u.heap.size u w'):=λu hu=>
  rI x _ rb sb D' z u (hK.below hu).wv (hs.below hu) c8 b4
 have H2:Hid (∀u,Below w.heap.size w u->Calls Tryz.prog 141 #[.pointer (some ⟨rb,0,none⟩),.int .i64 r,.string x] u λq w'=>q=.returned (.tuple #[.string text,.bool true])/\w'=u):=λu hu=>by
  have:=nA r R x rb u (hK.below hu).wv hR hK.rps.1 (hK.rps.2 R (aD hR)).1;rw[hf] at this;exact this
 have H3:Hid (∀u,Below w.heap.size w u->Calls Tryz.prog 142 #[.pointer (some ⟨rb,0,none⟩),.pointer (some ⟨sb,0,none⟩),.string x] u λq w'=>q=.returned (.tuple #[.string ((dR s x).getD ⟨#[]⟩),.bool true])/\Below u.heap.size u w'):=λu hu=>by
  have:=lL x rb sb z u (hK.below hu) (hs.below hu) hS hl;rw[hk] at this;exact this
 obtain⟨e8,a6⟩:=hS.row2 al;have e6:B<=w.heap.size:=aR hW.lo (iT hW.lt);have H4:Hid (∀u,Below w.heap.size w u->Calls Tryz.prog 242 #[.pointer (some ⟨rb,0,none⟩),.pointer (some ⟨sb,0,none⟩),.int .i64 (e.fi x (s x).by_:Nat),.string text,.int .i64 p] u λq w'=>∃(v:Value) (J:List zH),q=.returned v/\eJ w' 269 4 J.length v (J.flatMap eH)/\(∀h∈J,OkH w' h)/\J.length=Hs.length/\(∀(k:Nat) (h:Hk) (q:zH),Hs[k]?=some h->J[k]?=some q->zI e h q)/\WR w' B rb (D'.more ((Hs.flatMap (·.Br)).map (·.line)) p)/\hJ u w' rb):=λu hu=>
  aK5 e i n (s x).S text Q Hs p B rb sb _ D' z e8 u (hW.below hu) (aR e6 hu.size) (hs.below hu) a6 (λt ht=>(hS.cell x t ht).2.2) (sV (λt ht=>(hS.cell x t ht).1) d2) (λt ht=>(hS.cell x t ht).1.1) (λt ht=>by
   obtain⟨-,-,k,P,h1,-⟩:=(hS.cell x t ht).1;obtain⟨X,hX⟩:=hK.ext.cells
   exact⟨k,by rw[hX];exact kV h1⟩) hg hm hn c7 (by omega) hO hN hc d6
 have HW:=aO hW;clear hK hs hS hR hk hf al c8 b4 b8 a6 hg hm hn c7 hO hN hc d6 d2 hW;generalize (dR s x).getD ⟨#[]⟩=tx at *;generalize e.fi x (s x).by_=fx at *;have a4:Below w.heap.size w (w.alloc (.cells ch0 265)):=(Below.refl _ _).alloc (aA _) _;have b6:=aO (aH w (.cells ch0 265)).1;go_enter Tryz.func204,Tryz.ntmps204
 go_wp2_with (first|(go_at_call 239;refine(H1.out _ a4).mono ?_;rintro q w2 ⟨rfl,K⟩;have U:=a4.trans (K.mono a4.size))|(go_at_call 141;refine(H2.out _ U).mono ?_;rintro q w3 ⟨rfl,rfl⟩)|(go_at_call 142;refine(H3.out _ U).mono ?_;rintro q w4 ⟨rfl,V⟩;have I:=U.trans (V.mono U.size)))
 refine(H4.out _ (I.alloc I.size _)).mono ?_;rintro q w5 ⟨v,J,rfl,hv,d3,a5,hrel,d7,a8⟩;obtain⟨-,s3,s4,rfl,-⟩:=id hv;have b0:=(aH w4 (.cells #[.string x,.int .i64 2,.int .i64 (fx:Int),.int .i64 0,.slice none 0 0,.slice none 0 0,.slice none 0 0] 265)).1;have d5:(w4.alloc (.cells #[.string x,.int .i64 2,.int .i64 (fx:Int),.int .i64 0,.slice none 0 0,.slice none 0 0,.slice none 0 0] 265)).heap.size=w4.heap.size+1:=by simp
 have W:=K.trans (V.mono K.size);have a7:(w.alloc (.cells ch0 265)).heap.size=w.heap.size+1:=by simp
 have Z:=W.size;rw[a7] at Z;have b9:Below w4.heap.size w4 (w4.alloc (.cells #[.string x,.int .i64 2,.int .i64 (fx:Int),.int .i64 0,.slice none 0 0,.slice none 0 0,.slice none 0 0] 265)):=(Below.refl _ _).alloc (aA _) _;have d8:=HW.out.below (I.alloc I.size (.cells #[.string x,.int .i64 2,.int .i64 (fx:Int),.int .i64 0,.slice none 0 0,.slice none 0 0,.slice none 0 0] 265));have a9:=a8.held d8;have d4:w5.heap[w.heap.size]?=some (.cells ch0 265 (0,0)):=by
  have h1:(w4.alloc (.cells #[.string x,.int .i64 2,.int .i64 (fx:Int),.int .i64 0,.slice none 0 0,.slice none 0 0,.slice none 0 0] 265)).heap[w.heap.size]?=some (.cells ch0 265 (0,0)):=by
   rw[b9.block _ (by omega),W.block _ (by omega)];exact b6.out
  rw[a9.keep _ 265 ⟨_,_,h1⟩ (by simp[cE])];exact h1
 have Y:w5.heap[w4.heap.size]?=some (.cells #[.string x,.int .i64 2,.int .i64 (fx:Int),.int .i64 0,.slice none 0 0,.slice none 0 0,.slice none 0 0] 265 (0,0)):=by
  rw[a9.keep _ 265 ⟨_,_,b0⟩ (by simp[cE])];exact b0
 have d9:Hid (hJ w w5 rb):=(hJ.ofBelow (I.alloc I.size (.cells #[.string x,.int .i64 2,.int .i64 (fx:Int),.int .i64 0,.slice none 0 0,.slice none 0 0,.slice none 0 0] 265)) HW.out.lt).trans a8;have e5:=aO d7;have HV:=aO hv;have e3:=aO d3;have e0:=aO a5;have e4:=aO hrel;have e7:w.heap.size<w4.heap.size:=by omega
 clear b9 a7 Z W d5 b0 I U K V b6 a4 H1 H2 H3 H4 a8 d7 hv d3 a5 hrel a9 d8 HW;generalize w4.heap.size=cb at *;generalize d1:J.length=nS at *;have b7:=aO d1;clear d1;have E:(w5.setCell ⟨cb,6,none⟩ (.slice s3 nS s4)).heap[w.heap.size]?=some (.cells ch0 265 (0,0)):=(Below.heap_setCell _ _ _ _ (by simp;omega)).trans d4;have c9:=heap_setCell_same w5 cb 6 _ 265 (.slice s3 nS s4) Y;have d0:(w5.setCell ⟨cb,6,none⟩ (.slice s3 nS s4)).heap[cb]?=some (.cells #[.string x,.int .i64 2,.int .i64 (fx:Int),.int .i64 0,.slice none 0 0,.slice none 0 0,.slice s3 nS s4] 265 (0,0)):=c9;obtain⟨w9,b5⟩:∃w9,w9=(((((((w5.setCell ⟨cb,6,none⟩ (.slice s3 nS s4)).setCell ⟨w.heap.size,0,none⟩ (.string x)).setCell ⟨w.heap.size,1,none⟩ (.int .i64 2)).setCell ⟨w.heap.size,2,none⟩ (.int .i64 fx)).setCell ⟨w.heap.size,3,none⟩ (.int .i64 0)).setCell ⟨w.heap.size,4,none⟩ (.slice none 0 0)).setCell ⟨w.heap.size,5,none⟩ (.slice none 0 0)).setCell ⟨w.heap.size,6,none⟩ (.slice s3 nS s4):=⟨_,rfl⟩;obtain⟨e1,e2⟩:=zQ (w5.setCell ⟨cb,6,none⟩ (.slice s3 nS s4)) _ _ _ _ _ _ _ w9 w.heap.size 265 _ _ _ _ _ _ _ _ _ _ _ _ _ _ E rfl rfl rfl rfl rfl rfl rfl b5;have a0:Hid (WR w9 B rb (D'.more ((Hs.flatMap (·.Br)).map (·.line)) p)/\hJ w w9 rb/\bU (λt=>t≠265) w5 w9):=by
  obtain⟨a1,a2,a3⟩:=aAr e5.out d9.out ⟨_,_,Y⟩ (iT e7) (iN.set w5 cb 6 (.slice s3 nS s4));obtain⟨b1,b2,b3⟩:=aAr a1 a2 ⟨_,_,E⟩ (aA _) e2;exact⟨b1,b2,a3.trans b3⟩
 obtain⟨c0,c1,c2,c3,c4,c5,c6⟩:=kD Y;have f6:=eG Y 6;obtain⟨y0,y1,y2,y3,y4,y5,y6⟩:=kD d0;obtain⟨r0,r1,r2,r3,r4,r5,r6⟩:=kD E;have z0:=eG E 0;have z1:=eG E 1;have z2:=eG E 2;have z3:=eG E 3;have z4:=eG E 4;have z5:=eG E 5;have z6:=eG E 6;clear e2 Y c9 d0 d4 E;go_wp2;rw[<- b5];clear b5;refine bodyPost_ret (results_cell_row (p:=10) (ty:=265) (by kernel_rfl) _ _ w.heap.size 265 _ (0,0) _ rfl e1 Tryz.underlying265 rfl (by kernel_rfl)) rfl ?_;refine⟨_,J,rfl,?_,λh hh=>(e3.out h hh).held a0.out.2.2 (by decide) (by decide),by rw[b7.out];exact e0.out,e4.out,a0.out.1,a0.out.2.1⟩;rw[b7.out];exact eJ.held HV.out a0.out.2.2 (by decide)
end
end Go.Proofs.YtgdfipmdmgkidaaGreatDoor
