import Derived.Test.YtgdfipmdmgkidaaGreatDoorHcom
import Derived.Test.YtgdfipmdmgkidaaGreatDoorHsim
import Derived.Test.YtgdfipmdmgkidaaGreatDoorHfil
import Derived.Test.YtgdfipmdmgkidaaGreatDoorPgiven
import Derived.Test.YtgdfipmdmgkidaaGreatDoorAl
set_option linter.all false
set_option maxHeartbeats 6400000
set_option maxRecDepth 100000
namespace Go.Proofs.YtgdfipmdmgkidaaGreatDoor
open Go.RowKit
theorem Tryz.info255:(Tryz.prog.info? 255).map (λi=>(i.zero,i.size,i.bytes))=some (some (.agg #[.string ⟨#[]⟩,.int .i64 0]),2,24):=by kernel_rfl
theorem bAm:EI 189 255 2 24:=by
 obtain⟨i0,hi,z,E,I⟩:=info_parts Tryz.info255;exact⟨i0,_,Tryz.underlying189,hi,z,E,I,rfl,by decide⟩
theorem Tryz.info273:(Tryz.prog.info? 273).map (λi=>(i.zero,i.size,i.bytes))=some (some (.agg #[.int .i64 0,.bool false]),2,16):=by kernel_rfl
theorem bB0:EI 262 273 2 16:=by
 obtain⟨i0,hi,z,E,I⟩:=info_parts Tryz.info273;exact⟨i0,_,Tryz.underlying262,hi,z,E,I,rfl,by decide⟩
def RD.addCell(D:RD)(l:ByteArray)(p:Nat):RD:={ D with cells:=D.cells++[(l,p)] }
theorem aC5(l:ByteArray)(p B rb:Nat)(D:RD)(w:World)(h:WR w B rb D)(hB:B<=w.heap.size)(hc:D.cells.length<=999999):
  Calls Tryz.prog 240 #[.pointer (some ⟨rb,0,none⟩),.string l,.int .i64 p] w λr w'=>r=.returned (.int .i64 D.cells.length)/\WR w' B rb (D.addCell l p)/\hJ w w' rb:=by
 obtain⟨pv,cv,fv,sv,W,h1,h2,h3,h4⟩:=h.wb;have c1:w.cell? ⟨rb,1,none⟩=some cv:=by simp[World.cell?,W]
 have a0:=lt_of_block W;have ca:=bP (.cells #[.string l,.int .i64 p] 255) c1;obtain⟨Y,Z,rfl⟩:=bC h2;have HW:=aO h;have HB:=aO W;have H1:=aO h1;have I:=aO h2;have H3:=aO h3;have H4:=aO h4;clear h W h1 h2 h3 h4;generalize hn:D.cells.length=n at *;have HN:=aO hn;clear hn;go_enter Tryz.func240,Tryz.ntmps240
 go_wp2_with (at_builtin;refine jA bAm _ rfl _ _ rfl B _ _ _ rfl I.out #[.string l,.int .i64 p] rfl rfl (by simp[Value.oneCell']) (by omega) (by decide) hB ?_)
 intro g cap w2 E J K U;obtain⟨f1,f2⟩:=hJ.row HB.out (i:=1) (u:=.slice Y n Z) (v':=.slice (some ⟨g,0,none⟩) (n+1) cap) rfl I.out (by decide) J (λk hk=>by simp[Value.ownBlock] at hk;subst hk;exact K);have V:(Value.slice Y n Z).ownBlock≠some rb:=λe=>(dI I.out e).ne ⟨_,_,HB.out⟩ (by decide) rfl;have z:w2.heap[rb]?=some (.cells #[pv,.slice Y n Z,fv,sv] 192 (0,0)):=by rw[J.block rb (by simp;omega) (λe=>V e.symm),Below.heap_alloc _ _ _ a0];exact HB.out
 have F1:=aO f1;have hE:Hid (WR (w2.setCell ⟨rb,1,none⟩ (.slice (some ⟨g,0,none⟩) (n+1) cap)) B rb (D.addCell l p)):=by
  refine⟨HW.out.lo,⟨pv,.slice (some ⟨g,0,none⟩) (n+1) cap,fv,sv,f2,lW H1.out I.out (by decide) (by decide) z J,?_,lW H3.out I.out (by decide) (by decide) z J,lW H4.out I.out (by decide) (by decide) z J⟩⟩;have:=gO E z (o:=1) (u:=.slice (some ⟨g,0,none⟩) (n+1) cap) (by decide);unfold RD.addCell;rw[<- HN.out] at this ⊢;simpa using this
 have cw:w2.cell? ⟨rb,1,none⟩=some (.slice Y n Z):=by simp[World.cell?,z]
 have cf:w2.frozen? ⟨rb,1,none⟩=false:=by simp[World.frozen?,z]
 have cz:(w2.setCell ⟨rb,1,none⟩ (.slice (some ⟨g,0,none⟩) (n+1) cap)).cell? ⟨rb,1,none⟩=some (.slice (some ⟨g,0,none⟩) (n+1) cap):=by simp[World.cell?,f2]
 clear E J K U f1 f2 V z ca c1;go_wp2;go_ret;refine⟨fW ?_,hE.out,F1.out⟩;omega
theorem aG5(L:List (Nat×Bool))(v:Value)(sb:Nat)(z:RS)(w:World)(hs:sE w sb z)(hv:RI w v (L.map (·.1)))(U:∀n∈L,z.dead[n.1]?=some n.2)(hl:L.length<=900000):
  Calls Tryz.prog 241 #[.pointer (some ⟨sb,0,none⟩),v] w λr w'=>∃v',r=.returned v'/\w'.ownsRow w.heap.size 273 2 v' L.length (L.flatMap eN)/\Below w.heap.size w w':=by
 have HS:=aO hs;have HV:=aO hv;have HD:=aO U;obtain⟨va,vc,V,-,-⟩:=RI.each hv;rw[aT] at V;subst V;clear hs hv U;go_enter Tryz.func241,Tryz.ntmps241;go_wp2
 go_loopw [5,6] (λu i wr=>∃k:Nat,k<=L.length/\i=.int .i64 k/\wr.ownsRow w.heap.size 273 2 u k ((L.take k).flatMap eN)/\Below w.heap.size w wr) (λ_ i _=>L.length - (intOf i).toNat)
 case atStart=>exact⟨0,aE _,rfl,aK _ _ _ _,Below.refl _ _⟩
 case round=>
  obtain⟨k,hk,rfl,E,K⟩:=hrel;have a2:=K.size;by_cases Z:k<L.length
  ·obtain⟨⟨c,d⟩,hn⟩:∃n,L[k]?=some n:=⟨_,aC Z⟩;have U:=HD.out _ (aD hn);obtain⟨da,dc,q3,Y⟩:=(HS.out.below K).dead_;obtain⟨b3,o3,rfl,q4⟩:=Y c d U;have a4:c<z.dead.length:=(aB.1 U).1;obtain⟨_,_,V,-,W⟩:=RI.each (eJ.below HV.out K);rw[aT] at V
   cases V
   obtain⟨b2,o2,rfl,-,q2⟩:=W k c (by rw[aP,hn];rfl);have HT:Hid ((L.take (k+1)).flatMap eN=(L.take k).flatMap eN++[.int .i64 c,.bool d]):=by
    unfold Hid;rw[aF Z,eE,(aB.1 hn).2];simp
   clear Y W hn U;generalize z.dead.length=nd at *;generalize (L.take k).flatMap eN=X at *
   go_wp2_with fail
   go_region_law (refine aX5 bB0 wr (by rfl) _ _ (by rfl) w.heap.size _ k X (by rfl) E #[.int .i64 c,.bool d] (by rfl) (by rfl) (by simp[Value.oneCell']) (by omega) (by decide) a2 ?_;intro g cap w2 I hg a3 J)
   all_goals
    have a1:=J _ _ K (aA _);have a0:Hid (w2.ownsRow w.heap.size 273 2 (.slice (some ⟨g,0,none⟩) (k+1) cap) (k+1) ((L.take (k+1)).flatMap eN)):=by unfold Hid;rw[HT.out];exact I
    clear I hg J E K q2 q3 q4;go_wp2
    go_roundw
    case rel=>exact⟨k+1,by omega,by go_num,a0.out,a1⟩
    case measure=>simp[intOf];omega
  ·obtain rfl:k=L.length:=by omega
   rw[bD] at E;go_wp2;go_ret;exact⟨_,rfl,E,K⟩
theorem aPd{w w2:World}{B U sz E n Z:Nat}{t J:TypeId}{u v:Value}{K I:List Value}{o:Obj}(h:w.ownsRow B t sz v n K)(Y:w.ownsRow U J E u Z I)(z:t≠J)(W:(w.alloc o).grownBy w2 u.ownBlock):w2.ownsRow B t sz v n K:=by
 refine(h.alloc o).kept W ?_
 cases V:u.ownBlock with
 | none=>cases v.ownBlock<;>simp
 | some g=>exact .inr λe=>(dI h e).ne (dI Y V) z rfl
def RD.more(D:RD)(Y:List ByteArray)(p:Nat):RD:={ D with cells:=D.cells++Y.map λl=>(l,p) }
theorem RD.more_add(D:RD)(Y:List ByteArray)(p:Nat)(l:ByteArray):(D.more Y p).addCell l p=D.more (Y++[l]) p:=by simp[RD.more,RD.addCell]
theorem RD.more_nil(D:RD)(p:Nat):D.more [] p=D:=by simp[RD.more]
theorem Tryz.info269:(Tryz.prog.info? 269).map (λi=>(i.zero,i.size,i.bytes))=some (some (.agg #[.int .i64 0,.int .i64 0,.slice none 0 0,.slice none 0 0]),4,64):=by kernel_rfl
theorem aWw:EI 263 269 4 64:=by
 obtain⟨i0,hi,z,E,I⟩:=info_parts Tryz.info269;exact⟨i0,_,Tryz.underlying263,hi,z,E,I,rfl,by decide⟩
abbrev uM(t:TypeId):Prop:=cE t/\t≠269
theorem iH{w w2:World}{o:Obj}{z:Option Nat}(h:(w.alloc o).grownBy w2 z):w.grownBy w2 z:=⟨h.os,h.tape,h.output,by have:=h.size;simp at this;omega,λk E I=>(h.block k (by simp;omega) I).trans (Below.heap_alloc _ _ _ E)⟩
theorem gY(w:World)(g o:Nat)(u:Value):w.grownBy (w.setCell ⟨g,o,none⟩ u) (some g):=⟨rfl,rfl,rfl,by simp[World.setCell],λk _ z=>Below.heap_setCell _ _ _ _ (λe=>z (by rw[e]))⟩
theorem WR.grown{w w':World}{B rb:Nat}{D:RD}{E:Option Nat}(h:WR w B rb D)(z:w.grownBy w' E)(J:∀g,E=some g->∃t,TB w g t/\cE t):WR w' B rb D:=by
 cases E with
 | none=>exact h.below ⟨z.os,z.tape,z.output,z.size,λk I=>z.block k I (by simp)⟩
 | some g=>obtain⟨t,h1,h2⟩:=J g rfl;exact h.other z h1 h2
theorem hJ.grown{I w w':World}{B rb:Nat}{D:RD}{E:Option Nat}(h:hJ I w rb)(J:WR w B rb D)(z:w.grownBy w' E)(V:∀g,E=some g->I.heap.size<=g/\∃t,TB w g t/\cE t):hJ I w' rb:=by
 cases E with
 | none=>exact h.trans (hJ.ofBelow ⟨z.os,z.tape,z.output,z.size,λk U=>z.block k U (by simp)⟩ J.lt)
 | some g=>obtain⟨K,t,h1,h2⟩:=V g rfl;exact h.other J z h1 h2 K
theorem bU.grown{T:TypeId->Prop}{wf w w':World}{K:Option Nat}(h:bU T wf w)(J:w.grownBy w' K)(V:∀g,K=some g->wf.heap.size<=g\/∃t,TB w g t/\¬ T t):bU T wf w':=⟨aR h.size J.size,λg t z I=>by
 have h1:=h.keep g t z I;refine(J.block g (bJ z.lt h.size) λe=>?_).trans h1;rcases V g e.symm with h2|⟨W,h2,U⟩
 ·have:=z.lt;omega
 ·by_cases E:t=W
  ·subst E;exact U I
  ·exact(z.same h1).ne h2 E rfl⟩
theorem sE.held2{T:TypeId->Prop}{w w':World}{z:Nat}{s:RS}(h:sE w z s)(k:bU T w w')(t1:T 259)(t2:T 4)(W:T 25)(Y:T 3):sE w' z s:=by
 obtain⟨cv,J,rv,I,E,h1,h2,K,U⟩:=h.wb;exact⟨⟨cv,J,rv,I,by rw[k.keep z 259 ⟨_,_,E⟩ t1];exact E,h1.held k t2,h2.held k t2,K.held k W,U.held k t2⟩,λr V=>(h.ok r V).held k Y⟩
theorem OkH.held{T:TypeId->Prop}{w w':World}{h:zH}(z:OkH w h)(k:bU T w w')(t1:T 273)(t2:T 3):OkH w' h:=⟨z.1.held k t1,z.2.held k t2⟩
structure HkM (w w1 wf wr:World) (B rb hb:Nat) (D:RD) (A:Int) (nv ov:Value) (K:List Nat) (R:List zH):Prop where
 fr:hJ w wr rb
 wr_:WR wr B rb D
 h1:bU uM w1 wf
 h2:bU uM wf wr
 hb_:wr.heap[hb]?=some (.cells #[.int .i64 A,.int .i64 (-1),.slice none 0 0,nv] 269 (0,0))
 new:wr.ownsRow wf.heap.size 3 1 nv K.length (oO K)
 out:wr.ownsRow w1.heap.size 269 4 ov R.length (R.flatMap eH)
 ok:∀h∈R,OkH wf h
theorem lR{w w':World}{B n size:Nat}{e:TypeId}{v:Value}{E:List Value}(h:w.ownsRow B e size v n E)(hs:∀g,v.ownBlock=some g->w'.heap[g]?=w.heap[g]?):w'.ownsRow B e size v n E:=by
 refine⟨h.1,?_⟩;rcases h.2 with h2|⟨g,cap,z,rfl,I,J,r⟩
 ·exact .inl h2
 ·exact .inr ⟨g,cap,z,rfl,I,(hs g rfl).trans J,r⟩
theorem HkM.below{w J wf wr w':World}{B rb E:Nat}{D:RD}{A:Int}{nv I:Value}{K:List Nat}{R:List zH}(h:HkM w J wf wr B rb E D A nv I K R)(z:Below wr.heap.size wr w'):HkM w J wf w' B rb E D A nv I K R:=
 ⟨h.fr.trans (hJ.ofBelow z h.wr_.lt),h.wr_.below z,h.h1,h.h2.trans (bU.of_below z),(z.block E (lt_of_block h.hb_)).trans h.hb_,bQ h.new z (aA _),bQ h.out z (aA _),h.ok⟩
theorem HkM.conv{w J wf wr:World}{B rb E:Nat}{D D':RD}{A z:Int}{nv I:Value}{K:List Nat}{R:List zH}(h:HkM w J wf wr B rb E D A nv I K R)(V:D=D')(U:A=z):HkM w J wf wr B rb E D' z nv I K R:=V▸U▸h
theorem HkM.come{w w1 wf wr Z V:World}{B rb E g cap c:Nat}{D D':RD}{A:Int}{nv ov:Value}{K:List Nat}{R:List zH}{o:Obj}(h:HkM w w1 wf wr B rb E D A nv ov K R)(hf:hJ wr Z rb)(hr:WR Z B rb D')(W:(Z.alloc o).grownBy V nv.ownBlock)(ho:V.ownsRow wf.heap.size 3 1 (.slice (some ⟨g,0,none⟩) (K.length+1) cap) (K.length+1) (oO K++[.int .i64 c]))(a3:w.heap.size<=E/\E<w1.heap.size)(a5:w.heap.size<=w1.heap.size):
  HkM w w1 wf (V.setCell ⟨E,3,none⟩ (.slice (some ⟨g,0,none⟩) (K.length+1) cap)) B rb E D' A (.slice (some ⟨g,0,none⟩) (K.length+1) cap) ov (K++[c]) R/\V.heap[E]?=some (.cells #[.int .i64 A,.int .i64 (-1),.slice none 0 0,nv] 269 (0,0)):=by
 have hh:=hf.held h.wr_;have W:=iH W;have Y:Z.ownsRow wf.heap.size 3 1 nv K.length (oO K):=lR h.new λk z=>hh.keep k 3 (dI h.new z) (by simp[cE]);have I:∀k,nv.ownBlock=some k->wf.heap.size<=k/\TB Z k 3:=λk z=>⟨(h.new.lt k z).1,dI Y z⟩;have a4:w.heap.size<=wf.heap.size:=aR a5 h.h1.size;have h5:Z.heap[E]?=some (.cells #[.int .i64 A,.int .i64 (-1),.slice none 0 0,nv] 269 (0,0)):=(hh.keep E 269 ⟨_,_,h.hb_⟩ (by simp[cE])).trans h.hb_;have h6:V.heap[E]?=some (.cells #[.int .i64 A,.int .i64 (-1),.slice none 0 0,nv] 269 (0,0)):=(W.block E (lt_of_block h5) (λe=>(I E e.symm).2.ne ⟨_,_,h5⟩ (by decide) rfl)).trans h5;have a1:hJ w V rb:=(h.fr.trans hf).grown hr W λk z=>⟨aR a4 (I k z).1,3,(I k z).2,by simp[cE]⟩;have a0:WR V B rb D':=hr.grown W λk z=>⟨3,(I k z).2,by simp[cE]⟩;have gs:=gY V E 3 (.slice (some ⟨g,0,none⟩) (K.length+1) cap);have J:Z.ownsRow w1.heap.size 269 4 ov R.length (R.flatMap eH):=lR h.out λk z=>hh.keep k 269 (dI h.out z) (by simp[cE])
 have U:V.ownsRow w1.heap.size 269 4 ov R.length (R.flatMap eH):=J.kept W (by
  cases a2:nv.ownBlock with
  | none=>cases ov.ownBlock<;>simp
  | some g'=>exact .inr λe=>(dI J e).ne (I g' a2).2 (by decide) rfl)
 refine⟨⟨a1.grown a0 gs λk z=>?_,a0.grown gs λk z=>?_,h.h1,?_,heap_setCell_same V E 3 _ 269 _ h6,?_,?_,h.ok⟩,h6⟩
 ·cases z;exact⟨a3.1,269,⟨_,_,h6⟩,by simp[cE]⟩
 ·cases z;exact⟨269,⟨_,_,h6⟩,by simp[cE]⟩
 ·refine bU.grown (bU.grown (h.h2.trans (hh.mono λt ht=>ht.1)) W λk z=>.inl (I k z).1) gs λk z=>?_
  cases z
  exact .inr ⟨269,⟨_,_,h6⟩,by simp[uM]⟩
 ·have:=gO ho h6 (o:=3) (u:=.slice (some ⟨g,0,none⟩) (K.length+1) cap) (by decide);simpa[oO] using this
 ·exact U.kept gs (.inr λe=>by have:=(U.lt E e).1;omega)
def tM(e:iA)(Hs:List Hk)(R:List zH):Prop:=∀(k:Nat) (h:Hk) (q:zH),Hs[k]?=some h->R[k]?=some q->zI e h q
theorem tM.snoc{e:iA}{E:List Hk}{R:List zH}(h:tM e E R){q:zH}(U:∀x,E[R.length]?=some x->zI e x q):tM e E (R++[q]):=λk x y J z=>by
 by_cases K:k<R.length
 ·rw[aZ K] at z;exact h k x y J z
 ·have I:k=R.length:=by
   have:=(aB.1 z).1;simp at this;omega
  subst I;rw[bH (aA _),jQ] at z
  cases z
  exact U x J
def HkS(e:iA)(id:cL)(n:Int)(S:List aU)(N:List ByteArray)(Q:List dL)(Hs:List Hk)(p B rb hb:Nat)(D:RD)(w w1 wr:World)(m:List Nat)(k:Nat)(ov:Value)(sm:Bool)(i j:Nat):Prop:=
 ∃i0 j0 q nv K R wf,HkP (aL S) N Q m k i j i0 j0 q/\sm=decide (i0<i\/j0<j)/\HkM w w1 wf wr B rb hb (D.more ((Q.take q).flatMap (bX N)++(N.take j).drop j0) p) (edA e S i0) nv ov K R/\R.length=q/\tM e Hs R/\K=(List.range (j - j0)).map (λt=>e.cb id+(eO n N (Q.take q)).toNat+t)/\q<=Q.length
theorem rM(N:List ByteArray):∀(Q:List dL) (n:Int),eO n N Q=n+(Q.flatMap (bX N)).length
 | [],n=>by simp[eO]
 | q::Q,n=>by rw[eO,rM N Q,bL,aJ];omega
theorem aQq{e:iA}{id:cL}{n:Int}{S:List aU}{N:List ByteArray}{Q:List dL}{W:List Hk}{dead:List Bool}{i j i0 z q:Nat}{R:List dL}(hn:0<=n)(V:∀t∈S,0<=t.num)(hd:∀t∈S,dead[fI e t]?=some (!t.alive))(hm:oJ (aM S) id n N Q W)(hq:Q.drop q=fA i0 i z j++R)(hs:i0<i\/z<j)(h1:i0<=i)(h2:i<=(aL S).length)(h3:z<=j)(h4:j<=N.length):
  (∃X M Z,S=X++(M++Z)/\aYw dead (X.map (fI e)) (edA e S i0)/\aYx dead (Z.map (fI e)) (edB e S i)/\∀rv nv,∀x,W[q]?=some x->zI e x ⟨edA e S i0,edB e S i,rv,M.map (sC e),nv,(List.range (j - z)).map (λt=>e.cb id+(eO n N (Q.take q)).toNat+t)⟩)/\Q[q]?=some ⟨i0,i,z,j⟩/\q<Q.length:=by
 have hg:fA i0 i z j=[⟨i0,i,z,j⟩]:=by unfold fA;rw[if_pos hs]
 have U:Q[q]?=some ⟨i0,i,z,j⟩:=by rw[<- List.head?_drop,hq,hg];rfl
 obtain⟨X,M,Z,a,b,I,e2,e3,e4,e5,e6,J,K⟩:=aRt e V (q:=⟨i0,i,z,j⟩) h1 h2;refine⟨⟨X,M,Z,I,?_,?_,λrv nv x hx=>?_⟩,U,(aB.1 U).1⟩
 ·rcases e3 with ⟨rfl,rfl⟩|⟨X',rfl⟩
  ·exact .inl ⟨by rw[<- J];rfl,rfl⟩
  ·have Y:a∈S:=by rw[I];simp
   refine .inr ⟨X'.map (fI e),fI e a,by simp,by rw[<- J,qZ (V a Y)],?_⟩;rw[hd a Y,e5];rfl
 ·rcases e4 with ⟨rfl,rfl⟩|⟨Z',rfl⟩
  ·exact .inl ⟨by rw[<- K];rfl,rfl⟩
  ·have hb:b∈S:=by rw[I];simp
   refine .inr ⟨fI e b,Z'.map (fI e),by simp,by rw[<- K,qZ (V b hb)],?_⟩;rw[hd b hb,e6];rfl
 ·obtain⟨q',E,n1,n2⟩:=hm.2 q x hx;rw[U] at E
  cases E
  refine⟨a,M,b,by rw[n1,e2],J.symm,K.symm,rfl,?_⟩;rw[n2,aIv e id _ (by rw[rM];omega)];have:(bX N ⟨i0,i,z,j⟩).length=j - z:=by simp[bX];omega
  rw[this]
def HkF(e:iA)(N:List ByteArray)(Q:List dL)(Hs:List Hk)(p B rb:Nat)(D:RD)(w w1 wr:World)(ov:Value):Prop:=
 ∃R:List zH,wr.ownsRow w1.heap.size 269 4 ov R.length (R.flatMap eH)/\(∀h∈R,OkH wr h)/\R.length=Hs.length/\tM e Hs R/\WR wr B rb (D.more (Q.flatMap (bX N)) p)/\hJ w wr rb
def HkC(e:iA)(Hs:List Hk)(B rb hb q:Nat)(D:RD)(w w1 wr:World)(ov:Value):Prop:=
 ∃R:List zH,bU uM w1 wr/\hJ w wr rb/\WR wr B rb D/\(∃c:Array Value,c.size=4/\wr.heap[hb]?=some (.cells c 269 (0,0)))/\wr.ownsRow w1.heap.size 269 4 ov R.length (R.flatMap eH)/\(∀h∈R,OkH wr h)/\R.length=q/\tM e Hs R
theorem HkM.rest{w J wf wr:World}{B rb E:Nat}{D:RD}{A:Int}{nv I:Value}{K:List Nat}{R:List zH}{e:iA}{z:List Hk}(h:HkM w J wf wr B rb E D A nv I K R)(U:tM e z R):HkC e z B rb E R.length D w J wr I:=
 ⟨R,h.h1.trans h.h2,h.fr,h.wr_,⟨_,rfl,h.hb_⟩,h.out,λx V=>(h.ok x V).held h.h2 (by simp[uM,cE]) (by simp[uM,cE]),rfl,U⟩
theorem aW4{w:World}{g:Nat}{c:Array Value}{t:TypeId}(h:w.heap[g]?=some (.cells c t (0,0)))(z:c.size=4)(I J K U:Value):
  ((((w.setCell ⟨g,0,none⟩ I).setCell ⟨g,1,none⟩ J).setCell ⟨g,2,none⟩ K).setCell ⟨g,3,none⟩ U).heap[g]?=some (.cells #[I,J,K,U] t (0,0))/\w.grownBy ((((w.setCell ⟨g,0,none⟩ I).setCell ⟨g,1,none⟩ J).setCell ⟨g,2,none⟩ K).setCell ⟨g,3,none⟩ U) (some g):=by
 refine⟨?_,rfl,rfl,rfl,by simp[World.setCell],λk _ V=>?_⟩
 ·rw[heap_setCell_same _ g 3 _ t _ (heap_setCell_same _ g 2 _ t _ (heap_setCell_same _ g 1 _ t _ (heap_setCell_same _ g 0 _ t _ h)))];congr 2;apply Array.ext
  ·simp[z]
  ·intro k h1 h2;simp at h1 h2
   match k,h2 with
   | 0,_=>simp[z,nR]
   | 1,_=>simp[z,nR]
   | 2,_=>simp[z,nR]
   | 3,_=>simp[z,nR]
 ·have E:k≠g:=λe=>V (by rw[e]);rw[Below.heap_setCell _ _ _ _ E,Below.heap_setCell _ _ _ _ E,Below.heap_setCell _ _ _ _ E,Below.heap_setCell _ _ _ _ E]
theorem HkC.next{e:iA}{V:List Hk}{B rb z q:Nat}{D:RD}{w U wr w':World}{ov:Value}{A:Int}(h:HkC e V B rb z q D w U wr ov)(I:wr.grownBy w' (some z))(h1:w'.heap[z]?=some (.cells #[.int .i64 A,.int .i64 (-1),.slice none 0 0,.slice none 0 0] 269 (0,0)))(K:w.heap.size<=z/\z<U.heap.size):
  ∃R,HkM w U w' w' B rb z D A (.slice none 0 0) ov [] R/\R.length=q/\tM e V R:=by
 obtain⟨R,c1,c2,W,⟨c,-,J⟩,Y,c6,c7,c8⟩:=h;have Z:bU uM wr w':=bU.of_grown I λk E=>by cases E;exact⟨269,⟨_,_,J⟩,by simp[uM]⟩
 refine⟨R,⟨c2.grown W I λk E=>?_,W.grown I λk E=>?_,c1.trans Z,bU.refl _,h1,aK _ _ _ _,Y.kept I (.inr λe=>by have:=(Y.lt z e).1;omega),λx hx=>(c6 x hx).held Z (by simp[uM,cE]) (by simp[uM,cE])⟩,c7,c8⟩
 ·cases E;exact⟨K.1,269,⟨_,_,J⟩,by simp[cE]⟩
 ·cases E;exact⟨269,⟨_,_,J⟩,by simp[cE]⟩
theorem HkM.close{w w1 wf wr wb wc Y:World}{B rb z g cap:Nat}{D:RD}{A b:Int}{nv ov rv:Value}{K:List Nat}{R:List zH}{e:iA}{Hs:List Hk}{run:List (Nat×Bool)}(h:HkM w w1 wf wr B rb z D A nv ov K R)(hr:tM e Hs R)(a6:w.heap.size<=z/\z<w1.heap.size)(b0:w.heap.size<=w1.heap.size)
  (a1:Below wr.heap.size (wr.setCell ⟨z,1,none⟩ (.int .i64 b)) wb) (a9:wb.ownsRow wr.heap.size 273 2 rv run.length (run.flatMap eN)) (a2:wc=wb.setCell ⟨z,2,none⟩ rv)
  (Z:(wc.alloc (.cells #[.int .i64 A,.int .i64 b,rv,nv] 269)).grownBy Y ov.ownBlock) (ho:Y.ownsRow w1.heap.size 269 4 (.slice (some ⟨g,0,none⟩) (R.length+1) cap) (R.length+1) (R.flatMap eH++[.int .i64 A,.int .i64 b,rv,nv])) (hq:∀x,Hs[R.length]?=some x->zI e x ⟨A,b,rv,run,nv,K⟩) :
  HkC e Hs B rb z (R.length+1) D w w1 Y (.slice (some ⟨g,0,none⟩) (R.length+1) cap):=by
 have g1:=gY wr z 1 (.int .i64 b);have t1:=heap_setCell_same wr z 1 _ 269 (.int .i64 b) h.hb_;have a0:(wr.setCell ⟨z,1,none⟩ (.int .i64 b)).heap.size=wr.heap.size:=by simp[World.setCell]
 generalize wr.setCell ⟨z,1,none⟩ (.int .i64 b)=wa at *;have b1:=a1.size;have E:Below wa.heap.size wa wb:=by rw[a0];exact a1
 have t2:wb.heap[z]?=_:=(E.block z (lt_of_block t1)).trans t1;have g2:=gY wb z 2 rv;rw[<- a2] at g2;have t3:=heap_setCell_same wb z 2 _ 269 rv t2;rw[<- a2] at t3;have Z:=iH Z;have U:∀{u:World} {c:Array Value},u.heap[z]?=some (.cells c 269 (0,0))->∀k,some z=some k->∃t,TB u k t/\¬ uM t:=λhu k I=>by cases I;exact⟨269,⟨_,_,hu⟩,by simp[uM]⟩
 have J:∀{u:World} {c:Array Value},u.heap[z]?=some (.cells c 269 (0,0))->∀k,some z=some k->∃t,TB u k t/\cE t:=λhu k I=>by cases I;exact⟨269,⟨_,_,hu⟩,by simp[cE]⟩
 have V:∀{u:World} {c:Array Value},u.heap[z]?=some (.cells c 269 (0,0))->∀k,some z=some k->w.heap.size<=k/\∃t,TB u k t/\cE t:=λhu k I=>⟨by cases I;exact a6.1,J hu k I⟩
 -- the world's own
 have a3:=h.wr_.grown g1 (J h.hb_);have a4:=a3.below E;have a5:=a4.grown g2 (J t2);have fa:=h.fr.grown h.wr_ g1 (V h.hb_);have fb:=fa.trans (hJ.ofBelow E a3.lt);have fc:=fb.grown a4 g2 (V t2)
 -- what stays
 have ha:bU uM wr wa:=bU.of_grown g1 (U h.hb_);have hb_:bU uM wa wb:=bU.of_below E;have hc:bU uM wb wc:=bU.of_grown g2 (U t2);have W:=(ha.trans hb_).trans hc
 -- the hunks
 have oa:=h.out.kept g1 (.inr λe=>by have:=(h.out.lt z e).1;omega);have ob:=bQ oa E (aA _);have oc:=ob.kept g2 (.inr λe=>by have:=(ob.lt z e).1;omega);have ot:∀k,ov.ownBlock=some k->w1.heap.size<=k/\TB wc k 269:=λk I=>⟨(oc.lt k I).1,dI oc I⟩;have h9:bU uM wc Y:=bU.of_grown Z λk I=>⟨269,(ot k I).2,by simp[uM]⟩;have t9:Y.heap[z]?=_:=(Z.block z (lt_of_block t3) (λe=>by have:=(ot z e.symm).1;omega)).trans t3;have a8:eJ Y 273 2 run.length rv (run.flatMap eN):=(eJ.held (eJ.own a9) hc (by simp[uM,cE])).held h9 (by simp[uM,cE]);have a7:RI Y nv K:=(eJ.held (eJ.own h.new) W (by simp[uM,cE])).held h9 (by simp[uM,cE]);refine⟨R++[⟨A,b,rv,run,nv,K⟩],(((h.h1.trans h.h2).trans W).trans h9),fc.grown a5 Z λk I=>⟨aR b0 (ot k I).1,269,(ot k I).2,by simp[cE]⟩,a5.grown Z λk I=>⟨269,(ot k I).2,by simp[cE]⟩,⟨_,?_,t9⟩,?_,λx hx=>?_,by simp,hr.snoc hq⟩
 ·simp
 ·simpa using ho
 ·rcases aG.1 hx with hx|hx
  ·exact(((h.ok x hx).held h.h2 (by simp[uM,cE]) (by simp[uM,cE])).held W (by simp[uM,cE]) (by simp[uM,cE])).held h9 (by simp[uM,cE]) (by simp[uM,cE])
  ·obtain rfl:x=_:=by simpa using hx
   exact⟨a8,a7⟩
theorem aX7{N:List ByteArray}{Q R:List dL}{q a b i0 z:Nat}(h:Q.drop q=fA i0 a z b++R)(K:q<=Q.length)(h1:i0<=a)(h2:z<=b):(Q.take q).flatMap (bX N)++(N.take b).drop z=(Q.take (q+(fA i0 a z b).length)).flatMap (bX N)/\q+(fA i0 a z b).length<=Q.length/\(R=[]->Q.take (q+(fA i0 a z b).length)=Q):=by
 have E:Q=Q.take q++(fA i0 a z b++R):=by rw[<- h,bV]
 have I:Q.take (q+(fA i0 a z b).length)=Q.take q++fA i0 a z b:=by
  rw[List.take_add,h,List.take_left]
 refine⟨?_,?_,λJ=>?_⟩
 ·rw[I,eE];congr 1;unfold fA;by_cases hs:i0<a\/z<b
  ·rw[if_pos hs];simp[bX]
  ·rw[if_neg hs];have:z=b:=by omega
   subst this;simp
 ·have:=congrArg List.length h;rw[mB,aJ] at this;omega
 ·rw[I];rw[J,cR] at E;exact E.symm
theorem aWv{e:iA}{S:List aU}{a:Nat}:edA e S (a+1)=edB e S a:=by unfold edA edB;rw[if_neg (by omega)];rfl
theorem Tryz.info261:(Tryz.prog.info? 261).map (λi=>(i.zero,i.size,i.bytes))=some (some (.agg #[.string ⟨#[]⟩,.int .i64 0]),2,24):=by kernel_rfl
theorem bAn:EI 190 261 2 24:=by
 obtain⟨i0,hi,z,E,I⟩:=info_parts Tryz.info261;exact⟨i0,_,by kernel_rfl,hi,z,E,I,rfl,by decide⟩
theorem Tryz.info195:(Tryz.prog.info? 195).map (λi=>(i.zero,i.size,i.bytes))=some (some (.agg #[.string ⟨#[]⟩,.slice none 0 0]),2,40):=by kernel_rfl
theorem bAl:EI 188 195 2 40:=by
 obtain⟨i0,hi,z,E,I⟩:=info_parts Tryz.info195;exact⟨i0,_,by kernel_rfl,hi,z,E,I,rfl,by decide⟩
def RD.addFile(D:RD)(x:ByteArray)(p:Nat):RD:={ D with files:=D.files++[(x,p)] }
def RD.addPt(D:RD)(P:RPt):RD:={ D with pts:=D.pts++[P] }
section
variable {w w2:World} {B rb:Nat} {D:RD} {o:Obj}
theorem WR.blk{c:Array Value}{t:TypeId}{sz n:Nat}{u:Value}{V:List Value}(z:w.heap[rb]?=some (.cells c 192 (0,0)))(U:w.ownsRow B t sz u n V)(K:t≠192)(J:(w.alloc o).grownBy w2 u.ownBlock):w2.heap[rb]?=some (.cells c 192 (0,0)):=by
 have I:=lt_of_block z;have E:u.ownBlock≠some rb:=λe=>(dI U e).ne ⟨_,_,z⟩ K rfl;rw[J.block rb (by simp;omega) (λe=>E e.symm),Below.heap_alloc _ _ _ I];exact z
theorem WR.put_file{pv cv E U:Value}(hB:B<=rb)(W:w.heap[rb]?=some (.cells #[pv,cv,E,U] 192 (0,0)))(h1:w.ownsRow B 195 2 pv D.pts.length (D.pts.flatMap eP))(h2:w.ownsRow B 255 2 cv D.cells.length (D.cells.flatMap eL))(I:w.ownsRow B 261 2 E D.files.length (D.files.flatMap eL))(Z:w.ownsRow B 205 3 U D.repos.length (D.repos.flatMap eR))
  {g cap p:Nat} {x:ByteArray} (J:(w.alloc o).grownBy w2 E.ownBlock) (K:w2.ownsRow B 261 2 (.slice (some ⟨g,0,none⟩) (D.files.length+1) cap) (D.files.length+1) (D.files.flatMap eL++[.string x,.int .i64 p])) (V:E.ownBlock=some g\/w.heap.size<=g) :
  WR (w2.setCell ⟨rb,2,none⟩ (.slice (some ⟨g,0,none⟩) (D.files.length+1) cap)) B rb (D.addFile x p)/\hJ w (w2.setCell ⟨rb,2,none⟩ (.slice (some ⟨g,0,none⟩) (D.files.length+1) cap)) rb/\w2.heap[rb]?=some (.cells #[pv,cv,E,U] 192 (0,0))/\(w2.setCell ⟨rb,2,none⟩ (.slice (some ⟨g,0,none⟩) (D.files.length+1) cap)).heap[rb]?=some (.cells #[pv,cv,.slice (some ⟨g,0,none⟩) (D.files.length+1) cap,U] 192 (0,0)):=by
 obtain⟨f1,f2⟩:=hJ.row W (i:=2) (u:=E) (v':=.slice (some ⟨g,0,none⟩) (D.files.length+1) cap) rfl I (by decide) J (λk Y=>by simp[Value.ownBlock] at Y;subst Y;exact V);have z:=WR.blk W I (by decide) J;refine⟨⟨hB,⟨pv,cv,.slice (some ⟨g,0,none⟩) (D.files.length+1) cap,U,f2,lW h1 I (by decide) (by decide) z J,lW h2 I (by decide) (by decide) z J,?_,lW Z I (by decide) (by decide) z J⟩⟩,f1,z,f2⟩;have:=gO K z (o:=2) (u:=.slice (some ⟨g,0,none⟩) (D.files.length+1) cap) (by decide);unfold RD.addFile;simpa[eL] using this
theorem WR.put_pt{pv cv J K:Value}(hB:B<=rb)(V:w.heap[rb]?=some (.cells #[pv,cv,J,K] 192 (0,0)))(h1:w.ownsRow B 195 2 pv D.pts.length (D.pts.flatMap eP))(h2:w.ownsRow B 255 2 cv D.cells.length (D.cells.flatMap eL))(Y:w.ownsRow B 261 2 J D.files.length (D.files.flatMap eL))(Z:w.ownsRow B 205 3 K D.repos.length (D.repos.flatMap eR))
  {g cap:Nat} {P:RPt} (E:(w.alloc o).grownBy w2 pv.ownBlock) (I:w2.ownsRow B 195 2 (.slice (some ⟨g,0,none⟩) (D.pts.length+1) cap) (D.pts.length+1) (D.pts.flatMap eP++eP P)) (U:pv.ownBlock=some g\/w.heap.size<=g) :
  WR (w2.setCell ⟨rb,0,none⟩ (.slice (some ⟨g,0,none⟩) (D.pts.length+1) cap)) B rb (D.addPt P)/\hJ w (w2.setCell ⟨rb,0,none⟩ (.slice (some ⟨g,0,none⟩) (D.pts.length+1) cap)) rb/\w2.heap[rb]?=some (.cells #[pv,cv,J,K] 192 (0,0)):=by
 obtain⟨f1,f2⟩:=hJ.row V (i:=0) (u:=pv) (v':=.slice (some ⟨g,0,none⟩) (D.pts.length+1) cap) rfl h1 (by decide) E (λk W=>by simp[Value.ownBlock] at W;subst W;exact U);have z:=WR.blk V h1 (by decide) E;refine⟨⟨hB,⟨.slice (some ⟨g,0,none⟩) (D.pts.length+1) cap,cv,J,K,f2,?_,lW h2 h1 (by decide) (by decide) z E,lW Y h1 (by decide) (by decide) z E,lW Z h1 (by decide) (by decide) z E⟩⟩,f1,z⟩;have:=gO I z (o:=0) (u:=.slice (some ⟨g,0,none⟩) (D.pts.length+1) cap) (by decide);unfold RD.addPt;simpa using this
theorem aQk(w:World)(o:Obj):(w.alloc o).drew=w.drew.alloc o:=rfl
end
theorem zQ(w Y w2 Z w4 w5 w6 w7 w9:World)(g:Nat)(t:TypeId)(y0 y1 y2 y3 y4 y5 y6 z E I J K U V:Value)(hg:w.heap[g]?=some (.cells #[y0,y1,y2,y3,y4,y5,y6] t (0,0)))
  (e1:Y=w.setCell ⟨g,0,none⟩ z) (e2:w2=Y.setCell ⟨g,1,none⟩ E) (e3:Z=w2.setCell ⟨g,2,none⟩ I) (e4:w4=Z.setCell ⟨g,3,none⟩ J) (e5:w5=w4.setCell ⟨g,4,none⟩ K) (e6:w6=w5.setCell ⟨g,5,none⟩ U) (e7:w7=w6.setCell ⟨g,6,none⟩ V) (e9:w9=w7) :
  w9.heap[g]?=some (.cells #[z,E,I,J,K,U,V] t (0,0))/\iN g w w9:=by
 have g1:=heap_setCell_same w g 0 _ t z hg;have o1:=iN.set w g 0 z;rw[<- e1] at g1 o1;have g2:=heap_setCell_same Y g 1 _ t E g1;have o2:=o1.trans (iN.set Y g 1 E);rw[<- e2] at g2 o2;have g3:=heap_setCell_same w2 g 2 _ t I g2;have o3:=o2.trans (iN.set w2 g 2 I);rw[<- e3] at g3 o3;have g4:=heap_setCell_same Z g 3 _ t J g3;have o4:=o3.trans (iN.set Z g 3 J);rw[<- e4] at g4 o4;have g5:=heap_setCell_same w4 g 4 _ t K g4;have o5:=o4.trans (iN.set w4 g 4 K);rw[<- e5] at g5 o5;have g6:=heap_setCell_same w5 g 5 _ t U g5;have o6:=o5.trans (iN.set w5 g 5 U);rw[<- e6] at g6 o6;have W:=heap_setCell_same w6 g 6 _ t V g6;have o7:=o6.trans (iN.set w6 g 6 V);rw[<- e7] at W o7;replace W:w7.heap[g]?=some (.cells #[z,E,I,J,K,U,V] t (0,0)):=W;rw[e9];exact⟨W,o7⟩
theorem kD{w:World}{g:Nat}{z E I J K U V:Value}{t:TypeId}{f:Nat×Nat}(h:w.heap[g]?=some (.cells #[z,E,I,J,K,U,V] t f)):w.cell? ⟨g,0,none⟩=some z/\w.cell? ⟨g,1,none⟩=some E/\w.cell? ⟨g,2,none⟩=some I/\w.cell? ⟨g,3,none⟩=some J/\w.cell? ⟨g,4,none⟩=some K/\w.cell? ⟨g,5,none⟩=some U/\w.cell? ⟨g,6,none⟩=some V:=by
 refine⟨?_,?_,?_,?_,?_,?_,?_⟩<;>simp[World.cell?,h]
abbrev ch0:Array Value:=#[.string ⟨#[]⟩,.int .i64 0,.int .i64 0,.int .i64 0,.slice none 0 0,.slice none 0 0,.slice none 0 0]
theorem iN.grown{g:Nat}{w w':World}(h:iN g w w'):w.grownBy w' (some g):=⟨h.os,h.tape,h.output,by rw[h.size];exact aA _,λk _ z=>h.block k λe=>z (by rw[e])⟩
theorem aAr{w u w':World}{B rb g:Nat}{D:RD}(h:WR u B rb D)(J:hJ w u rb)(z:TB u g 265)(E:w.heap.size<=g)(I:iN g u w'):WR w' B rb D/\hJ w w' rb/\bU (λt=>t≠265) u w':=by
 have s:cE 265:=by simp[cE]
 refine⟨h.other I.grown z s,J.other h I.grown z s E,(bU.refl u).grown I.grown λk K=>?_⟩
 cases K
 exact .inr ⟨265,z,λU=>U rfl⟩
section
variable {e:iA} {own:List ByteArray} {Pa:List PM} {D D':RD} {L:ByteArray->cL->Prop} {s:ByteArray->PL}
theorem iE.row2{z:RS}(J:iE e own Pa D L s z.abs){x:ByteArray}(al:(s x).by_≠lF):∃v,z.rows[e.fi x (s x).by_]?=some (v,(s x).S.map (fI e)):=by
 obtain⟨-,-,-,E⟩:=J.yes x al;simp only[RS.abs,aP] at E
 cases I:z.rows[e.fi x (s x).by_]? with
 | none=>rw[I] at E;cases E
 | some v=>rw[I] at E;obtain⟨K,U⟩:=v;simp only[jH,cJ] at E;exact⟨K,by rw[E]⟩
end
def iA.eqOn(e e':iA)(ids:List cL):Prop:=∀i∈ids,e'.cb i=e.cb i/\∀x,e'.fi x i=e.fi x i
def aMr(ids:List cL):fM->Prop
 | .add i l _ S=>i∈ids/\(l∈ids\/l=lF)/\∀t∈S,mM t∈ids
 | .remove i _ S=>i∈ids/\∀t∈S,mM t∈ids
 | .alter i _ Hs=>i∈ids/\∀h∈Hs,(∀t∈h.Br,mM t∈ids)/\(∀t∈cV h.N,mM t∈ids)/\∀t∈h.N,mM t∈ids\/t.num<0
theorem aMr.mono{ids E:List cL}{c:fM}(h:aMr ids c)(hs:∀i∈ids,i∈E):aMr E c:=by
 cases c with
 | add i l v S=>exact⟨hs _ h.1,h.2.1.imp (hs _) id,λt z=>hs _ (h.2.2 t z)⟩
 | remove i v S=>exact⟨hs _ h.1,λt z=>hs _ (h.2 t z)⟩
 | alter i v Hs=>exact⟨hs _ h.1,λk I=>⟨λt z=>hs _ ((h.2 k I).1 t z),λt z=>hs _ ((h.2 k I).2.1 t z),λt z=>((h.2 k I).2.2 t z).imp (hs _) id⟩⟩
section
variable {e e':iA} {ids:List cL} {own:List ByteArray} {Pa:List PM} {D:RD}
theorem iA.eqOn.cix(h:e.eqOn e' ids){t:aU}(z:mM t∈ids):fI e' t=Go.Proofs.YtgdfipmdmgkidaaGreatDoor.fI e t:=by
 unfold Go.Proofs.YtgdfipmdmgkidaaGreatDoor.fI;rw[(h _ z).1]
theorem iA.eqOn.cixs(h:e.eqOn e' ids){S:List aU}(z:∀t∈S,mM t∈ids):S.map (Go.Proofs.YtgdfipmdmgkidaaGreatDoor.fI e')=S.map (Go.Proofs.YtgdfipmdmgkidaaGreatDoor.fI e):=fQ λt E=>h.cix (z t E)
theorem iA.eqOn.nmxs(h:e.eqOn e' ids){S:List aU}(z:∀t∈S,mM t∈ids):S.map (sC e')=S.map (sC e):=fQ λt E=>by unfold sC;rw[h.cix (z t E)]
theorem iA.eqOn.edg(h:e.eqOn e' ids){t:aU}(z:mM t∈ids\/t.num<0):edg e' t=Go.Proofs.YtgdfipmdmgkidaaGreatDoor.edg e t:=by
 unfold Go.Proofs.YtgdfipmdmgkidaaGreatDoor.edg;rcases z with z|z
 ·rw[h.cix z]
 ·rw[if_pos z,if_pos z]
theorem iA.eqOn.fil(h:e.eqOn e' ids){x:ByteArray}{l:cL}(z:l∈ids\/l=lF):fil e' x l=Go.Proofs.YtgdfipmdmgkidaaGreatDoor.fil e x l:=by
 unfold Go.Proofs.YtgdfipmdmgkidaaGreatDoor.fil;rcases z with z|z
 ·rw[(h l z).2]
 ·rw[if_pos z,if_pos z]
theorem zI.env{k:Hk}{q:zH}(h:zI e k q)(z:e.eqOn e' ids)(h1:∀t∈k.Br,mM t∈ids)(h2:∀t∈cV k.N,mM t∈ids)(I:∀t∈k.N,mM t∈ids\/t.num<0):zI e' k q:=by
 obtain⟨a,M,b,E,K,U,V,W⟩:=h;have J:cV k.N=M:=by rw[E];exact aCc a b M
 refine⟨a,M,b,E,?_,?_,?_,?_⟩
 ·rw[z.edg (I a (by rw[E];simp))];exact K
 ·rw[z.edg (I b (by rw[E];simp))];exact U
 ·rw[z.nmxs (by rw[<- J];exact h2)];exact V
 ·rw[z.cixs h1];exact W
theorem tN.env{c:ByteArray×fM}{r:vH}(h:tN e c r)(E:e.eqOn e' ids)(z:aMr ids c.2):tN e' c r:=by
 obtain⟨x,c⟩:=c;refine⟨h.1,?_⟩;have h2:=h.2
 cases c with
 | add i l v S=>
  obtain⟨I,J,K,U,V,q6⟩:=h2;exact⟨I,by rw[E.fil z.2.1];exact J,by rw[(E i z.1).2];exact K,by rw[E.cixs z.2.2];exact U,V,q6⟩
 | remove i v S=>
  obtain⟨I,J,K,U⟩:=h2;exact⟨I,by rw[(E i z.1).2];exact J,by rw[E.nmxs z.2];exact K,U⟩
 | alter i v Hs=>
  obtain⟨I,J,K,U,V⟩:=h2
  exact⟨I,by rw[(E i z.1).2];exact J,K,U,λk h q W hq=>by
   obtain⟨Y,Z,a3⟩:=z.2 h (aD W)
   exact(V k h q W hq).env E Y Z a3⟩
theorem lG.env{x:ByteArray}{t:aU}(h:lG e own Pa D x t)(z:e.eqOn e' ids)(E:mM t∈ids):lG e' own Pa D x t:=by
 unfold lG;rw[z.cix E];exact h
def aIo(Pa:List PM):Prop:=∀P∈Pa,∀c∈P.Cs,aMr (Pa.map (·.id)) c.2/\(∀t∈jS c.2,mM t=P.id)/\∀i l v S,c.2=.add i l v S->i=P.id
theorem qS.env(h:qS e own Pa D)(U:aIo Pa)(J:e.eqOn e' (Pa.map (·.id))):qS e' own Pa D:=by
 have aO:∀{k:Nat} {P:PM},Pa[k]?=some P->P.id∈Pa.map (·.id):=λz=>aI.2 ⟨_,aD z,rfl⟩;refine⟨h.len,λk P q z hq=>?_,λk P z c E t Z=>?_,λk P z c E i l rv S I=>?_,λj k x hj=>?_,h.afn⟩
 ·obtain⟨h1,h2,K⟩:=h.pt k P q z hq;exact⟨h1,h2,λj c r E hr=>(K j c r E hr).env J (U P (aD z) c (aD E)).1⟩
 ·obtain⟨h1,h2⟩:=h.cell k P z c E t Z;refine⟨h1,h2.env J ?_⟩;rw[(U P (aD z) c E).2.1 t Z];exact aO z
 ·obtain⟨h1,h2,K⟩:=h.file k P z c E i l rv S I;have Y:=(U P (aD z) c E).1;rw[I] at Y;rw[(J P.id (aO z)).2,J.fil Y.2.1];exact⟨h1,h2,K⟩
 ·obtain⟨P,W,V⟩:=h.back j k x hj;exact⟨P,W,by rw[(J P.id (aO W)).2];exact V⟩
end
theorem aCe{α:Type}{L:List α}(h:L.Nodup){j k:Nat}{a:α}(h1:L[j]?=some a)(h2:L[k]?=some a):j=k:=by
 obtain⟨l1,z⟩:=aB.1 h1;obtain⟨l2,E⟩:=aB.1 h2;rcases aBl j k with h3|h3|h3
 ·exact absurd (z.trans E.symm) (cW.1 h j k l1 l2 h3)
 ·exact h3
 ·exact absurd (E.trans z.symm) (cW.1 h k j l2 l1 h3)
def eK(Cs:List (ByteArray×fM)):List (ByteArray×aU):=Cs.flatMap λc=>(jS c.2).map λt=>(c.1,t)
def gP(Cs:List (ByteArray×fM)):List ByteArray:=Cs.flatMap λc=>match c.2 with|.add ..=>[c.1]|_=>[]
theorem pW{i:cL}{n:Int}{L:List ByteArray}{k:Nat}{t:aU}(h:(eD i n L)[k]?=some t):t.num=n+k/\mM t=i/\t.alive=true/\L[k]?=some t.line:=by
 unfold eD qT at h;rw[aP] at h;by_cases z:k<L.length
 ·rw[wZ z] at h;simp only[jH,cJ] at h;subst h;exact⟨rfl,rfl,rfl,by simp[brS,aQ,aC z]⟩
 ·rw[gK (by simp;omega)] at h
  cases h
theorem aIu{i:cL}{N:List ByteArray}:∀(Q:List dL) (n:Int) (k:Nat) (t:aU),(kL i N n Q)[k]?=some t->t.num=n+k/\mM t=i/\t.alive=true
 | [],_,_,_,h=>by simp[kL] at h
 | q::Q,n,k,t,h=>by
  unfold kL at h;by_cases z:k<(eD i n (bX N q)).length
  ·rw[aZ z] at h;exact⟨(pW h).1,(pW h).2.1,(pW h).2.2.1⟩
  ·rw[bH (by omega)] at h;obtain⟨h1,h2,E⟩:=aIu Q _ _ t h;rw[kP] at h1 z;exact⟨by rw[h1];omega,h2,E⟩
theorem aUm{p:PL}{i:cL}{n I:Int}{there:Bool}{text:ByteArray}{c:fM}(E:jE p i n there text c I):I=n+(jS c).length/\∀(k:Nat) (t:aU),(jS c)[k]?=some t->t.num=n+k/\mM t=i/\t.alive=true:=by
 cases c with
 | add i' l v S=>
  obtain⟨_,rfl,_,rfl,h⟩:=E;exact⟨by rw[h];simp[jS,kP],λk t z=>⟨(pW z).1,(pW z).2.1,(pW z).2.2.1⟩⟩
 | remove i' v S=>
  obtain⟨_,_,_,_,h⟩:=E;exact⟨by rw[h];simp[jS],λk t z=>by simp[jS] at z⟩
 | alter i' v Hs=>
  obtain⟨_,_,_,Q,K,J,h⟩:=E;have e:jS (.alter i' v Hs)=kL i (bM text) n Q:=oS Q Hs n J;refine⟨by rw[h,e];exact(xD Q n).symm,λk t z=>?_⟩;rw[e] at z;exact aIu Q n k t z
theorem xC(A B:List (ByteArray×fM)):eK (A++B)=eK A++eK B:=by simp[eK]
theorem vN(A B:List (ByteArray×fM)):gP (A++B)=gP A++gP B:=by simp[gP]
theorem dG.to{s:ByteArray->PL}{i:cL}{E:List Fl}{Cs:List (ByteArray×fM)}{m:Nat->Int}(z:dG s i E Cs m):∀j,j<=Cs.length->m j=(eK (Cs.take j)).length/\∀(k:Nat) (x:ByteArray) (t:aU),(eK (Cs.take j))[k]?=some (x,t)->t.num=k/\mM t=i/\t.alive=true
 | 0,_=>⟨by rw[z.zero];rfl,λk x t h=>by simp[eK] at h⟩
 | j+1,hj=>by
  obtain⟨h1,h2⟩:=z.to j (by omega);have hc:Cs[j]?=some Cs[j]:=aC (by omega);have hf:E[j]?=some (E[j]'(by have:=z.len;omega)):=aC (by have:=z.len;omega);obtain⟨-,J⟩:=z.at_ j _ _ hf hc;obtain⟨Y,Z⟩:=aUm J;have K:eK (Cs.take (j+1))=eK (Cs.take j)++(jS Cs[j].2).map λt=>(Cs[j].1,t):=by
   rw[aF (by omega),xC];simp[eK]
  refine⟨by rw[Y,h1,K];simp,λk x t h=>?_⟩;rw[K] at h;by_cases hk:k<(eK (Cs.take j)).length
  ·rw[aZ hk] at h;exact h2 k x t h
  ·rw[bH (by omega),aP] at h
   cases I:(jS Cs[j].2)[k - (eK (Cs.take j)).length]? with
   | none=>rw[I] at h;cases h
   | some u=>
    rw[I] at h
    cases h
    obtain⟨U,V,W⟩:=Z _ _ I;exact⟨by rw[U,h1];omega,V,W⟩
theorem dG.br{s:ByteArray->PL}{i:cL}{z:List Fl}{Cs:List (ByteArray×fM)}{m:Nat->Int}(E:dG s i z Cs m){k:Nat}{x:ByteArray}{t:aU}(h:(eK Cs)[k]?=some (x,t)):t.num=k/\mM t=i/\t.alive=true:=by
 have:=(E.to Cs.length (aA _)).2 k x t;rw[bD] at this;exact this h
theorem aIr{Cs:List (ByteArray×fM)}{c:ByteArray×fM}(z:c∈Cs){t:aU}(E:t∈jS c.2):(c.1,t)∈eK Cs:=dD.2 ⟨c,z,aI.2 ⟨t,E,rfl⟩⟩
theorem sF{Cs:List (ByteArray×fM)}{x:ByteArray}:x∈gP Cs↔∃c∈Cs,c.1=x/\∃i l v S,c.2=.add i l v S:=by
 unfold gP;rw[dD];constructor
 ·rintro⟨c,z,h⟩;split at h
  ·rename_i i l v S e
   simp at h;exact⟨c,z,h.symm,i,l,v,S,e⟩
  ·simp at h
 ·rintro⟨c,z,rfl,i,l,v,S,e⟩;refine⟨c,z,?_⟩;rw[e];simp
theorem aKh:∀{Cs:List (ByteArray×fM)},(Cs.map (·.1)).Nodup->(gP Cs).Nodup
 | [],_=>by simp[gP]
 | c::Cs,h=>by
  rw[cU,iC] at h;have e:gP (c::Cs)=(match c.2 with|.add ..=>[c.1]|_=>[])++gP Cs:=by simp[gP]
  have J:c.1∉gP Cs:=λI=>by
   obtain⟨d,E,z,-⟩:=sF.1 I;exact h.1 (aI.2 ⟨d,E,z⟩)
  rw[e];split
  ·exact iC.2 ⟨J,aKh h.2⟩
  ·exact aKh h.2
def RD.plus(D:RD)(q:RPt)(Cs:List (ByteArray×fM)):RD:={ D with pts:=D.pts++[q],cells:=D.cells++(eK Cs).map λu=>(u.2.line,D.pts.length),files:=D.files++(gP Cs).map λx=>(x,D.pts.length) }
structure aCx (e:iA) (D:RD) (i:cL) (Cs:List (ByteArray×fM)):Prop where
 cb:e.cb i=D.cells.length
 fi:∀(k:Nat) (x:ByteArray),(gP Cs)[k]?=some x->e.fi x i=D.files.length+k
def iA.put(e:iA)(D:RD)(i:cL)(Cs:List (ByteArray×fM)):iA:=⟨λj=>if j=i then D.cells.length else e.cb j,λx j=>if j=i then D.files.length+((gP Cs).findIdx λy=>decide (y=x)) else e.fi x j⟩
theorem iA.put_eqOn{e:iA}{D:RD}{i:cL}{Cs:List (ByteArray×fM)}{ids:List cL}(hi:i∉ids):e.eqOn (e.put D i Cs) ids:=λj z=>by
 have:j≠i:=λe=>hi (e▸z);exact⟨by simp[iA.put,this],λx=>by simp[iA.put,this]⟩
theorem iA.put_at{e:iA}{D:RD}{i:cL}{Cs:List (ByteArray×fM)}(I:(Cs.map (·.1)).Nodup):aCx (e.put D i Cs) D i Cs:=by
 refine⟨by simp[iA.put],λk x z=>?_⟩;simp only[iA.put,if_true];have E:=(aB.1 z).1;have:(gP Cs).findIdx (λy=>decide (y=x))=k:=by
  rw[List.findIdx_eq E];refine⟨by simp[(aB.1 z).2],λj K=>?_⟩;by_cases J:(gP Cs)[j]=x
  ·have:=aCe (aKh I) (j:=j) (by rw[aC (by omega),J]) z;omega
  ·simp[J]
 rw[this]
theorem qO{α:Type}{L:List α}{a b:α}{k:Nat}(h:(L++[a])[k]?=some b):(L[k]?=some b/\k<L.length)\/(k=L.length/\b=a):=by
 by_cases z:k<L.length
 ·rw[aZ z] at h;exact .inl ⟨h,z⟩
 ·rw[bH (by omega)] at h;have e:k - L.length=0:=by
   by_cases E:k - L.length=0
   ·exact E
   ·rw[gK (by simp;omega)] at h
    cases h
  rw[e] at h;simp at h;exact .inr ⟨by omega,h.symm⟩
theorem sH{α:Type}{L M:List α}{b:α}{k:Nat}(h:(L++M)[k]?=some b):(L[k]?=some b/\k<L.length)\/∃n,k=L.length+n/\M[n]?=some b:=by
 by_cases z:k<L.length
 ·rw[aZ z] at h;exact .inl ⟨h,z⟩
 ·rw[bH (by omega)] at h;exact .inr ⟨k - L.length,by omega,h⟩
theorem aFd{α:Type}{L M:List α}{b:α}{n:Nat}(h:M[n]?=some b):(L++M)[L.length+n]?=some b:=by
 rw[bH (by omega),aD8];exact h
theorem qL{α:Type}{L:List α}{a:α}(h:a∈L):∃n:Nat,L[n]?=some a:=by
 obtain⟨n,z,e⟩:=lB.1 h;exact⟨n,by rw[aC z,e]⟩
section
variable {e:iA} {own:List ByteArray} {Pa:List PM} {D:RD} {P:PM} {q:RPt}
theorem RD.ext_plus(D:RD)(q:RPt)(Cs:List (ByteArray×fM)):D.Ext (D.plus q Cs):=⟨⟨_,rfl⟩,⟨_,rfl⟩,⟨_,rfl⟩⟩
theorem tN.add_of{c:ByteArray×fM}{r:vH}(h:tN e c r)(E:r.kind=0):∃i l v S,c.2=.add i l v S/\r.file=fil e c.1 l/\r.new=e.fi c.1 i:=by
 have h2:=h.2
 cases z:c.2 with
 | add i l v S=>rw[z] at h2;exact⟨i,l,v,S,rfl,h2.2.1,h2.2.2.1⟩
 | remove i v S=>rw[z] at h2;have:=h2.1;omega
 | alter i v Hs=>rw[z] at h2;have:=h2.1;omega
theorem aXx(hE:aCx e D P.id P.Cs)(J:q.chs.length=P.Cs.length)(hrel:∀(j:Nat) (c:ByteArray×fM) (r:vH),P.Cs[j]?=some c->q.chs[j]?=some r->tN e c r)(a0:(P.Cs.map (·.1)).Nodup)
  (I:∀c∈P.Cs,∀i l v S,c.2=.add i l v S->i=P.id) {c:ByteArray×fM} (V:c∈P.Cs) {i l:cL} {v:Value} {S:List aU} (K:c.2=.add i l v S) :
  (D.plus q P.Cs).files[e.fi c.1 P.id]?=some (c.1,D.pts.length)/\(D.plus q P.Cs).aft (e.fi c.1 P.id)=fil e c.1 l/\D.files.length<=e.fi c.1 P.id:=by
 obtain⟨n,hn⟩:=qL (sF.2 ⟨c,V,rfl,i,l,v,S,K⟩);have W:=hE.fi n _ hn;have hf:(D.plus q P.Cs).files[e.fi c.1 P.id]?=some (c.1,D.pts.length):=by
  rw[W];exact aFd (by rw[aP,hn];rfl)
 have hp:(D.plus q P.Cs).pts[D.pts.length]?=some q:=by
  have:=aFd (L:=D.pts) (M:=[q]) (n:=0) rfl;exact this
 refine⟨hf,?_,by omega⟩;rw[RD.aft_at hf hp];obtain⟨k,Z⟩:=qL V;obtain⟨r,hr⟩:∃r,q.chs[k]?=some r:=⟨_,aC (by rw[J];exact(aB.1 Z).1)⟩;have hR:=hrel k c r Z hr;have h2:=hR.2;rw[K] at h2;have hi:=I c V i l v S K;rw[hi] at h2;rw[aSr hr (λk' d a2 hd ⟨d1,d2⟩=>?_) ⟨h2.1,h2.2.2.1⟩]
 ·exact h2.2.1
 ·obtain⟨U,E⟩:∃U,P.Cs[k']?=some U:=⟨_,aC (by rw[<- J];exact(aB.1 hd).1)⟩;obtain⟨i',l',v',S',e1,e2,e3⟩:=(hrel k' U d E hd).add_of d1;have Y:=I U (aD E) _ _ _ _ e1;obtain⟨n',z⟩:=qL (sF.2 ⟨U,aD E,rfl,i',l',v',S',e1⟩);have a1:=hE.fi n' _ z;rw[Y] at e3;have:n'=n:=by omega
  rw[this,hn] at z;injection z with z;have h5:=aCe a0 (j:=k') (k:=k) (a:=c.1) (by rw[aP,E];simp[z]) (by rw[aP,Z];rfl);omega
theorem qS.plus(h:qS e own Pa D)(a8:own.length=D.cells.length)(a6:q.id=dT P.id)(Y:q.chs.length=P.Cs.length)(hrel:∀(j:Nat) (c:ByteArray×fM) (r:vH),P.Cs[j]?=some c->q.chs[j]?=some r->tN e c r)
  (hE:aCx e D P.id P.Cs) (a4:∀(k:Nat) (x:ByteArray) (t:aU),(eK P.Cs)[k]?=some (x,t)->t.num=k/\mM t=P.id/\t.alive=true) (a7:(P.Cs.map (·.1)).Nodup)
  (V:∀c∈P.Cs,∀i l v S,c.2=.add i l v S->i=P.id/\(l=lF\/∃k,D.files[e.fi c.1 l]?=some (c.1,k))) :
  qS e (own++(eK P.Cs).map (·.1)) (Pa++[P]) (D.plus q P.Cs):=by
 have hx:=RD.ext_plus D q P.Cs;have hA:=λ{c:ByteArray×fM} (E:c∈P.Cs) {i l:cL} {v:Value} {S:List aU} (z:c.2=.add i l v S)=>aXx hE Y hrel a7 (λc E i l v S z=>(V c E i l v S z).1) E z;have a3:∀{c:ByteArray×fM},c∈P.Cs->∀{i l:cL} {v:Value} {S:List aU},c.2=.add i l v S->fil e c.1 l<e.fi c.1 P.id:=λ{c} E {i l v S} z=>by
  have W:=(hA E z).2.2;unfold fil;rcases(V c E i l v S z).2 with hz|⟨k,U⟩
  ·rw[if_pos hz];omega
  ·have:=(aB.1 U).1;split<;>omega
 refine⟨by simp[RD.plus,h.len],λk P' q' U hq=>?_,λk P' U c E t ht=>?_,λk P' U c E i l rv S z=>?_,λj k x J=>?_,λj i J=>?_⟩
 ·rcases qO U with ⟨U,Z⟩|⟨rfl,rfl⟩
  ·have:D.pts[k]?=some q':=by
    have:(D.pts++[q])[k]?=some q':=hq;rwa[aZ (by rw[h.len];exact Z)] at this
   exact h.pt k P' q' U this
  ·have:(D.pts++[q])[Pa.length]?=some q':=hq;rw[<- h.len] at this;rcases qO this with ⟨_,h9⟩|⟨-,rfl⟩
   ·omega
   ·exact⟨a6,Y,hrel⟩
 ·rcases qO U with ⟨U,Z⟩|⟨rfl,rfl⟩
  ·obtain⟨h1,h2,W,k0,P0,h4,h5,h6⟩:=h.cell k P' U c E t ht;exact⟨h1,h2,kV W,k0,P0,kV h4,kV h5,h6⟩
  ·obtain⟨n,K⟩:=qL (aIr E ht);obtain⟨h1,h2,W⟩:=a4 n _ _ K;have a0:fI e t=D.cells.length+n:=by
    unfold fI;rw[h2,hE.cb,h1];omega
   refine⟨W,by omega,?_,Pa.length,P',?_,by simp,h2.symm⟩
   ·rw[a0,<- a8];exact aFd (by rw[aP,K];rfl)
   ·rw[a0,<- h.len];exact aFd (by rw[aP,K];rfl)
 ·rcases qO U with ⟨U,Z⟩|⟨rfl,rfl⟩
  ·obtain⟨h1,h2,W⟩:=h.file k P' U c E i l rv S z;refine⟨kV h1,?_,W⟩;rw[hx.aft h (aB.1 h1).1];exact h2
  ·obtain⟨h1,h2,W⟩:=hA E z;rw[h.len] at h1;exact⟨h1,h2,a3 E z⟩
 ·rcases sH (show (D.files++(gP P.Cs).map λx=>(x,D.pts.length))[j]?=some (x,k) from J) with ⟨J,_⟩|⟨n,rfl,K⟩
  ·obtain⟨P0,h1,h2⟩:=h.back j k x J;exact⟨P0,kV h1,h2⟩
  ·rw[aP] at K
   cases I:(gP P.Cs)[n]? with
   | none=>rw[I] at K;cases K
   | some y=>
    rw[I] at K
    cases K
    exact⟨P,by rw[h.len];simp,(hE.fi n _ I).symm⟩
 ·by_cases a1:j<D.files.length
  ·rw[hx.aft h a1] at J;obtain⟨h1,h2⟩:=h.afn j i J;refine⟨h1,?_⟩;have e1:(D.plus q P.Cs).files=D.files++(gP P.Cs).map λx=>(x,D.pts.length):=rfl;rw[e1,aZ a1,aZ (by omega)];exact h2
  ·cases hf:(D.plus q P.Cs).files[j]? with
   | none=>
    unfold RD.aft at J;rw[hf] at J;simp only at J;omega
   | some y=>
    obtain⟨x,k⟩:=y;rcases sH (show (D.files++(gP P.Cs).map λx=>(x,D.pts.length))[j]?=some (x,k) from hf) with ⟨_,h9⟩|⟨n,rfl,K⟩
    ·omega
    ·rw[aP] at K
     cases I:(gP P.Cs)[n]? with
     | none=>rw[I] at K;cases K
     | some y=>
      rw[I] at K
      cases K
      obtain⟨c,E,rfl,i',l,v,S,z⟩:=sF.1 (aD I);obtain⟨h1,h2,W⟩:=hA E z;have a5:=hE.fi n _ I;rw[<- a5,h2] at J;have h4:=a3 E z;rw[J] at h4;refine⟨by omega,?_⟩;rcases(V c E i' l v S z).2 with hz|⟨k0,a2⟩
      ·unfold fil at J;rw[if_pos hz] at J;omega
      ·unfold fil at J;split at J
       ·omega
       ·have:e.fi c.1 l=i:=by omega
        rw[this] at a2;have e2:(D.plus q P.Cs).files[i]?=some (c.1,k0):=kV a2;rw[e2];rfl
end
end Go.Proofs.YtgdfipmdmgkidaaGreatDoor
