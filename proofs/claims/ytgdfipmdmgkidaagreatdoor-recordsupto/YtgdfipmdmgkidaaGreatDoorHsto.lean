import Derived.Test.YtgdfipmdmgkidaaGreatDoorXcar
import Derived.Laws.AppendOwnNone
import Derived.Test.YtgdfipmdmgkidaaGreatDoorNplace
import Derived.Test.YtgdfipmdmgkidaaGreatDoorWids
import Derived.Test.YtgdfipmdmgkidaaGreatDoorAl
set_option linter.all false
set_option maxHeartbeats 12800000
set_option maxRecDepth 100000
namespace Go.Proofs.YtgdfipmdmgkidaaGreatDoor
open Go.RowKit
theorem xO{w:World}{B n k:Nat}{t:TypeId}{v:Value}{z:List Value}(h:w.ownsRow B t 1 v n z)(Z:k<n)(u:Value):
  ∃g cap,v=.slice (some ⟨g,0,none⟩) n cap/\B<=g/\TB w g t/\w.cell? ⟨g,k,none⟩=z[k]?/\w.frozen? ⟨g,k,none⟩=false/\(w.setCell ⟨g,k,none⟩ u).ownsRow B t 1 v n (z.set k u)/\w.grownBy (w.setCell ⟨g,k,none⟩ u) (some g):=by
 have h2:=h.2;rcases h2 with ⟨rfl,Y⟩|⟨g,cap,E,rfl,U,J,r⟩
 ·omega
 ·obtain⟨V,W⟩:=h.stored k u;have K:k<z.length:=by rw[h.1];omega
  have I:=eZ h (g:=g) rfl k _ (aC K);have e:(⟨g,0,none⟩:Addr).add k=⟨g,k,none⟩:=by cases k<;>simp[Addr.add]
  rw[e] at I;exact⟨g,cap,rfl,U,⟨E,_,J⟩,by rw[I,aC K],by simp[World.frozen?,J],V,W⟩
theorem sQ{α:Type}(enc:α->Value):∀(L:List α) (k:Nat) (a:α),(L.set k a).flatMap (λx=>[enc x])=(L.flatMap (λx=>[enc x])).set k (enc a)
 | [],k,a=>by simp
 | x::L,0,a=>by simp
 | x::L,k+1,a=>by simp[sQ enc L k a]
structure zK (w:World) (B sb:Nat) (s:RS):Prop where
 lo:B<=sb
 wb:∃cv gv rv dv,w.heap[sb]?=some (.cells #[cv,gv,rv,dv] 259 (0,0))/\w.ownsRow B 4 1 cv s.came.length (s.came.flatMap eB)/\w.ownsRow B 4 1 gv s.gone.length (s.gone.flatMap eB)/\w.ownsRow B 25 1 rv s.rows.length (s.rows.flatMap eV)/\w.ownsRow B 4 1 dv s.dead.length (s.dead.flatMap eB)/\cv.ownBlock≠gv.ownBlock/\cv.ownBlock≠dv.ownBlock/\gv.ownBlock≠dv.ownBlock
 ok:∀r∈s.rows,RI w r.1 r.2
theorem zK.view{w:World}{B z:Nat}{s:RS}(h:zK w B z s):sE w z s:=by
 obtain⟨cv,I,rv,E,h1,h2,J,K,U,_⟩:=h.wb;exact⟨⟨cv,I,rv,E,h1,eJ.own h2,eJ.own J,eJ.own K,eJ.own U⟩,h.ok⟩
theorem zK.below{w w':World}{B E:Nat}{s:RS}(h:zK w B E s)(z:Below w.heap.size w w'):zK w' B E s:=by
 obtain⟨cv,J,rv,I,h1,h2,K,U,V,W⟩:=h.wb;exact⟨h.lo,⟨cv,J,rv,I,(z.block _ h.view.lt).trans h1,bQ h2 z (aA _),bQ K z (aA _),bQ U z (aA _),bQ V z (aA _),W⟩,λr Y=>(h.ok r Y).below z⟩
structure nH (w w':World) (B:Nat):Prop where
 below:Below B w w'
 held:bU fix w w'
theorem nH.of{w w':World}{B g:Nat}{t:TypeId}(E:w.grownBy w' (some g))(U:B<=g)(J:TB w g t)(K:¬ fix t):nH w w' B:=
 ⟨(Below.refl B w).grown E (by have:=J.lt;omega) (λk I=>by injection I with I;omega),bU.of_grown E (λm z=>by injection z with z;subst z;exact⟨t,J,K⟩)⟩
theorem nH.trans{a b c:World}{B:Nat}(h:nH a b B)(k:nH b c B):nH a c B:=⟨h.below.trans k.below,h.held.trans k.held⟩
theorem TB.ne{w:World}{g z:Nat}{t E:TypeId}(h:TB w g t)(I:TB w z E)(J:t≠E):g≠z:=by
 rintro rfl;obtain⟨_,_,h1⟩:=h;obtain⟨_,_,h2⟩:=I;rw[h1] at h2;injection h2 with h2;injection h2 with _ h2 _;exact J h2
theorem pZ{w w':World}{B n sz g:Nat}{t:TypeId}{v:Value}{E:List Value}(h:w.ownsRow B t sz v n E)(I:w.grownBy w' (some g))(z:v.ownBlock≠some g):w'.ownsRow B t sz v n E:=h.kept I (.inr z)
theorem nD{w w':World}{B n sz g:Nat}{t E:TypeId}{v:Value}{I:List Value}(h:w.ownsRow B t sz v n I)(J:w.grownBy w' (some g))(K:TB w g E)(z:t≠E):w'.ownsRow B t sz v n I:=h.kept J (.inr λe=>(dI h e).ne K z rfl)
def RS.setB(s:RS)(i c:Nat):RS:=if i=0 then { s with came:=s.came.set c true } else if i=1 then { s with gone:=s.gone.set c true } else { s with dead:=s.dead.set c true }
def RS.getB(s:RS)(i:Nat):List Bool:=if i=0 then s.came else if i=1 then s.gone else s.dead
theorem zK.setB{w:World}{B sb:Nat}{s:RS}(h:zK w B sb s)(i:Nat)(hi:i=0\/i=1\/i=3){c:Nat}(K:c<(s.getB i).length):
  ∃g cap,w.cell? ⟨sb,i,none⟩=some (.slice (some ⟨g,0,none⟩) (s.getB i).length cap)/\(∃d,w.cell? ⟨g,c,none⟩=some (.bool d))/\w.frozen? ⟨g,c,none⟩=false/\zK (w.setCell ⟨g,c,none⟩ (.bool true)) B sb (s.setB i c)/\nH w (w.setCell ⟨g,c,none⟩ (.bool true)) B:=by
 obtain⟨cv,gv,rv,dv,h1,h2,h3,h4,h5,n1,n2,n3⟩:=h.wb;have cell:∀(L:List Bool) (k:Nat),k<L.length->∃d,(L.flatMap eB)[k]?=some (.bool d):=λL k hk=>by
  have:=tT eB (sz:=1) (λ_=>rfl) L k _ (aC hk) 0 (by omega);rw[jW,oK] at this;exact⟨_,this⟩
 have I:∀{g:Nat} {w':World},w.grownBy w' (some g)->TB w g 4->B<=g->w'.heap[sb]?=some (.cells #[cv,gv,rv,dv] 259 (0,0))/\w'.ownsRow B 25 1 rv s.rows.length (s.rows.flatMap eV)/\(∀r∈s.rows,RI w' r.1 r.2)/\nH w w' B:=λhg E J=>by
  have st:=nH.of hg J E (by decide);refine⟨(hg.block _ h.view.lt ?_).trans h1,nD h4 hg E (by decide),λr hr=>(h.ok r hr).held st.held (by simp[fix]),st⟩;intro e;injection e with e;exact TB.ne ⟨_,_,h1⟩ E (by decide) e
 rcases hi with rfl|rfl|rfl
 ·obtain⟨g,cap,rfl,J,E,Y,Z,k3,z⟩:=xO h2 (k:=c) K (.bool true);obtain⟨d,W⟩:=cell _ _ K;obtain⟨f1,f2,U,V⟩:=I z E J;refine⟨g,cap,by simp[World.cell?,h1];rfl,⟨d,Y.trans W⟩,Z,⟨h.lo,⟨_,gv,rv,dv,f1,?_,pZ h3 z (λe=>n1 e.symm),f2,pZ h5 z (λe=>n2 e.symm),n1,n2,n3⟩,U⟩,V⟩;show World.ownsRow _ B 4 1 _ (s.came.set c true).length ((s.came.set c true).flatMap eB);rw[jG,sQ Value.bool];exact k3
 ·obtain⟨g,cap,rfl,J,E,Y,Z,k3,z⟩:=xO h3 (k:=c) K (.bool true);obtain⟨d,W⟩:=cell _ _ K;obtain⟨f1,f2,U,V⟩:=I z E J;refine⟨g,cap,by simp[World.cell?,h1];rfl,⟨d,Y.trans W⟩,Z,⟨h.lo,⟨cv,_,rv,dv,f1,pZ h2 z n1,?_,f2,pZ h5 z (λe=>n3 e.symm),n1,n2,n3⟩,U⟩,V⟩;show World.ownsRow _ B 4 1 _ (s.gone.set c true).length ((s.gone.set c true).flatMap eB);rw[jG,sQ Value.bool];exact k3
 ·obtain⟨g,cap,rfl,J,E,Y,Z,k3,z⟩:=xO h5 (k:=c) K (.bool true);obtain⟨d,W⟩:=cell _ _ K;obtain⟨f1,f2,U,V⟩:=I z E J;refine⟨g,cap,by simp[World.cell?,h1];rfl,⟨d,Y.trans W⟩,Z,⟨h.lo,⟨cv,gv,rv,_,f1,pZ h2 z n2,pZ h3 z n3,f2,?_,n1,n2,n3⟩,U⟩,V⟩;show World.ownsRow _ B 4 1 _ (s.dead.set c true).length ((s.dead.set c true).flatMap eB);rw[jG,sQ Value.bool];exact k3
theorem zK.setRow{w:World}{B J:Nat}{s:RS}(h:zK w B J s){c:Nat}(U:c<s.rows.length){v:Value}{L:List Nat}(hv:RI w v L):
  ∃g cap,w.cell? ⟨J,2,none⟩=some (.slice (some ⟨g,0,none⟩) s.rows.length cap)/\(∃u,w.cell? ⟨g,c,none⟩=some u)/\w.frozen? ⟨g,c,none⟩=false/\zK (w.setCell ⟨g,c,none⟩ v) B J { s with rows:=s.rows.set c (v,L) }/\nH w (w.setCell ⟨g,c,none⟩ v) B:=by
 obtain⟨cv,W,rv,V,h1,h2,Y,Z,h5,n1,n2,n3⟩:=h.wb;obtain⟨g,cap,rfl,hB,z,k1,k2,k3,E⟩:=xO Z U v;have K:=nH.of E hB z (by decide);have hx:∃u,(s.rows.flatMap eV)[c]?=some u:=by
  have:=tT eV (sz:=1) (λ_=>rfl) s.rows c _ (aC U) 0 (by omega);rw[jW,oK] at this;exact⟨_,this⟩
 obtain⟨u,hu⟩:=hx;refine⟨g,cap,by simp[World.cell?,h1],⟨u,k1.trans hu⟩,k2,⟨h.lo,⟨cv,W,_,V,(E.block _ h.view.lt ?_).trans h1,nD h2 E z (by decide),nD Y E z (by decide),?_,nD h5 E z (by decide),n1,n2,n3⟩,λr I=>?_⟩,K⟩
 ·intro e;injection e with e;exact TB.ne ⟨_,_,h1⟩ z (by decide) e
 ·show World.ownsRow _ B 25 1 _ (s.rows.set c (v,L)).length ((s.rows.set c (v,L)).flatMap eV);rw[jG,sQ (λr:Value×List Nat=>r.1)];exact k3
 ·rcases kR I with I|rfl
  ·exact(h.ok r I).held K.held (by simp[fix])
  ·exact hv.held K.held (by simp[fix])
def oT(dead:List Bool)(run:List (Nat×Bool)):List Bool:=run.foldl (λd n=>d.set n.1 true) dead
theorem aR2{dead:List Bool}{run:List (Nat×Bool)}{k:Nat}{n:Nat×Bool}(h:run[k]?=some n):oT dead (run.take (k+1))=(oT dead (run.take k)).set n.1 true:=by
 unfold oT;rw[jD,h,List.foldl_append];rfl
theorem xP(run:List (Nat×Bool)):∀dead:List Bool,(oT dead run).length=dead.length:=by
 induction run with
 | nil=>intro d;rfl
 | cons n L ih=>intro d;show (oT (d.set n.1 true) L).length=_;rw[ih];simp
def RS.kill(s:RS)(run:List (Nat×Bool)):RS:={ s with dead:=oT s.dead run }
theorem aDf(run:List (Nat×Bool))(v:Value)(B J:Nat)(s:RS)(w:World)(hs:zK w B J s)(hv:RN w v run)(hr:∀n∈run,n.1<s.dead.length)(hl:run.length<=1000000):
  Calls Tryz.prog 212 #[.pointer (some ⟨J,0,none⟩),v] w λe w'=>e=.returned (.tuple #[])/\zK w' B J (s.kill run)/\nH w w' B:=by
 have HV:=aO hv;obtain⟨ao,cap,rfl,-,-⟩:=hv.each (λ_=>rfl);have HS:=aO hs;have HR:=aO hr;clear hs hr hv;go_enter Tryz.func212,Tryz.ntmps212;go_wp2
 go_loopw [4] (λi wr=>∃k:Nat,k<=run.length/\i=.int .i64 k/\Hid (zK wr B J (s.kill (run.take k)))/\Hid (nH w wr B)) (λi _=>run.length - (intOf i).toNat)
 case atStart=>exact⟨0,aE _,rfl,HS.out,⟨Below.refl _ _,bU.refl _⟩⟩
 case round=>
  obtain⟨k,hk,rfl,W,U⟩:=hrel;by_cases Y:k<run.length
  ·obtain⟨⟨c,d⟩,K⟩:∃n,run[k]?=some n:=⟨_,aC Y⟩;obtain⟨_,_,e1,-,E⟩:=(HV.out.held U.out.held (by simp[fix])).each (λ_=>rfl)
   cases e1
   obtain⟨b,o,rfl,-,I⟩:=E k _ K;have c0:wr.cell? ⟨b,o+k * 2,none⟩=some (.int .i64 c):=I 0 _ rfl;have z:c<(oT s.dead (run.take k)).length:=by rw[xP];exact HR.out _ (aD K)
   obtain⟨g,gc,g0,⟨u,g1⟩,g2,g3,Z⟩:=W.out.setB 3 (.inr (.inr rfl)) (c:=c) z;have HN:Hid (zK (wr.setCell ⟨g,c,none⟩ (.bool true)).drew B J (s.kill (run.take (k+1)))):=by
    have e:s.kill (run.take (k+1))=(s.kill (run.take k)).setB 3 c:=by
     unfold RS.kill;rw[aR2 K];rfl
    rw[e];exact g3.below (Below.refl _ _).drew
   have V:Hid (nH w (wr.setCell ⟨g,c,none⟩ (.bool true)).drew B):=U.out.trans (Z.trans ⟨(Below.refl _ _).drew,bU.drew _⟩);have a0:c<((s.kill (run.take k)).getB 3).length:=z;generalize ((s.kill (run.take k)).getB 3).length=nd at *;clear z g3 Z E I K
   go_wp2_with fail
   go_region
   go_wp2
   go_roundw
   case rel=>exact⟨k+1,by omega,by go_num,HN,V⟩
   case measure=>simp[intOf];omega
  ·have e:k=run.length:=by omega
   subst e;rw[bD] at W;go_wp2
   go_end0
   exact⟨rfl,W.out,U.out⟩
def EI(t e:TypeId)(sz mI:Nat):Prop:=∃i z,Tryz.prog.underlying t=some (.slice e)/\Tryz.prog.info? e=some i/\i.zero=some z/\i.size=sz/\i.bytes=mI/\z.cells.size=sz/\0<sz
theorem ei3:EI 25 3 1 8:=by
 obtain⟨i,h1,h2,z,E⟩:=info_parts Tryz.info3;exact⟨i,_,by kernel_rfl,h1,h2,z,E,rfl,by decide⟩
theorem aEo(b o j:Nat):(⟨b,o,none⟩:Addr).add j=⟨b,o+j,none⟩:=by cases j<;>simp[Addr.add]
theorem mW{t e:TypeId}{sz mI:Nat}(hE:EI t e sz mI)(w:World){V:Array Oper}{J:List Oper}{o:Oper}{a:Act}{Q:Exit->Act->World->Prop}(U:o.guard=none)(s x:Operand)
  (ho:o.op=.call { callee:=.builtin .append,args:=#[s,x],argTypes:=#[t,t] })
  (E:Nat) (v:Value) (n:Nat) (Y:List Value) (hs:a.eval s=v) (I:w.ownsRow E e sz v n Y) (v2:Value) (m:Nat) (W:List Value) (hx:a.eval x=v2) (a2:eJ w e sz m v2 W) (h1:∀u∈W,u.oneCell'=true)
  (Z:n+m<=maxLen) (a0:(n+m) * mI<=140737488355328) (K:E<=w.heap.size)
  (h:∀v' w',w'.ownsRow E e sz v' (n+m) (Y++W)->w.grownBy w' v.ownBlock->wpList Tryz.prog V Q J (a.put o.dst v') w'):wpList Tryz.prog V Q (o::J) a w:=by
 obtain⟨i,z,e1,e2,e3,e4,e5,e6,e7⟩:=hE;obtain⟨hl,ao,cap,rfl,hc,hv⟩:=a2;rcases hv with ⟨rfl,rfl,rfl⟩|⟨b,a3,rfl,-,a1⟩
 ·have:W=[]:=aS (by simpa using hl);subst this;refine wpList_append_own_none U s x t ho E e i sz e1 e2 v n Y hs I hx ?_;exact h v w (by simpa using I) (qG _ _)
 ·exact wpList_append_own w U s x t ho E e i z sz mI e1 e2 e3 e4 e5 e6 e7 v n Y hs I ⟨b,a3,none⟩ m cap W hx hl (λj u hj=>by rw[aEo];exact a1 j u hj) h1 Z a0 K (λv' w' h2 h3 _=>h v' w' h2 h3)
theorem eJ.first{w:World}{t:TypeId}{sz n cap:Nat}{E:Option Addr}{K:List Value}(h:eJ w t sz n (.slice E n cap) K){k:Nat}(V:k<=n):eJ w t sz k (.slice E k cap) (K.take (k * sz)):=by
 obtain⟨W,U,J,e,Y,hv⟩:=h
 cases e
 refine⟨?_,E,cap,rfl,by omega,?_⟩
 ·rw[bR,W];exact pV (dV _ V)
 ·rcases hv with ⟨h1,h2,I⟩|⟨b,o,h1,h2,I⟩
  ·exact .inl ⟨h1,by omega,I⟩
  ·exact .inr ⟨b,o,h1,h2,λj u z=>I j u (by rw[aQb] at z;split at z;exact z;cases z)⟩
theorem eJ.rest{w:World}{t:TypeId}{sz n cap b o:Nat}{I:List Value}(h:eJ w t sz n (.slice (some ⟨b,o,none⟩) n cap) I){k:Nat}(W:k<=n):eJ w t sz (n - k) (.slice (some ⟨b,o+k * sz,none⟩) (n - k) (cap - k)) (I.drop (k * sz)):=by
 obtain⟨U,J,z,e,V,hv⟩:=h
 cases e
 refine⟨?_,_,_,rfl,by omega,?_⟩
 ·rw[mB,U,Nat.sub_mul]
 ·rcases hv with ⟨h1,_⟩|⟨b,o,h1,h2,K⟩
  ·cases h1
  ·cases h1
   refine .inr ⟨_,_,rfl,h2,λj u E=>?_⟩;rw[zC] at E;have:=K _ u E;rwa[<- dB] at this
structure AS where
 came:List Bool
 gone:List Bool
 rows:List (List Nat)
 dead:List Bool
def RS.abs(s:RS):AS:=⟨s.came,s.gone,s.rows.map (·.2),s.dead⟩
def aY0(f:Nat)(h:zH)(a a':AS):Prop:=∃X Y Z,a.rows[f]?=some (X++(Y++Z))/\(X++(Y++Z)).Nodup/\aYw a.dead X h.A/\aYx a.dead Z h.B/\(∀n∈h.run,n.1<a.dead.length)/\(X++(Y++Z)).length+h.new.length<=1000000/\h.run.length<=1000000/\a'={ a with rows:=a.rows.set f (X++Y++h.new++Z),dead:=oT a.dead h.run }
def bAu(c:vH)(a a':AS):Prop:=
 (c.kind=0/\c.new<a.came.length/\c.new<a.rows.length/\a'={ a with came:=a.came.set c.new true,rows:=a.rows.set c.new c.cells })\/
 (c.kind=1/\(∃f:Nat,c.file=f/\f<a.gone.length/\a'={ a with gone:=a.gone.set f true,dead:=oT a.dead c.run })/\(∀n∈c.run,n.1<a.dead.length)/\c.run.length<=1000000)\/
 (c.kind=2/\∃f:Nat,c.file=f/\f<a.rows.length/\∃g:Nat->AS,g 0=a/\(∀k h,c.hunks[k]?=some h->aY0 f h (g k) (g (k+1)))/\a'=g c.hunks.length/\c.hunks.length<=1000000)
def aY1(P:RPt)(a a':AS):Prop:=∃g:Nat->AS,g 0=a/\(∀k c,P.chs[k]?=some c->bAu c (g k) (g (k+1)))/\a'=g P.chs.length/\P.chs.length<=1000000
theorem kW(L:List Nat):∀u∈oO L,u.oneCell'=true:=by
 intro u z;obtain⟨k,_,rfl⟩:=aI.1 z;rfl
theorem sI{w wr E:World}{n sz:Nat}{t:TypeId}{v:Value}{K:List Value}(z:Below w.heap.size w wr)(h:wr.ownsRow w.heap.size t sz v n K)(I:wr.grownBy E v.ownBlock):Below w.heap.size w E:=z.grown I z.size (λk J=>(h.lt k J).1)
theorem aRh(p:Nat)(P:RPt)(rb sb:Nat)(D:RD)(s:RS)(a':AS)(w0 w:World)(h:WV w0 rb D)(hp:D.pts[p]?=some P)(hb:Below w0.heap.size w0 w)(hs:zK w w0.heap.size sb s)(hL:aY1 P s.abs a'):
  Calls Tryz.prog 159 #[.pointer (some ⟨rb,0,none⟩),.pointer (some ⟨sb,0,none⟩),.int .i64 p] w λe w'=>e=.returned (.tuple #[])/\(∃s',zK w' w0.heap.size sb s'/\s'.abs=a')/\Below w0.heap.size w0 w':=by
 obtain⟨g,g0,hg,rfl,t3⟩:=hL;have HG:=aO hg;have HW:=aO h;have HS:=aO hs;have HB:=aO hb;have q7:=aO g0;have HP:=aO hp;have r8:=(aB.1 hp).1;obtain⟨nP,k0⟩:∃n,D.pts.length=n:=⟨_,rfl⟩;obtain⟨B,hB⟩:∃B,w0.heap.size=B:=⟨_,rfl⟩;rw[k0] at r8;rw[hB] at HS HB;rw[hB];have m1:Hid (∀u,Below B w0 u->∃b o pc ca cc,u.cell? ⟨rb,0,none⟩=some (.slice (some ⟨b,o,none⟩) nP pc)/\u.cell? ⟨b,o+p * 2+1,none⟩=some (.slice ca P.chs.length cc)/\P.cv=.slice ca P.chs.length cc/\OkP u P):=λu hu=>by
  rw[<- hB] at hu;obtain⟨pa,pc,c0,r9⟩:=(HW.out.below hu).pts_;obtain⟨b,o,rfl,p0,p1,hP⟩:=r9 p P HP.out;obtain⟨ca,cc,b7,-,-⟩:=hP.1.each (λ_=>rfl);rw[b7] at p1;rw[k0] at c0;exact⟨b,o,pc,ca,cc,c0,p1,b7,hP⟩
 clear h hs hb hg g0 hp HW HP k0;go_enter Tryz.func159,Tryz.ntmps159;go_wp2
 go_loopw [6] (λi wr=>∃k:Nat,k<=P.chs.length/\i=.int .i64 k/\Hid (∃s',zK wr B sb s'/\s'.abs=g k)/\Hid (Below B w0 wr)) (λi _=>P.chs.length - (intOf i).toNat)
 case atStart=>exact⟨0,aE _,rfl,⟨s,HS.out,q7.out.symm⟩,HB.out⟩
 case round=>
  clear HS HB;obtain⟨k,hk,rfl,HS,HB⟩:=hrel;obtain⟨pb,po,pc,ca,cc,c0,c1,b7,hP⟩:=m1.out wr HB.out;by_cases r6:k<P.chs.length
  ·obtain⟨c,hc⟩:∃c,P.chs[k]?=some c:=⟨_,aC r6⟩;obtain⟨_,_,e1,-,c4⟩:=hP.1.each (λ_=>rfl);rw[b7] at e1
   cases e1
   obtain⟨b,o,rfl,-,K⟩:=c4 k _ hc;have d0:wr.cell? ⟨b,o+k * 7,none⟩=some (.string c.name):=K 0 _ rfl;have d1:wr.cell? ⟨b,o+k * 7+1,none⟩=some (.int .i64 c.kind):=K 1 _ rfl;have d2:wr.cell? ⟨b,o+k * 7+2,none⟩=some (.int .i64 c.file):=K 2 _ rfl;have d3:wr.cell? ⟨b,o+k * 7+3,none⟩=some (.int .i64 c.new):=K 3 _ rfl;have d4:wr.cell? ⟨b,o+k * 7+4,none⟩=some c.cv:=K 4 _ rfl;have d5:wr.cell? ⟨b,o+k * 7+5,none⟩=some c.rv:=K 5 _ rfl;have d6:wr.cell? ⟨b,o+k * 7+6,none⟩=some c.hv:=K 6 _ rfl;have HC:=aO (HG.out k c hc);have c9:=hP.2 c (aD hc);have f6:=aO c9;obtain⟨xa,xc,hx,-,-⟩:=RI.each c9.1;obtain⟨ya,yc,hy,-,-⟩:=c9.2.1.each (λ_=>rfl);obtain⟨za,zc,hz,-,-⟩:=c9.2.2.1.each (λ_=>rfl);rw[hx] at d4;rw[hy] at d5;rw[hz] at d6;have HX:=aO (And.intro hx (And.intro hy hz));clear c4 K c9 hP b7 hx hy hz;have q8:=aD hc;clear hc;obtain⟨f9,I⟩:=aGp wr #[.string c.name,.int .i64 c.kind,.int .i64 c.file,.int .i64 c.new,.slice xa c.cells.length xc,.slice ya c.run.length yc,.slice za c.hunks.length zc] 265;have f8:B<=wr.heap.size:=by rw[<- hB];exact HB.out.size
   have a5:Hid (Below B w0 (wr.alloc (.cells #[.string c.name,.int .i64 c.kind,.int .i64 c.file,.int .i64 c.new,.slice xa c.cells.length xc,.slice ya c.run.length yc,.slice za c.hunks.length zc] 265))):=HB.out.trans (f9.mono f8);obtain⟨s1,a2,b2⟩:=HS.out;replace a2:=a2.below f9;have W:=aO (f6.out.below f9);obtain⟨u1,k9⟩:∃u1,wr.alloc (.cells #[.string c.name,.int .i64 c.kind,.int .i64 c.file,.int .i64 c.new,.slice xa c.cells.length xc,.slice ya c.run.length yc,.slice za c.hunks.length zc] 265)=u1:=⟨_,rfl⟩;have HU:=aO k9;rw[k9] at I a5 a2 W;clear k9 f9;rcases HC.out with ⟨z,g5,g6,V⟩|⟨z,⟨f,hf,b8,V⟩,k6,s4⟩|⟨z,f,hf,b8,g2,j4,n5,V,t4⟩
   ·rw[<- b2] at g5 g6 V;obtain⟨q,qc,q0,⟨_,q1⟩,q2,q3,q4⟩:=a2.setB 0 (.inl rfl) (c:=c.new) g5;obtain⟨r,rc,r0,⟨_,r1⟩,r2,r3,r4⟩:=(q3.below (Below.refl _ _).drew).setRow (c:=c.new) (v:=c.cv) (L:=c.cells) (by simpa[RS.setB,RS.abs] using g6) ((W.out.1.held q4.held (by simp[fix])).below (Below.refl _ _).drew);rw[HX.out.1] at r3 r4;have k3:=(q4.held.keep _ 265 ⟨_,_,I⟩ (by simp[fix])).trans I;have o1:((c.kind:Int) == 0)=true:=by simp[z]
    have j0:Hid (∃s',zK _ B sb s'/\s'.abs=g (k+1)):=⟨_,r3.below (Below.refl _ _).drew,by rw[V];simp[RS.abs,RS.setB,List.map_set]⟩;have a6:Hid (Below B w0 _):=((a5.out.trans q4.below).drew.trans r4.below).drew;have e1:u1.cell? ⟨wr.heap.size,1,none⟩=some (.int .i64 c.kind):=by simp[World.cell?,I]
    have e3:u1.cell? ⟨wr.heap.size,3,none⟩=some (.int .i64 c.new):=by simp[World.cell?,I]
    have e4:(u1.setCell ⟨q,c.new,none⟩ (.bool true)).drew.cell? ⟨wr.heap.size,3,none⟩=some (.int .i64 c.new):=by
     show World.cell? (u1.setCell ⟨q,c.new,none⟩ (.bool true)) _=_;simp[World.cell?,k3]
    have e5:(u1.setCell ⟨q,c.new,none⟩ (.bool true)).drew.cell? ⟨wr.heap.size,4,none⟩=some (.slice xa c.cells.length xc):=by
     show World.cell? (u1.setCell ⟨q,c.new,none⟩ (.bool true)) _=_;simp[World.cell?,k3]
    have r7:c.new<(s1.getB 0).length:=g5;have t6:c.new<(s1.setB 0 c.new).rows.length:=by simpa[RS.setB,RS.abs] using g6
    generalize (s1.getB 0).length=n1 at *;generalize (s1.setB 0 c.new).rows.length=n2 at *;clear I k3 q3 q4 r3 r4 g5 g6 V b2 a2 f6 W HX HC HB a5 z;generalize c.kind=ck at *;generalize c.new=cn at *
    go_wp2_with fail
    rw[HU.out];clear d0 d1 d2 d3 d4 d5 d6 c0 c1 HU
    go_region
    go_wp2_with fail
    go_region
    go_wp2
    go_roundw
    case rel=>exact⟨k+1,by omega,by go_num,j0,a6⟩
    case measure=>simp[intOf];omega
   ·rw[<- b2] at b8 V k6;obtain⟨q,qc,q0,⟨_,q1⟩,q2,q3,q4⟩:=a2.setB 1 (.inr (.inl rfl)) (c:=f) b8;have k3:=(q4.held.keep _ 265 ⟨_,_,I⟩ (by simp[fix])).trans I;have o1:((c.kind:Int) == 0)=false:=by simp[z]
    have o2:((c.kind:Int) == 1)=true:=by simp[z]
    have HK:=aO (aDf c.run c.rv B sb _ _ (q3.below (Below.refl _ _).drew) ((W.out.2.1.held q4.held (by simp[fix])).below (Below.refl _ _).drew) k6 s4);rw[HX.out.2.1] at HK;have j0:Hid (((s1.setB 1 f).kill c.run).abs=g (k+1)):=by
     show _=_;rw[V];simp[RS.abs,RS.setB,RS.kill]
    have a6:=aO (a5.out.trans q4.below).drew;have e1:u1.cell? ⟨wr.heap.size,1,none⟩=some (.int .i64 c.kind):=by simp[World.cell?,I]
    have e3:u1.cell? ⟨wr.heap.size,2,none⟩=some (.int .i64 c.file):=by simp[World.cell?,I]
    have e5:(u1.setCell ⟨q,f,none⟩ (.bool true)).drew.cell? ⟨wr.heap.size,5,none⟩=some (.slice ya c.run.length yc):=by
     show World.cell? (u1.setCell ⟨q,f,none⟩ (.bool true)) _=_;simp[World.cell?,k3]
    rw[hf] at e3 HU d2;clear hf;have r7:f<(s1.getB 1).length:=b8;generalize (s1.getB 1).length=n1 at *;clear I k3 q3 q4 b8 V b2 a2 f6 W HX HC HB a5 z k6;generalize c.kind=ck at *
    go_wp2_with fail
    rw[HU.out];clear d0 d1 d2 d3 d4 d5 d6 c0 c1 HU
    go_region
    go_wp2_with fail
    refine HK.out.mono ?_;rintro e w2 ⟨rfl,z1,z2⟩;clear HK q0 q1 q2 e1 e3 e5;go_wp2
    go_roundw
    case rel=>exact⟨k+1,by omega,by go_num,⟨_,z1,j0.out⟩,a6.out.trans z2.below⟩
    case measure=>simp[intOf];omega
   ·rw[<- b2] at j4 b8;have o1:((c.kind:Int) == 0)=false:=by simp[z]
    have o2:((c.kind:Int) == 1)=false:=by simp[z]
    have l6:=aO n5;have l8:=aO V;have m3:=aO a2;have l7:=aO j4;have e1:u1.cell? ⟨wr.heap.size,1,none⟩=some (.int .i64 c.kind):=by simp[World.cell?,I]
    rw[hf] at HU d2 I;obtain⟨cb,n4⟩:∃cb,wr.heap.size=cb:=⟨_,rfl⟩;have a3:=aO I;rw[n4] at a3;have t0:B<=cb:=by omega
    have f4:Hid (∀u,Below B w0 u->OkC u c):=λu hu=>by
     obtain⟨_,_,_,_,_,_,_,_,hP⟩:=m1.out u hu;exact hP.2 c q8
    have q9:∀kk,(g2 kk).rows.length=s1.rows.length->True:=λ_ _=>trivial;clear q9 hf z V n5 j4 b2 a2 f6 W HC HB I;generalize c.kind=ck at *
    go_wp2_with fail
    rw[HU.out];clear d0 d1 d2 d3 d4 d5 d6 c0 c1 HU;clear e1
    go_loopw [8] (λi wi=>∃t:Nat,t<=c.hunks.length/\i=.int .i64 t/\Hid (∃s',zK wi B sb s'/\s'.abs=g2 t)/\Hid (Below B w0 wi)/\Hid (wi.heap[cb]?=some (.cells #[.string c.name,.int .i64 ck,.int .i64 f,.int .i64 c.new,.slice xa c.cells.length xc,.slice ya c.run.length yc,.slice za c.hunks.length zc] 265 (0,0)))) (λi _=>c.hunks.length - (intOf i).toNat)
    case atStart=>exact⟨0,aE _,rfl,⟨s1,m3.out,l7.out.symm⟩,a5.out,a3⟩
    case round=>
     clear HS m3 a5 a3 n4 f8;obtain⟨t,ht,rfl,HS,HB,a3⟩:=hrel;have e6:wr.cell? ⟨cb,6,none⟩=some (.slice za c.hunks.length zc):=by have:=a3.out;simp[World.cell?,this]
     by_cases s5:t<c.hunks.length
     ·obtain⟨h,hh⟩:∃h,c.hunks[t]?=some h:=⟨_,aC s5⟩;obtain⟨s2,p9,m9⟩:=HS.out;obtain⟨X,Y,Z,d7,o7,hA,j5,h7,o3,p6,j8⟩:=l6.out t h hh;rw[<- m9] at d7 hA j5 h7 j8;have k1:=f4.out wr HB.out;obtain⟨_,_,e1,-,c4⟩:=k1.2.2.1.each (λ_=>rfl);rw[HX.out.2.2] at e1
      cases e1
      obtain⟨b,o,rfl,-,K⟩:=c4 t _ hh;have c6:=k1.2.2.2 h (aD hh);have d0:wr.cell? ⟨b,o+t * 4,none⟩=some (.int .i64 h.A):=K 0 _ rfl;have d1:wr.cell? ⟨b,o+t * 4+1,none⟩=some (.int .i64 h.B):=K 1 _ rfl;have d2:wr.cell? ⟨b,o+t * 4+2,none⟩=some h.rv:=K 2 _ rfl;have d3:wr.cell? ⟨b,o+t * 4+3,none⟩=some h.nv:=K 3 _ rfl;obtain⟨ra,rc,p7,-,-⟩:=c6.1.each (λ_=>rfl);obtain⟨na,nc,o8,-,-⟩:=RI.each c6.2;rw[p7] at d2;rw[o8] at d3;obtain⟨b3,o0⟩:=aGp wr #[.int .i64 h.A,.int .i64 h.B,.slice ra h.run.length rc,.slice na h.new.length nc] 269;have f8:B<=wr.heap.size:=by rw[<- hB];exact HB.out.size
      have h8:=aO (HB.out.trans (b3.mono f8));obtain⟨rv,p8⟩:∃v,s2.rows[f]?=some (v,X++(Y++Z)):=by
       have:(s2.rows.map (·.2))[f]?=some (X++(Y++Z)):=d7;rw[aP] at this
       cases hq:s2.rows[f]? with
       | none=>rw[hq] at this;cases this
       | some q=>rw[hq] at this;simp at this;exact⟨q.1,by rw[<- this]⟩
      have h4:=(aB.1 p8).1;have f7:=aO (p9.below b3);obtain⟨sa,sc,s0,q5⟩:=f7.out.view.rows_;obtain⟨t8,t9,rfl,s3,g8⟩:=q5 f rv _ p8;obtain⟨d9,a9,s6,-,-⟩:=RI.each g8;rw[s6] at s3 g8;obtain⟨nr,g7⟩:∃nr,(X++(Y++Z)).length=nr:=⟨_,rfl⟩;obtain⟨J,j9⟩:∃J,(X++Y).length=J:=⟨_,rfl⟩;have o6:J<=nr:=by rw[<- g7,<- j9];simp
      rw[g7] at s3 o3;have E:=aO (And.intro g7 j9);clear g7 j9;have k2:=(b3.block cb (by have:=a3.out;exact(aV.1 this).1)).trans a3.out;have e2:(wr.alloc (.cells #[.int .i64 h.A,.int .i64 h.B,.slice ra h.run.length rc,.slice na h.new.length nc] 269)).cell? ⟨cb,2,none⟩=some (.int .i64 f):=by simp[World.cell?,k2]
      have b9:=aO o0;have e7:=aO k2;have i8:=aO g8;obtain⟨u2,l0⟩:∃u2,wr.alloc (.cells #[.int .i64 h.A,.int .i64 h.B,.slice ra h.run.length rc,.slice na h.new.length nc] 269)=u2:=⟨_,rfl⟩;rw[l0] at h8 f7 s0 s3 e2 b9 e7 i8 b3;have m5:=aO l0;obtain⟨U,n9⟩:∃U,wr.heap.size=U:=⟨_,rfl⟩;rw[n9] at b9;have HH:=aO hh;clear o0 k2 g8 q5 c4 K k1 hh m9 p9 HS a3 d7 l0
      go_wp2_with fail
      rw[m5.out];clear m5 d0 d1 d2 d3 e6
      go_quiet (fail)
      have b4:=below_drewN (Below.refl u2.heap.size u2) nq;generalize u2.drewN nq=u3 at *;clear s0 s3 e2;have i9:=aO (f7.out.below b4);have i4:=aO (h8.out.trans (b4.mono (by have:=b3.size;omega)));have c2:=aO (i8.out.below b4);have k3:=(b4.block U (aV.1 b9.out).1).trans b9.out;have n0:=(b4.block cb (aV.1 e7.out).1).trans e7.out;have i7:=aO k3;have i5:=aO n0;have a6:=aO (qH X Y Z h.A h.B ra na h.run.length rc h.new.length nc _ sb s2 u3 i9.out.view c2.out o7 hA j5 (by rw[E.out.1];omega));rw[E.out.1,E.out.2] at a6;have f0:u3.cell? ⟨U,0,none⟩=some (.int .i64 h.A):=by simp[World.cell?,k3]
      have f1:u3.cell? ⟨U,1,none⟩=some (.int .i64 h.B):=by simp[World.cell?,k3]
      have f2:u3.cell? ⟨U,2,none⟩=some (.slice ra h.run.length rc):=by simp[World.cell?,k3]
      have f3:u3.cell? ⟨U,3,none⟩=some (.slice na h.new.length nc):=by simp[World.cell?,k3]
      clear k3 n0 b9 e7 f7 h8 i8 hA j5 b3
      go_wp2_with fail
      refine a6.out.mono ?_;rintro e w4 ⟨rfl,b6⟩;clear a6 f0 f1 f2 f3;have e0:=aO (i4.out.trans (b6.mono (by have:=i4.out.size;omega)));have m4:=aO (i9.out.below b6);have a4:=aO (c2.out.below b6);have k4:=(b6.block U (aV.1 i7.out).1).trans i7.out;have i6:=aO ((b6.block cb (aV.1 i5.out).1).trans i5.out);have e8:=aO k4;have o4:=RI.each a4.out;clear k4 i4 i9 c2 i7 i5 b6 b4;have m8:B<=w4.heap.size:=by rw[<- hB];exact e0.out.size
      obtain⟨_,s9,s7,e5,j6,l5⟩:=a4.out;rw[E.out.1] at e5
      cases e5
      rw[E.out.1] at l5 j6;have h6:=a4.out;rw[E.out.1] at h6;have j7:eJ w4 3 1 J (.slice d9 J a9) (oO (X++Y)):=by
       have:=eJ.first a4.out (k:=J) (by rw[E.out.1];exact o6)
       have e:(oO (X++(Y++Z))).take (J * 1)=oO (X++Y):=by rw[<- E.out.2,<- bG,jW];exact(congrArg (List.take _) (bF ..)).trans (vM (aT ..))
       rwa[e] at this
      have k5:∀b o,d9=some ⟨b,o,none⟩->eJ w4 3 1 (nr - J) (.slice (some ⟨b,o+J,none⟩) (nr - J) (a9 - J)) (oO Z):=λb o e9=>by
       have h9:=a4.out;rw[e9] at h9;have:=eJ.rest h9 (k:=J) (by rw[E.out.1];exact o6);have e:(oO (X++(Y++Z))).drop (J * 1)=oO Z:=by rw[<- E.out.2,<- bG,jW];exact(congrArg (List.drop _) (bF ..)).trans (aHr (aT ..))
       rw[e,E.out.1,jW] at this;exact this
      have m0:=aO ((f4.out w4 e0.out).2.2.2 h (aD HH.out)).2;have c5:eJ w4 3 1 h.new.length (.slice na h.new.length nc) (oO h.new):=by
       have:=m0.out;rwa[o8] at this
      obtain⟨x1,g9⟩:∃x1,oO (X++Y)=x1:=⟨_,rfl⟩;obtain⟨x2,h0⟩:∃x2,oO h.new=x2:=⟨_,rfl⟩;obtain⟨x3,d8⟩:∃x3,oO Z=x3:=⟨_,rfl⟩;have b0:=aO (And.intro (kW (X++Y)) (And.intro (kW h.new) (kW Z)));have j3:Hid (x1++x2++x3=oO (X++Y++h.new++Z)/\J+h.new.length+(nr - J)=(X++Y++h.new++Z).length):=by
       refine⟨?_,?_⟩
       ·rw[<- g9,<- h0,<- d8];simp only[oO,bF]
       ·rw[<- E.out.1,<- E.out.2];simp;omega
      rw[g9] at j7;rw[h0] at c5;rw[g9,h0,d8] at b0;rw[d8] at k5;generalize r5:h.new.length=hn at *;have HZ:=aO d8;clear g9 h0 d8 m0 h6 o4 r5;have f3:w4.cell? ⟨U,3,none⟩=some (.slice na hn nc):=by have:=e8.out;simp[World.cell?,this]
      have b1:(d9=none/\nr=0/\J=0/\a9=0/\eJ w4 3 1 (nr - J) (.slice none 0 0) x3)\/(∃b o,d9=some ⟨b,o,none⟩/\nr=J/\a9=J/\eJ w4 3 1 (nr - J) (.slice (some ⟨b,o,none⟩) 0 0) x3)\/∃b o,d9=some ⟨b,o,none⟩/\J<a9/\eJ w4 3 1 (nr - J) (.slice (some ⟨b,o+J,none⟩) (nr - J) (a9 - J)) x3:=by
       have q6:nr=J->x3.length=0:=λe=>by
        have h1:=E.out.1;have h2:=E.out.2;simp at h1 h2;rw[<- HZ.out,aT];omega
       rcases l5 with ⟨q1,q2,q3⟩|⟨b5,o5,q1,q2,-⟩
       ·exact .inl ⟨q1,q2,by omega,q3,by rw[q6 (by omega)];omega,none,0,by rw[show nr - J=0 by omega],by omega,.inl ⟨rfl,by omega,rfl⟩⟩
       ·by_cases hx:a9=J
        ·have hz:=q6 (by omega);exact .inr (.inl ⟨b5,o5,q1,by omega,hx,by rw[hz];omega,some ⟨b5,o5,none⟩,0,by rw[show nr - J=0 by omega],by omega,.inr ⟨b5,o5,rfl,q2,λj u hj=>by rw[aS hz] at hj;simp at hj⟩⟩)
        ·exact .inr (.inr ⟨b5,o5,q1,by omega,k5 b5 o5 q1⟩)
      clear l5 k5;have h3:Hid (∀w7 v7,Below w4.heap.size w4 w7->eJ w7 3 1 (J+hn+(nr - J)) v7 (x1++x2++x3)->Hid (Below B w0 w7)/\∃q qc,w7.cell? ⟨sb,2,none⟩=some (.slice (some ⟨q,0,none⟩) s2.rows.length qc)/\(∃u,w7.cell? ⟨q,f,none⟩=some u)/\w7.frozen? ⟨q,f,none⟩=false/\w7.cell? ⟨cb,2,none⟩=some (.int .i64 f)/\(w7.setCell ⟨q,f,none⟩ v7).drew.cell? ⟨U,2,none⟩=some (.slice ra h.run.length rc)/\Hid (Calls Tryz.prog 212 #[.pointer (some ⟨sb,0,none⟩),.slice ra h.run.length rc] (w7.setCell ⟨q,f,none⟩ v7).drew λe w'=>e=.returned (.tuple #[])/\(∃s',zK w' B sb s'/\s'.abs=g2 (t+1))/\Below B w0 w'/\w'.heap[cb]?=some (.cells #[.string c.name,.int .i64 ck,.int .i64 f,.int .i64 c.new,.slice xa c.cells.length xc,.slice ya c.run.length yc,.slice (some ⟨b,o,none⟩) c.hunks.length zc] 265 (0,0)))):=λw7 v7 a7 p5=>by
       have m6:=e0.out.trans (a7.mono m8);refine⟨m6,?_⟩;rw[j3.out.1,j3.out.2] at p5;obtain⟨q,qc,q0,q1,q2,q3,q4⟩:=(m4.out.below a7).setRow (c:=f) h4 p5;have c7:=(a7.block cb (aV.1 i6.out).1).trans i6.out;have k7:=(a7.block U (aV.1 e8.out).1).trans e8.out;have c8:=(q4.held.keep _ 265 ⟨_,_,c7⟩ (by simp[fix])).trans c7;have k8:=(q4.held.keep _ 269 ⟨_,_,k7⟩ (by simp[fix])).trans k7;have m7:Below B w0 (w7.setCell ⟨q,f,none⟩ v7).drew:=(m6.trans q4.below).drew;have c6:=((f4.out _ m7).2.2.2 h (aD HH.out)).1;rw[p7] at c6;refine⟨q,qc,q0,q1,q2,by simp[World.cell?,c7],?_,?_⟩
       ·show World.cell? (w7.setCell ⟨q,f,none⟩ v7) _=_;simp[World.cell?,k8]
       ·refine(aDf h.run _ B sb _ _ (q3.below (Below.refl _ _).drew) c6 h7 p6).mono ?_;rintro e w' ⟨rfl,z1,z2⟩;refine⟨rfl,⟨_,z1,?_⟩,m7.trans z2.below,(z2.held.keep _ 265 ⟨_,_,c8⟩ (by simp[fix])).trans c8⟩;rw[j8];simp[RS.abs,RS.kill,List.map_set]
      clear j3 m4 e0 i6 f4 j8 o7 l6 l8;rcases b1 with ⟨rfl,rfl,rfl,rfl,b1⟩|⟨b5,o5,rfl,rfl,rfl,b1⟩|⟨b5,o5,rfl,t5,b1⟩
      all_goals
       go_wp2_with (at_builtin;refine mW ei3 _ rfl _ _ rfl w4.heap.size (.slice none 0 0) 0 [] rfl (aK _ _ _ _) _ _ _ rfl j7 b0.out.1 (by unfold maxLen;omega) (by omega) (aA _) ?_)
       intro v5 w5 a0 n6;have c3:=sI (Below.refl w4.heap.size w4) (aK w4 w4.heap.size 3 1) n6;have f5:w5.cell? ⟨U,3,none⟩=some (.slice na hn nc):=(c3.cell (p:=⟨U,3,none⟩) (aV.1 e8.out).1).trans f3;obtain⟨u0,u4,rfl⟩:=bC a0;have h5:=c5.below c3;clear n6 f3 j7 c5
       go_wp2_with (at_builtin;refine mW ei3 _ rfl _ _ rfl w4.heap.size _ _ _ rfl a0 _ _ _ rfl h5 b0.out.2.1 (by unfold maxLen;omega) (by omega) c3.size ?_)
       intro v6 w6 a1 n7;have g4:=sI c3 a0 n7;obtain⟨u5,u6,rfl⟩:=bC a1;have o9:=b1.below g4;clear n7 f5 h5 a0 c3
       go_wp2_with (at_builtin;refine mW ei3 _ rfl _ _ rfl w4.heap.size _ _ _ rfl a1 _ _ _ rfl o9 b0.out.2.2 (by unfold maxLen;omega) (by omega) g4.size ?_)
       intro v7 w7 a8 n8;have a7:=sI g4 a1 n8;obtain⟨u7,u8,rfl⟩:=bC a8;obtain⟨s8,q,qc,q0,⟨_,q1⟩,q2,e2,e3,l9⟩:=h3.out w7 _ a7 (by have:=eJ.own a8;simpa[bG] using this);clear n8 o9 a1 a8 g4 b1 a7 h3;have t7:=h4;generalize s2.rows.length=n2 at *
       go_wp2_with fail
       go_region
       go_wp2_with fail
       refine l9.out.mono ?_;rintro e w9 ⟨rfl,z1,z2,z3⟩;clear l9 q0 q1 q2 e2 e3;go_wp2
       go_roundw
       case rel=>exact⟨t+1,by omega,by go_num,z1,z2,z3⟩
       case measure=>simp[intOf];omega
     ·have e:t=c.hunks.length:=by omega
      subst e;go_wp2
      go_roundw
      case rel=>exact⟨k+1,by omega,by go_num,by rw[l8.out];exact HS,HB⟩
      case measure=>simp[intOf];omega
  ·have e:k=P.chs.length:=by omega
   subst e;clear hP b7;go_wp2
   go_end0
   exact⟨rfl,HS.out,HB.out⟩
structure iA where
 cb:cL->Nat
 fi:ByteArray->cL->Nat
def fI(e:iA)(t:aU):Nat:=e.cb (mM t)+t.num.toNat
def sC(e:iA)(t:aU):Nat×Bool:=(fI e t,!t.alive)
def edg(e:iA)(t:aU):Int:=if t.num<0 then -1 else fI e t
def fil(e:iA)(x:ByteArray)(l:cL):Int:=if l=lF then -1 else e.fi x l
def zI(e:iA)(h:Hk)(r:zH):Prop:=∃a M b,h.N=a::(M++[b])/\r.A=edg e a/\r.B=edg e b/\r.run=M.map (sC e)/\r.new=h.Br.map (fI e)
def tN(e:iA)(c:ByteArray×fM)(r:vH):Prop:=r.name=c.1/\match c.2 with
 | .add i l _ S=>r.kind=0/\r.file=fil e c.1 l/\r.new=e.fi c.1 i/\r.cells=S.map (fI e)/\r.run=[]/\r.hunks=[]
 | .remove i _ S=>r.kind=1/\r.file=e.fi c.1 i/\r.run=S.map (sC e)/\r.hunks=[]
 | .alter i _ Hs=>r.kind=2/\r.file=e.fi c.1 i/\r.run=[]/\r.hunks.length=Hs.length/\∀(k:Nat) (h:Hk) (q:zH),Hs[k]?=some h->r.hunks[k]?=some q->zI e h q
theorem aFn(e:iA)(t:aU):fI e (lY t)=fI e t:=rfl
theorem aBv(e:iA)(M:List aU):(cD M).map (fI e)=M.map (fI e):=by
 unfold cD;rw[fG];rfl
theorem qZ{e:iA}{t:aU}(h:0<=t.num):edg e t=(fI e t:Nat):=by unfold edg;rw[if_neg (by omega)]
theorem gS.split{S N Br W:List aU}(h:gS (aM S) N Br W):∃X M Z a b,S=X++(M++Z)/\N=a::(M++[b])/\W=aM (X++(cD M++(Br++Z)))/\((a=jR/\X=[])\/∃X',X=X'++[a])/\((b=lD/\Z=[])\/∃I,Z=b::I)/\a.alive=true/\b.alive=true:=by
 obtain⟨A,a,M,b,C,rfl,h1,rfl,Y,hb,-⟩:=h;have E:∀{T:List aU},S++[lD]=T++b::C->∃Z,S=T++Z/\b::C=Z++[lD]/\((b=lD/\Z=[])\/∃I,Z=b::I):=by
  intro T U;rcases List.eq_nil_or_concat C with rfl|⟨V,z,rfl⟩
  ·have:=jY U rfl
   cases this.2
   exact⟨[],by rw[this.1];simp,rfl,.inl ⟨rfl,rfl⟩⟩
  ·rw[List.concat_eq_append] at U ⊢;have h2:S++[lD]=(T++b::V)++[z]:=by rw[U];simp
   have:=jY h2 rfl
   cases this.2
   exact⟨b::V,by rw[this.1],rfl,.inr ⟨_,rfl⟩⟩
 cases A with
 | nil=>
  simp only[aM,cY,cI,fY,bG] at h1;obtain⟨rfl,h2⟩:=h1;obtain⟨Z,rfl,J,K⟩:=E (T:=M) (by simpa using h2);refine⟨[],M,Z,jR,b,rfl,rfl,?_,.inl ⟨rfl,rfl⟩,K,Y,hb⟩;simp[aM,J]
 | cons z A'=>
  simp only[aM,cI,fY,bG] at h1;obtain⟨rfl,h2⟩:=h1;obtain⟨Z,hS,J,K⟩:=E (T:=A'++a::M) (by simpa using h2);refine⟨A'++[a],M,Z,a,b,by rw[hS];simp,rfl,?_,.inr ⟨_,rfl⟩,K,Y,hb⟩;simp[aM,J]
theorem qC(run:List (Nat×Bool)):∀(d:List Bool) (c:Nat),c<d.length->(oT d run)[c]?=if c∈run.map (·.1) then some true else d[c]?:=by
 induction run with
 | nil=>intro d c _;simp[oT]
 | cons n L ih=>
  intro d c z;show (oT (d.set n.1 true) L)[c]?=_;rw[ih _ _ (by simpa using z)];by_cases h1:c∈L.map (·.1)
  ·simp[h1]
  ·rw[if_neg h1];by_cases h2:c=n.1
   ·subst h2;simp[z]
   ·rw[dE (Ne.symm h2),if_neg (by simp only[cU,cC,not_or];exact⟨h2,h1⟩)]
theorem uJ(e:iA)(M:List aU):(M.map (sC e)).map (·.1)=M.map (fI e):=by rw[fG];rfl
structure aE8 (e:iA) (dead:List Bool) (S B:List aU):Prop where
 num:∀t∈S++B,0<=t.num
 nd:((S++B).map (fI e)).Nodup
 dd:∀t∈S++B,dead[fI e t]?=some (!t.alive)
theorem aE8.lt{e:iA}{dead:List Bool}{S B:List aU}(h:aE8 e dead S B){t:aU}(z:t∈S++B):fI e t<dead.length:=(aB.1 (h.dd t z)).1
theorem aXi{e:iA}{f:Nat}{h:Hk}{q:zH}{S S':List aU}{a:AS}{R:List aU}(hs:gS (aM S) h.N h.Br (aM S'))(hr:zI e h q)(hf:a.rows[f]?=some (S.map (fI e)))(z:aE8 e a.dead S (h.Br++R))(hl:S.length+h.Br.length<=1000000)(hN:h.N.length<=1000000):
  ∃J,aY0 f q a J/\J.came=a.came/\J.gone=a.gone/\J.rows=a.rows.set f (S'.map (fI e))/\J.dead.length=a.dead.length/\aE8 e J.dead S' R/\∀c,c∉S.map (fI e)->J.dead[c]?=a.dead[c]?:=by
 obtain⟨X,M,Z,x,y,hS,h1,h2,h3,h4,h5,h6⟩:=hs.split;subst hS;obtain⟨x',M',y',U,r2,r3,r4,r5⟩:=hr;rw[h1] at U hN;simp only[fY] at U;obtain⟨rfl,U⟩:=U;have:=jY U rfl
 cases this.2
 obtain rfl:=this.1;have a2:S'=X++(cD M++(h.Br++Z)):=by
  have:=h2;simp only[aM,fY,true_and] at this;exact(jY this rfl).1
 subst a2;clear this h2 U;have W:∀t∈M,fI e t<a.dead.length:=λt E=>z.lt (by simp[E]);have a1:∀n∈q.run,n.1<a.dead.length:=λn hn=>by
  rw[r4] at hn;obtain⟨t,E,rfl⟩:=aI.1 hn;exact W t E
 have hd:∀t∈X++Z,t.alive=true->a.dead[fI e t]?=some false:=λt E ha=>by
  have:=z.dd t (by simp only[aG] at E ⊢;rcases E with h|h<;>simp[h]);rwa[ha] at this
 refine⟨{ a with rows:=a.rows.set f (X.map (fI e)++M.map (fI e)++q.new++Z.map (fI e)),dead:=oT a.dead q.run },⟨X.map (fI e),M.map (fI e),Z.map (fI e),by rw[hf];simp,?_,?_,?_,a1,?_,?_,rfl⟩,rfl,rfl,?_,xP _ _,?_,?_⟩
 ·have:=z.nd;rw[bF] at this;have:=(cP.1 this).1;simpa using this
 ·rcases h3 with ⟨rfl,rfl⟩|⟨X',rfl⟩
  ·exact .inl ⟨by rw[r2];rfl,rfl⟩
  ·exact .inr ⟨X'.map (fI e),fI e x,by simp,by rw[r2,qZ (z.num x (by simp))],hd x (by simp) h5⟩
 ·rcases h4 with ⟨rfl,rfl⟩|⟨Z',rfl⟩
  ·exact .inl ⟨by rw[r3];rfl,rfl⟩
  ·exact .inr ⟨fI e y,Z'.map (fI e),by simp,by rw[r3,qZ (z.num y (by simp))],hd y (by simp) h6⟩
 ·rw[r5];simp only[aJ,aT] at hl ⊢;omega
 ·rw[r4,aT];simp only[aY,aJ] at hN;omega
 ·show a.rows.set f _=_;rw[r5];congr 1;simp[aBv]
 ·have a0:=z.nd;have hp:((X++(cD M++(h.Br++Z))++R).map (fI e)).Perm ((X++(M++Z)++(h.Br++R)).map (fI e)):=by
   simp only[bF,aBv,bG];refine gJ _ (gJ _ ?_);exact bAj _ _ _
  have I:∀t∈X++(cD M++(h.Br++Z))++R,(t∈cD M)\/(t∈X++(M++Z)++(h.Br++R)/\fI e t∉M.map (fI e)):=by
   intro t E;by_cases hm:t∈cD M
   ·exact .inl hm
   refine .inr ?_;have Y:((M++(X++(Z++(h.Br++R)))).map (fI e)).Nodup:=by
    refine(List.Perm.nodup_iff ?_).2 a0;refine List.Perm.map _ ?_;simp only[bG];exact bAj _ _ _
   rw[bF] at Y;have V:=(cP.1 Y).2.2;have K:t∈X++(Z++(h.Br++R)):=by
    simp only[aG] at E ⊢;rcases E with (h|h|h|h)|h
    ·exact .inl h
    ·exact absurd h hm
    ·exact .inr (.inr (.inl h))
    ·exact .inr (.inl h)
    ·exact .inr (.inr (.inr h))
   refine⟨?_,λhc=>V _ hc _ (aI.2 ⟨t,K,rfl⟩) rfl⟩;simp only[aG] at K ⊢;rcases K with h|h|h|h
   ·exact .inl (.inl h)
   ·exact .inl (.inr (.inr h))
   ·exact .inr (.inl h)
   ·exact .inr (.inr h)
  refine⟨λt E=>?_,(List.Perm.nodup_iff hp).2 a0,λt E=>?_⟩
  ·rcases I t E with h|⟨h,_⟩
   ·obtain⟨u,hu,rfl⟩:=aI.1 h;exact z.num u (by simp[hu])
   ·exact z.num t h
  ·show (oT a.dead q.run)[fI e t]?=_;rcases I t E with h|⟨h,hn⟩
   ·obtain⟨u,hu,rfl⟩:=aI.1 h;rw[qC _ _ _ (by rw[aFn];exact W u hu),r4,uJ,aFn,if_pos (aI.2 ⟨u,hu,rfl⟩)];rfl
   ·rw[qC _ _ _ (z.lt h),r4,uJ,if_neg hn];exact z.dd t h
 ·intro c hc;show (oT a.dead q.run)[c]?=_;by_cases a3:c<a.dead.length
  ·rw[qC _ _ _ a3,r4,uJ,if_neg (λh=>hc (by simp only[bF,aG];exact .inr (.inl h)))]
  ·rw[gK (by rw[xP];omega),gK (by omega)]
theorem aOo{e:iA}{f:Nat}:∀(J:List Hk) (I:List zH) (S K:List aU) (a:AS),fR (aM S) J (aM K)->I.length=J.length->(∀(k:Nat) (h:Hk) (q:zH),J[k]?=some h->I[k]?=some q->zI e h q)->a.rows[f]?=some (S.map (fI e))->aE8 e a.dead S (J.flatMap (·.Br))->S.length+(J.flatMap (·.Br)).length<=1000000->(∀h∈J,h.N.length<=1000000)->
  ∃g:Nat->AS,g 0=a/\(∀(k:Nat) (q:zH),I[k]?=some q->aY0 f q (g k) (g (k+1)))/\(g I.length).came=a.came/\(g I.length).gone=a.gone/\(g I.length).rows=a.rows.set f (K.map (fI e))/\(g I.length).dead.length=a.dead.length/\aE8 e (g I.length).dead K []/\∀c,c∉(S++J.flatMap (·.Br)).map (fI e)->(g I.length).dead[c]?=a.dead[c]?
 | [],I,S,K,a,hs,hq,hr,hf,hok,hl,hN=>by
  obtain rfl:I=[]:=aS hq;have e1:K=S:=by
   have:aM K=aM S:=hs;simp only[aM,fY,true_and] at this;exact(jY this rfl).1
  subst e1;refine⟨λ_=>a,rfl,λk q V=>(by cases V),rfl,rfl,?_,rfl,hok,λ_ _=>rfl⟩;obtain⟨a4,e2⟩:=aB.1 hf;rw[<- e2,tH]
 | h::J,I,S,K,a,hs,hq,hr,hf,hok,hl,hN=>by
  obtain⟨q,E,rfl⟩:∃q E,I=q::E:=by cases I with|nil=>simp at hq|cons q E=>exact⟨q,E,rfl⟩
  obtain⟨F1,s1,s2⟩:=hs;obtain⟨X,M,Z,_,_,_,_,e3,_⟩:=s1.split;generalize X++(cD M++(h.Br++Z))=S1 at e3;subst e3;simp only[bL] at hok hl ⊢;have a3:=hl;rw[aJ] at hl;obtain⟨a1,l1,l2,l3,l4,l5,l6,l7⟩:=aXi s1 (hr 0 h q rfl rfl) hf hok (by omega) (hN h (eT ..));have a2:S1.length=S.length+h.Br.length:=by have:=s1.len;simpa[aM,Nat.add_right_comm] using this
  have a0:a1.rows[f]?=some (S1.map (fI e)):=by
   rw[l4,mT (aB.1 hf).1]
  obtain⟨g,g0,g1,g2,g3,g4,g5,g6,g7⟩:=aOo J E S1 K a1 s2 (by simpa using hq) (λk x y hx hy=>hr (k+1) x y (by simpa using hx) (by simpa using hy)) a0 l6 (by omega) (λx hx=>hN x (dP _ hx));refine⟨λk=>match k with|0=>a|k+1=>g k,rfl,λk y V=>?_,g2.trans l2,g3.trans l3,?_,g5.trans l5,g6,λc hc=>?_⟩
  ·cases k with
   | zero=>
    simp only[aD6,cJ] at V;subst V;show aY0 f q a (g 0);rw[g0];exact l1
   | succ k=>exact g1 k y (by simpa using V)
  ·show (g E.length).rows=_;rw[g4,l4,List.set_set]
  ·show (g E.length).dead[c]?=_;rw[g7 c (λz=>hc ?_),l7 c (λz=>hc (by simp only[bF,aG];exact .inl z))];have hp:=(gS.cids s1);simp only[bF,aG] at z ⊢;rcases z with z|z
   ·obtain⟨t,W,rfl⟩:=aI.1 z;have hm:∃u,u∈aM S++h.Br/\fI e u=fI e t/\(u∈S\/u∈h.Br):=by
     have:t∈aM S1:=by simp[aM,W]
     rcases s1.mem this with h1|h1|⟨u,U,Y,rfl⟩
     ·refine⟨t,by simp[h1],rfl,?_⟩;rcases kE h1 with rfl|h1|rfl
      ·have:=l6.num jR (by simp[W]);exact absurd this (by decide)
      ·exact .inl h1
      ·have:=l6.num lD (by simp[W]);exact absurd this (by decide)
     ·exact⟨t,by simp[h1],rfl,.inr h1⟩
     ·refine⟨u,by simp[Y],rfl,?_⟩;rcases kE Y with rfl|h1|rfl
      ·have:=l6.num (lY jR) (by simp[W]);exact absurd this (by decide)
      ·exact .inl h1
      ·have:=l6.num (lY lD) (by simp[W]);exact absurd this (by decide)
    obtain⟨u,_,eu,U⟩:=hm;rw[<- eu];rcases U with U|U
    ·exact .inl (aI.2 ⟨u,U,rfl⟩)
    ·exact .inr (.inl (aI.2 ⟨u,U,rfl⟩))
   ·exact .inr (.inr z)
theorem aI3(k:Nat)(h:k<10):strOfNums [48+(k:Int)]=⟨#[UInt8.ofNat (48+k)]⟩:=by
 unfold strOfNums;have:(48+(k:Int)).toNat=48+k:=by omega
 rw[cU,lA,this]
theorem aFu(n:Nat)(w:World)(hn:n<=1000000000000):
  Calls Tryz.prog 208 #[.int .i64 n] w λe w'=>e=.returned (.string ⟨(Lib.decDigits n).toArray⟩)/\Below w.heap.size w w':=by
 go_enter Tryz.func208,Tryz.ntmps208;go_wp2
 go_loopw [0,3] (λa b wr=>∃(k:Nat) (s:ByteArray),a=.int .i64 k/\b=.string s/\k<=n/\Hid (Lib.decDigits n=Lib.decDigits k++s.data.toList)/\s.size+k<=1000000000000/\Below w.heap.size w wr) (λa _ _=>(intOf a).toNat)
 case atStart=>exact⟨n,_,rfl,rfl,aA _,by unfold Hid;simp,by show 0+n<=_;omega,Below.refl _ _⟩
 case round=>
  obtain⟨k,s,rfl,rfl,a0,V,a2,z⟩:=hrel;have K:=z.size;by_cases a1:9<k
  ·have E:=tR wr (48+(k:Int) % 10);have Y:(48+(k:Int) % 10)=48+((k % 10:Nat):Int):=by omega
   have J:=aI3 (k % 10) (by omega);have W:Hid (Lib.decDigits n=Lib.decDigits (k / 10)++((⟨#[UInt8.ofNat (48+k % 10)]⟩:ByteArray)++s).data.toList):=by
    unfold Hid;rw[V.out,Lib.decDigits,dif_neg (by omega),bG];simp[kK]
   have Z:strOfNums [48+(k:Int) % 10]=⟨#[UInt8.ofNat (48+k % 10)]⟩:=by rw[Y];exact J
   rw[Z] at E;have I:(⟨#[UInt8.ofNat (48+k % 10)]⟩:ByteArray).size=1:=rfl;generalize (⟨#[UInt8.ofNat (48+k % 10)]⟩:ByteArray)=t at *;clear Y J Z V;have U:t.size<=1:=by omega
   clear I;go_wp2
   go_roundw
   case rel=>exact⟨k / 10,t++s,by go_num,rfl,by omega,W,by rw[aN];omega,z.alloc K _⟩
   case measure=>simp[intOf];omega
  ·have E:=tR wr (48+(k:Int));have J:=aI3 k (by omega);have W:Hid ((⟨(Lib.decDigits n).toArray⟩:ByteArray)=(⟨#[UInt8.ofNat (48+k)]⟩:ByteArray)++s):=by
    unfold Hid;rw[V.out,Lib.decDigits_one (by omega)];apply gL;simp[kK]
   rw[J] at E;have I:(⟨#[UInt8.ofNat (48+k)]⟩:ByteArray).size=1:=rfl;generalize (⟨#[UInt8.ofNat (48+k)]⟩:ByteArray)=t at *;clear J V;have U:t.size<=1:=by omega
   clear I;go_wp2;go_ret;exact⟨uI W.out.symm,z.alloc K _⟩
end Go.Proofs.YtgdfipmdmgkidaaGreatDoor
