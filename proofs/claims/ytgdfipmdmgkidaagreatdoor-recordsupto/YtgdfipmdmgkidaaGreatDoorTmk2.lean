import Derived.Test.YtgdfipmdmgkidaaGreatDoorTrep
import Derived.Test.YtgdfipmdmgkidaaGreatDoorHrec
import Derived.Test.YtgdfipmdmgkidaaGreatDoorPwrite
import Derived.Test.YtgdfipmdmgkidaaGreatDoorXrec
import Derived.Test.YtgdfipmdmgkidaaGreatDoorWtake
import Derived.Test.YtgdfipmdmgkidaaGreatDoorWcomm
import Derived.Test.YtgdfipmdmgkidaaGreatDoorAl
set_option linter.all false
namespace Go.Proofs.YtgdfipmdmgkidaaGreatDoor
open Go.RowKit
section
variable {Ps:List PM} {f:ByteArray->Option ByteArray} {s:ByteArray->PL} {i:cL} {K:List ByteArray} {Cs:List (ByteArray×fM)} {m:Nat->Int}
theorem aWi:∀{Cs:List (ByteArray×fM)},(∀c∈Cs,(jS c.2).length<=16)->(eK Cs).length<=16 * Cs.length
 | [],_=>by simp[eK]
 | c::Cs,h=>by
  have h1:=aWi (Cs:=Cs) λd z=>h d (dP _ z);have h2:=h c (eT ..);have e:eK (c::Cs)=(jS c.2).map (λt=>(c.1,t))++eK Cs:=by simp[eK]
  rw[e,aJ,aT,aY];omega
theorem gM.nd(z:pG K)(E:dG s i (cO f s K) Cs m):(Cs.map (·.1)).Nodup:=by
 rw[xE E];exact tD (z.filter _)
theorem gM.lens(h:gM Ps f s)(hi:i∉Ps.map (·.id))(I:i≠lF)(U:pG K)(z:∀x∈K,(f x).isSome=true\/(s x).alive=true)(E:dG s i (cO f s K) Cs m):Cs.length<=5 * Ps.length+5/\(eK Cs).length<=80 * (Ps.length+1)/\(gP Cs).length<=Cs.length:=by
 have h1:(Cs.map (·.1)).length<=5 * Ps.length+5:=h.few (gM.nd U E) λx J=>by
  rw[xE E] at J;exact z x (cT.1 J).1
 rw[aT] at h1;have h2:=aWi (Cs:=Cs) λc V=>(h.chg hi I z E V).choose_spec.br;refine⟨h1,by omega,?_⟩;have:∀L:List (ByteArray×fM),(gP L).length<=L.length:=by
  intro L
  induction L with
  | nil=>simp[gP]
  | cons c L ih=>
   have e:gP (c::L)=gP [c]++gP L:=vN [c] L;have W:(gP [c]).length<=1:=by
    obtain⟨x,d⟩:=c
    cases d<;>simp[gP]
   rw[e,aJ,aY];omega
 exact this Cs
theorem gM.recB{R:iD}{e:iA}{D:RD}{t:Nat->ByteArray}(h:gM Ps (aX R.F) s)(hi:i∉Ps.map (·.id))(I:i≠lF)(hK:pG K)(E:∀x∈K,(aX R.F x).isSome=true\/(s x).alive=true)(J:dG s i (cO (aX R.F) s K) Cs m)(hE:aCx e D i Cs)(ht:∀k c,Cs[k]?=some c->fU c.2 c.1 (s c.1) (t k))(W:∀k,(t k).size<=1000000):aTk e D s R K i Cs m t:=by
 obtain⟨l1,l2,-⟩:=h.lens hi I hK E J;have hl:=h.hs.len;have U:∀c∈Cs,∃p',ChF (aX R.F) s i c p':=λc z=>h.chg hi I E J z;refine⟨hE,J,ht,W,λc z=>⟨_,(U c z).choose_spec.app⟩,λc z=>?_,by omega,λu Y=>?_,by omega⟩
 ·have q:=(U c z).choose_spec;obtain⟨k,hk⟩:=bI.1 z;have hn:=gR (h.mem (E c.1 (vX J hk).1));exact⟨q.wf,q.self,q.small,by have:=q.br;omega,by omega⟩
 ·obtain⟨c,z,Y⟩:=dD.1 Y;obtain⟨Z,V,rfl⟩:=aI.1 Y;have:=(U c z).choose_spec.line Z V;exact⟨this.1,by have:=this.2;show Z.line.size<=1000;omega⟩
theorem gM.chIn(h:gM Ps f s)(hi:i∉Ps.map (·.id))(V:i≠lF)(J:∀x∈K,(f x).isSome=true\/(s x).alive=true)(Z:dG s i (cO f s K) Cs m){ids:List cL}(hs:∀j∈Ps.map (·.id),j∈ids)(aO:i∈ids){c:ByteArray×fM}(hc:c∈Cs):aMr ids c.2/\(∀t∈jS c.2,mM t=i)/\∀j l v S,c.2=.add j l v S->j=i/\(l=lF\/l=(s c.1).by_):=by
 obtain⟨p',q⟩:=h.chg hi V J Z hc;obtain⟨k,hk⟩:=bI.1 hc;obtain⟨-,-,-,-,E⟩:=vX Z hk;have I:=h.cells c.1;have W:=q.wf.own;refine⟨?_,λt z=>(W t z).1,λj l v S e=>?_⟩
 ·generalize c.2=d at *
  cases d with
  | add i' l v S=>
   obtain⟨_,rfl,rfl,_⟩:=E;exact⟨aO,I.byZ.imp (hs _) id,λt z=>by rw[(W t z).1];exact aO⟩
  | remove i' v S=>
   obtain⟨h1,_,rfl,rfl,_⟩:=E;exact⟨hs _ (I.byA h1),λt z=>hs _ (I.own t z).1⟩
  | alter i' v Hs=>
   obtain⟨h1,_,rfl,Q,hg,hm,_⟩:=E;refine⟨hs _ (I.byA h1),λx hx=>?_⟩;obtain⟨j,hj⟩:=bI.1 hx;obtain⟨g,U,Y,-⟩:=hm.2 j x hj;have hq:=hg.ok (aE _) (aE _) g (aD U);refine⟨λt z=>by rw[(W t (dD.2 ⟨x,hx,z⟩)).1];exact aO,λt z=>?_,λt z=>?_⟩
   ·rw[Y] at z;exact hs _ (I.own t (aJk (by omega) (by have:=fK (s c.1).S;omega) z)).1
   ·rw[Y] at z;rcases cC.1 (aJl z) with rfl|z
    ·exact .inr (by decide)
    ·rcases aG.1 z with z|z
     ·exact .inl (hs _ (I.own t z).1)
     ·rw[bE.1 z];exact .inr (by decide)
 ·rw[e] at E;obtain⟨_,rfl,rfl,_⟩:=E;exact⟨rfl,.inr rfl⟩
theorem gM.nil:gM [] (λ_=>none) (λ_=>pl0):=by
 refine⟨⟨qE.nil,by simp,⟨by simp,by simp,by simp,by simp,by simp⟩⟩,(λx t h=>by cases h),(λx h=>by cases h),λx=>aA _,⟨[],by simp,(λx h=>by cases h)⟩,⟨[],by simp,(λx h=>by cases h)⟩,λI z _ p P E=>by simp at E⟩
theorem gM.write(h:gM Ps f s){name text:ByteArray}(V:dJ name=true)(W:dH text=true)(I:(f name).isSome=true\/∃U:List ByteArray,U.length<=4/\∀x,(f x).isSome=true->x∈U):gM Ps (λx=>if x=name then some text else f x) s:=by
 refine⟨h.hs,λx t z=>?_,h.snm,h.row,h.al,?_,h.told⟩
 ·by_cases e:x=name
  ·rw[if_pos e] at z
   cases z
   exact⟨e▸V,W⟩
  ·rw[if_neg e] at z;exact h.fnm x t z
 ·rcases I with I|⟨U,J,E⟩
  ·obtain⟨U,J,E⟩:=h.un;refine⟨U,J,λx z=>?_⟩;by_cases e:x=name
   ·subst e;exact E _ I
   ·rw[if_neg e] at z;exact E x z
  ·refine⟨name::U,by simp;omega,λx z=>.inr ?_⟩;by_cases e:x=name
   ·rw[e];exact eT ..
   ·rw[if_neg e] at z;exact dP _ (E x z)
theorem gM.erase(h:gM Ps f s)(name:ByteArray):gM Ps (λx=>if x=name then none else f x) s:=by
 obtain⟨U,E,I⟩:=h.un;refine⟨h.hs,λx t z=>?_,h.snm,h.row,h.al,⟨U,E,λx z=>?_⟩,h.told⟩
 ·by_cases e:x=name
  ·rw[if_pos e] at z;cases z
  ·rw[if_neg e] at z;exact h.fnm x t z
 ·by_cases e:x=name
  ·rw[if_pos e] at z;cases z
  ·rw[if_neg e] at z;exact I x z
theorem gM.revert(h:gM Ps f s):gM Ps (dR s) s:=by
 refine⟨h.hs,λx t z=>?_,h.snm,h.row,h.al,⟨[],by simp,λx z=>.inl ?_⟩,h.told⟩
 ·unfold dR at z;split at z
  ·rename_i E
   cases z
   exact⟨(h.snm x E).1,(h.text E).1⟩
  ·cases z
 ·rw[<- aOi];exact z
end
theorem aXl{p:PL}{i:cL}{n U:Int}{there:Bool}{text:ByteArray}{c:fM}(h:jE p i n there text c U)(j:cL):∃V,jE p j n there text V U:=by
 cases c with
 | add i' l v S=>
  obtain⟨h1,rfl,rfl,rfl,h2⟩:=h;exact⟨.add j p.by_ v (eD j n (bM text)),h1,rfl,rfl,rfl,h2⟩
 | remove i' v S=>exact⟨.remove i' v S,h⟩
 | alter i' v Hs=>
  obtain⟨h1,h2,Y,Q,hg,I,Z⟩:=h;refine⟨.alter i' v ((List.range Hs.length).map λk=>{ Hs.getD k ⟨.nilIface,.nilIface,[],[]⟩ with Br:=eD j (eO n (bM text) (Q.take k)) (bX (bM text) (Q.getD k ⟨0,0,0,0⟩)) }),h1,h2,Y,Q,hg,⟨by simp[I.1],λk x E=>?_⟩,Z⟩;have z:k<Hs.length:=by
   have:=(aB.1 E).1;simpa using this
  obtain⟨q,J,W,e2⟩:=I.2 k _ (aC z);rw[aP,wZ z] at E;simp only[jH,cJ] at E;subst E;refine⟨q,J,?_,?_⟩
  ·show (Hs.getD k _).N=_;rw[aQ,aC z];exact W
  ·show eD j _ _=eD j _ _;rw[aQ,J];rfl
theorem aO0{s:ByteArray->PL}{i:cL}{E:List Fl}{Cs:List (ByteArray×fM)}{m:Nat->Int}(h:dG s i E Cs m)(j:cL):∃U,dG s j E U m:=by
 have each:∀k:Nat,∃I:ByteArray×fM,∀g,E[k]?=some g->I.1=g.name/\jE (s g.name) j (m k) g.there g.text I.2 (m (k+1)):=λk=>by
  cases Y:E[k]? with
  | none=>exact⟨(⟨#[]⟩,.remove j .nilIface []),λg J=>by cases J⟩
  | some g=>
   have z:k<Cs.length:=by rw[h.len];exact(aB.1 Y).1
   obtain⟨I,W⟩:=aXl (h.at_ k g _ Y (aC z)).2 j;exact⟨(g.name,I),λZ e=>by cases e;exact⟨rfl,W⟩⟩
 refine⟨(List.range E.length).map λk=>Classical.choose (each k),by simp,h.zero,λk g c J V=>?_⟩;have z:=(aB.1 J).1;rw[aP,wZ z] at V;simp only[jH,cJ] at V;subst V;exact Classical.choose_spec (each k) g J
theorem gM.renew{Ps:List PM}{f:ByteArray->Option ByteArray}{s:ByteArray->PL}{i:cL}{K:List ByteArray}{Cs:List (ByteArray×fM)}{m:Nat->Int}{t:Nat->ByteArray}(h:gM Ps f s)(J:∀x∈K,(f x).isSome=true\/(s x).alive=true)(U:dG s i (cO f s K) Cs m)(ht:∀k c,Cs[k]?=some c->fU c.2 c.1 (s c.1) (t k))(j:cL):∃z,dG s j (cO f s K) z m/\z.length=Cs.length/\∀k c,z[k]?=some c->fU c.2 c.1 (s c.1) (t k):=by
 obtain⟨z,E⟩:=aO0 U j;refine⟨z,E,E.len.trans U.len.symm,λk c' I=>?_⟩;have W:k<Cs.length:=by rw[U.len,<- E.len];exact(aB.1 I).1
 have V:=aC W;generalize Cs[k]=c at *;have e:c'.1=c.1:=by
  have h1:=(vX U V).2.2.1;rw[(vX E I).2.2.1] at h1;injection h1 with h1;injection h1
 obtain⟨T1,Z,a2,-⟩:=h.tell U J V;obtain⟨T2,b1,Y,-⟩:=h.tell E J I;have e1:=Z.det (ht k c V);rw[e] at Y;have e2:=Y.det a2;rw[<- e1,<- e2];exact b1
structure RpI (Pa:List PM) (D:RD) (r:Nat) (X:Rep) (R:iD) (s:ByteArray->PL):Prop where
 at_:D.repos[r]?=some R
 pk:pF Pa R.L X.Ps
 f:X.f=aX R.F
 rs:gM X.Ps (aX R.F) s
 nd:(fO R.F).Nodup
 len:X.Ps.length<=Pa.length
structure TwM (e:iA) (own:List ByteArray) (Pa:List PM) (D:RD) (G:List cL) (nr:Nat) (rp:Nat->Rep):Prop where
 rel:qS e own Pa D
 ol:own.length=D.cells.length
 ain:aIo Pa
 ids:Pa.map (·.id)=G
 nd:G.Nodup
 ok:∀i∈G,pK i/\i≠lF
 nrl:D.repos.length=nr
 n3:nr<=3
 rps:∀r,r<nr->∃R s,RpI Pa D r (rp r) R s
 cells:D.cells.length<=40 * (Pa.length * (Pa.length+1))
 files:D.files.length<=205 * Pa.length
 chs:∀P∈D.pts,P.chs.length<=205
 ln:∀(k:Nat) (l:ByteArray) (p:Nat),D.cells[k]?=some (l,p)->0<l.size/\l.size<=1000
 plen:Pa.length<=40
section
variable {e:iA} {own:List ByteArray} {Pa:List PM} {D:RD} {G:List cL} {nr:Nat} {rp:Nat->Rep}
theorem RpI.flen{r:Nat}{X:Rep}{R:iD}{s:ByteArray->PL}(h:RpI Pa D r X R s):R.F.length<=205:=by
 have h1:=h.rs.few h.nd λx z=>.inl (iQ.2 z);have h2:=h.rs.hs.len;rw[gV] at h1;omega
theorem RpI.rpo{r:Nat}{X:Rep}{R:iD}{s:ByteArray->PL}(h:RpI Pa D r X R s):Rpo Pa D r R X.Ps s:=⟨h.at_,h.pk,h.rs.hs⟩
theorem TwM.clen(h:TwM e own Pa D G nr rp):D.cells.length<=65600:=by
 have h1:=h.cells;have h2:=h.plen;have:Pa.length * (Pa.length+1)<=40 * 41:=aKe h2 (by omega);omega
theorem TwM.seen(h:TwM e own Pa D G nr rp){w:World}{B rb:Nat}(U:WO w B rb D):kC w rb D e own Pa D:=by
 have h1:=h.files;have h2:=h.plen;refine⟨U.view,h.rel,RD.Ext.refl D,λP I=>by have:=h.chs P I;omega,by omega,h.ln,by rw[h.nrl];exact h.n3,λR J=>?_⟩;obtain⟨k,E⟩:=bI.1 J;obtain⟨R',s,z⟩:=h.rps k (by rw[<- h.nrl];exact(aB.1 E).1);rw[z.at_] at E
 cases E
 have:=z.flen;exact⟨by omega,z.nd⟩
theorem qS.setR{r:Nat}{R:iD}(h:qS e own Pa D):qS e own Pa (D.setR r R):=⟨h.len,h.pt,h.cell,h.file,h.back,h.afn⟩
theorem TwM.setF(h:TwM e own Pa D G nr rp){r:Nat}{R R':iD}{X':Rep}{s:ByteArray->PL}(I:RpI Pa D r (rp r) R s)(W:R'.L=R.L)(U:X'.Ps=(rp r).Ps)(Y:X'.f=aX R'.F)(J:gM X'.Ps (aX R'.F) s)(E:(fO R'.F).Nodup):TwM e own Pa (D.setR r R') G nr λj=>if j=r then X' else rp j:=by
 refine⟨h.rel.setR,h.ol,h.ain,h.ids,h.nd,h.ok,by simp[RD.setR];exact h.nrl,h.n3,λj Z=>?_,h.cells,h.files,h.chs,h.ln,h.plen⟩;by_cases z:j=r
 ·subst z;exact⟨R',s,by simp only[if_true];exact⟨RD.setR_at I.at_,by rw[W,U];exact I.pk,Y,J,E,by rw[U];exact I.len⟩⟩
 ·obtain⟨V,s2,h2⟩:=h.rps j Z;refine⟨V,s2,?_⟩;simp only[if_neg z];exact⟨by show (D.repos.set r R')[j]?=_;rw[dE (λq=>z q.symm)];exact h2.at_,h2.pk,h2.f,h2.rs,h2.nd,h2.len⟩
end
structure Tw where
 pb:Nat
 rb:Nat
 M:Nat->Prop
def lI(w:World)(B:Nat)(t:Tw):Prop:=∃p G e own Pa D,nW w B t.pb p G/\WO w B t.rb D/\TwM e own Pa D G p.nr p.rp/\∀k,t.M k↔p.ft k\/xB w t.rb k
theorem aKz{w:World}{B pb rb:Nat}{p:vG}{G:List cL}{D:RD}(E:nW w B pb p G)(I:WR w B rb D){k:Nat}(h1:p.ft k)(h2:xB w rb k):False:=by
 obtain⟨-,-,t,W,hs⟩:=I.muts h2;have Y:=E.2 0 E.1;have no:∀{J},TB w k J->cE J->False:=λ{J} h9 h8=>by
  by_cases e:J=t
  ·subst e;exact hs h8
  ·exact h9.ne W e rfl
 rcases h1 with rfl|rfl|⟨r,I,U|U⟩
 ·obtain⟨A,z,_⟩:=Y.row;exact no ⟨_,_,z⟩ (by simp[cE])
 ·obtain⟨Z,c,V⟩:=Y.given.map;obtain⟨A,fz,z⟩:=W;rw[V] at z;cases z
 ·subst U;obtain⟨Z,c,V⟩:=(E.2 r I).files.map;obtain⟨A,fz,z⟩:=W;rw[V] at z;cases z
 ·exact no (dI (E.2 r I).own U) (by simp[cE])
theorem lI.hot{w:World}{B:Nat}{t:Tw}(h:lI w B t){k:Nat}(E:t.M k):B<=k/\Hot w k:=by
 obtain⟨p,G,e,own,Pa,D,h1,h2,I,z⟩:=h;rcases(z k).1 E with q|q
 ·exact h1.fts q
 ·exact aA1 h2.wr q
theorem lI.stays{w w':World}{B:Nat}{t:Tw}(h:lI w B t)(I:bU aEb w w')(E:∀k,t.M k->w'.heap[k]?=w.heap[k]?):lI w' B t:=by
 obtain⟨p,G,e,own,Pa,D,h1,h2,J,z⟩:=h;refine⟨p,G,e,own,Pa,D,h1.stays I λk q=>E k ((z k).2 (.inl q)),h2.stays I λk q=>E k ((z k).2 (.inr q)),J,λk=>?_⟩;rw[z k,aGn (E t.rb ((z _).2 (.inr (.inl rfl))))]
theorem lI.below{w w':World}{B:Nat}{t:Tw}(h:lI w B t)(z:Below w.heap.size w w'):lI w' B t:=h.stays (bU.of_below z) λk E=>z.block k (h.hot E).2.lt
def iO(w w':World)(B:Nat)(t:Tw):Prop:=∃M',lI w' B ⟨t.pb,t.rb,M'⟩/\Tn t.M w w'/\∀k,M' k->t.M k\/w.heap.size<=k
def aKg(w w1:World)(t:Tw)(fn:FuncId)(args:Array Value)(res:Value)(X:World->Prop):Prop:=Tn t.M w w1/\∀w2,Below w1.heap.size w1 w2->Calls Tryz.prog fn args w2 λe w'=>e=.returned res/\X w'
def iG(w w1:World)(B:Nat)(t:Tw)(fn:FuncId)(args:Array Value)(res:Value):Prop:=aKg w w1 t fn args res λw'=>iO w w' B t
theorem iO.lay{w w1 w2 w':World}{B:Nat}{t:Tw}{p Z:vG}{G G':List cL}{D D':RD}(hP:nW w B t.pb p G)(W:WO w B t.rb D)(hM:∀k,t.M k↔p.ft k\/xB w t.rb k)
  (a2:nW w1 B t.pb Z G') (E:Tn p.ft w w1) (hf:∀k,Z.ft k->p.ft k\/w.heap.size<=k) (I:Below w1.heap.size w1 w2) (a6:WO w' B t.rb D') (J:hJ w2 w' t.rb):∃M':Nat->Prop,nW w' B t.pb Z G'/\(∀k,M' k↔Z.ft k\/xB w' t.rb k)/\Tn t.M w w'/\∀k,M' k->t.M k\/w.heap.size<=k:=by
 have U:∀k,k<w1.heap.size->w2.heap[k]?=w1.heap[k]?:=λk Y=>I.block k Y;have a5:w1.heap[t.rb]?=w.heap[t.rb]?:=E.keep _ W.wr.lt λq=>aKz hP W.wr q (.inl rfl);have a3:w2.heap[t.rb]?=w.heap[t.rb]?:=(U _ (bJ W.wr.lt E.size)).trans a5;have mm:∀k,xB w2 t.rb k↔xB w t.rb k:=aGn a3;have a1:∀k,xB w t.rb k->Hot w k:=λk q=>(aA1 W.wr q).2;have a7:∀k,p.ft k->k<w.heap.size:=λk q=>(hP.fts q).2.lt;have a4:nW w' B t.pb Z G':=by
  have V:=a2.stays (bU.of_below I) λk q=>I.block k (a2.fts q).2.lt;have a0:WR w2 B t.rb D:=by
   have hH:bU aEb w w1:=(E.held λk q _=>(hP.fts q).2).quell;have h1:=W.stays hH λk q=>E.keep k (a1 k q).lt λz=>aKz hP W.wr z q;exact(h1.below I).wr
  refine V.stays ((Tn.ofR J).held λk q _=>(aA1 a0 q).2).quell λk q=>J.keep k (V.fts q).2.lt λz=>aKz V a0 q z
 refine⟨λk=>Z.ft k\/xB w' t.rb k,a4,λk=>Iff.rfl,⟨J.os.trans (I.os.trans E.os),J.tape.trans (I.tape.trans E.tape),J.output.trans (I.output.trans E.output),aR E.size (aR I.size J.size),λk Y hn=>?_⟩,λk Y=>?_⟩
 ·have n1:¬ p.ft k:=λq=>hn ((hM k).2 (.inl q));have n2:¬ xB w t.rb k:=λq=>hn ((hM k).2 (.inr q));have l1:k<w1.heap.size:=bJ Y E.size;exact(J.keep k (bJ l1 I.size) λq=>n2 ((mm k).1 q)).trans ((U k l1).trans (E.keep k Y n1))
 ·rcases Y with q|q
  ·exact(hf k q).imp (λz=>(hM k).2 (.inl z)) id
  ·rcases J.mt k q with z|z
   ·exact .inl ((hM k).2 (.inr ((mm k).1 z)))
   ·exact .inr (aR E.size (aR I.size z))
theorem iO.of{w w1 w2 w':World}{B:Nat}{t:Tw}{p E:vG}{G I:List cL}{e':iA}{own':List ByteArray}{Pa':List PM}{D D':RD}(Z:nW w B t.pb p G)(V:WO w B t.rb D)(Y:∀k,t.M k↔p.ft k\/xB w t.rb k)
  (J:nW w1 B t.pb E I) (hT:Tn p.ft w w1) (hf:∀k,E.ft k->p.ft k\/w.heap.size<=k) (hb:Below w1.heap.size w1 w2) (z:WO w' B t.rb D') (W:hJ w2 w' t.rb) (hm:TwM e' own' Pa' D' I E.nr E.rp):iO w w' B t:=by
 obtain⟨U,q1,q2,q3,q4⟩:=iO.lay Z V Y J hT hf hb z W;exact⟨U,⟨E,I,e',own',Pa',D',q1,z,hm,q2⟩,q3,q4⟩
structure yJ (w:World) (B:Nat) (t:Tw) (p:vG) (G:List cL) (e:iA) (own:List ByteArray) (Pa:List PM) (D:RD) (k:Nat) (R:iD) (s:ByteArray->PL):Prop where
 pw:nW w B t.pb p G
 wo:WO w B t.rb D
 m:TwM e own Pa D G p.nr p.rp
 mm:∀j,t.M j↔p.ft j\/xB w t.rb j
 lt:k<p.nr
 ri:RpI Pa D k (p.rp k) R s
section
variable {w w':World} {B k:Nat} {t:Tw} {p:vG} {G:List cL} {e:iA} {own:List ByteArray} {Pa:List PM} {D:RD} {R:iD} {s:ByteArray->PL}
theorem yJ.at_(h:yJ w B t p G e own Pa D k R s):lI w B t:=⟨p,G,e,own,Pa,D,h.pw,h.wo,h.m,h.mm⟩
theorem yJ.stays(h:yJ w B t p G e own Pa D k R s)(E:bU aEb w w')(z:∀k,t.M k->w'.heap[k]?=w.heap[k]?):yJ w' B t p G e own Pa D k R s:=by
 refine⟨h.pw.stays E λj q=>z j ((h.mm j).2 (.inl q)),h.wo.stays E λj q=>z j ((h.mm j).2 (.inr q)),h.m,λj=>?_,h.lt,h.ri⟩;rw[h.mm j,aGn (z t.rb ((h.mm _).2 (.inr (.inl rfl))))]
theorem RpI.setF{r:Nat}{X X':Rep}{R':iD}(E:RpI Pa D r X R s)(U:R'.L=R.L)(J:X'.Ps=X.Ps)(V:X'.f=aX R'.F)(I:gM X'.Ps (aX R'.F) s)(z:(fO R'.F).Nodup):RpI Pa (D.setR r R') r X' R' s:=⟨RD.setR_at E.at_,by rw[U,J];exact E.pk,V,I,z,by rw[J];exact E.len⟩
end
theorem aB2{r:Int}{n:Nat}(h:lE r n=true):∃k:Nat,r=k/\k<n:=by
 have:=of_decide_eq_true h;exact⟨r.toNat,by omega,by omega⟩
section
variable {w w1 w':World} {B:Nat} {t:Tw}
theorem iO.below(h:lI w B t)(z:Below w.heap.size w w'):iO w w' B t:=⟨t.M,h.below z,Tn.ofBelow z,λ_ E=>.inl E⟩
theorem iG.below{fn:FuncId}{args:Array Value}{res:Value}(h:lI w B t)(E:Below w.heap.size w w1)(I:∀w2,Below w.heap.size w w2->Calls Tryz.prog fn args w2 λe w'=>e=.returned res/\Below w2.heap.size w2 w'):iG w w1 B t fn args res:=
 ⟨Tn.ofBelow E,λw2 h2=>by
  have z:=E.trans (h2.mono E.size)
  exact(I w2 z).mono λe w' ⟨g1,g2⟩=>⟨g1,iO.below h (z.trans (g2.mono z.size))⟩⟩
theorem wK{r:Int}{n:Nat}{x:ByteArray}(h:lE r n=false):jK r n x=1:=by unfold jK;rw[h];rfl
theorem bA4(f:ByteArray->Option ByteArray){k n:Nat}(x:ByteArray)(h:k<n):uA (f x) (jK (k:Int) n x)=mN f x:=by
 unfold uA jK mN;rw[tX h]
 cases dJ x<;>simp
 cases f x<;>rfl
theorem aZg(o:Option ByteArray){c:Int}(h:0<=c/\c<=1000):0<=(uA o c).2/\(uA o c).2<=1000:=by
 unfold uA;split
 ·cases o<;>simp
 ·exact h
theorem aZm(r:Int)(n:Nat)(x:ByteArray):0<=jK r n x/\jK r n x<=1000:=by
 unfold jK
 repeat' split
 all_goals omega
theorem bAa(h:lI w B t)(r:Int)(x:ByteArray)(hx:x.size<=10000000):
  Calls Tryz.prog 50 #[.pointer (some ⟨t.pb,0,none⟩),.int .i64 r,.string x] w λq w1=>∃T c,q=.returned (.tuple #[.string T,.int .i64 c])/\(0<=c/\c<=1000)/\iG w w1 B t 169 #[.pointer (some ⟨t.rb,0,none⟩),.int .i64 r,.string x] (.tuple #[.string T,.int .i64 c]):=by
 have Y:=h;obtain⟨p,G,e,own,Pa,D,V,hD,J,hk⟩:=h;have E:∀o,(jK r D.repos.length x=0->∃(k:Nat) (R:iD),r=k/\D.repos[k]?=some R/\o=aX R.F x)->∀w2,Below w.heap.size w w2->Calls Tryz.prog 169 #[.pointer (some ⟨t.rb,0,none⟩),.int .i64 r,.string x] w2 λq w'=>q=.returned (.tuple #[.string (uA o (jK r p.nr x)).1,.int .i64 (uA o (jK r p.nr x)).2])/\Below w2.heap.size w2 w':=λo ho w2 I=>by
  have:=aPu r x hx t.rb w2 (J.seen (hD.below I)) o ho;rw[J.nrl] at this;exact this
 cases U:lE r p.nr
 ·refine(aU7 (V.2 0 V.1) r U x).mono ?_;rintro q w1 ⟨rfl,rfl⟩;refine⟨_,_,rfl,by omega,iG.below Y (Below.refl _ _) λw2 I=>?_⟩;have:=E none (λZ=>by rw[J.nrl,wK U] at Z;cases Z) w2 I;rw[wK U] at this;exact this
 ·obtain⟨k,rfl,z⟩:=aB2 U;obtain⟨R,s,hR⟩:=J.rps k z;refine(aHe (V.2 k z) x).mono ?_;rintro q w1 ⟨rfl,I⟩;have e1:=bA4 (aX R.F) x z;rw[hR.f,<- e1];exact⟨_,_,rfl,aZg _ (aZm _ _ _),iG.below Y I λw2 W=>E (aX R.F x) (λ_=>⟨k,R,rfl,hR.at_,rfl⟩) w2 W⟩
theorem aZ8(h:lI w B t)(r:Int)(x:ByteArray)(hx:x.size<=10000000):
  Calls Tryz.prog 18 #[.pointer (some ⟨t.pb,0,none⟩),.int .i64 r,.string x] w λq w1=>∃T c,q=.returned (.tuple #[.string T,.int .i64 c])/\(0<=c/\c<=1000)/\iG w w1 B t 170 #[.pointer (some ⟨t.rb,0,none⟩),.int .i64 r,.string x] (.tuple #[.string T,.int .i64 c]):=by
 have h0:=h;obtain⟨p,G,e,own,Pa,D,W,hD,U,hk⟩:=h;have J:∀o,(jK r D.repos.length x=0->∃(k:Nat) (R:iD) (Ps:List PM) (s:ByteArray->PL),r=k/\Rpo Pa D k R Ps s/\o=dR s x)->∀w2,Below w.heap.size w w2->Calls Tryz.prog 170 #[.pointer (some ⟨t.rb,0,none⟩),.int .i64 r,.string x] w2 λq w'=>q=.returned (.tuple #[.string (uA o (jK r p.nr x)).1,.int .i64 (uA o (jK r p.nr x)).2])/\Below w2.heap.size w2 w':=λo ho w2 I=>by
  have:=aOh r x hx t.rb w2 (U.seen (hD.below I)) o ho (by have:=U.clen;omega);rw[U.nrl] at this;exact this
 cases Z:lE r p.nr
 ·refine(aUh (W.2 0 W.1) r Z x).mono ?_;rintro q w1 ⟨rfl,rfl⟩;refine⟨_,_,rfl,by omega,iG.below h0 (Below.refl _ _) λw2 I=>?_⟩;have:=J none (λh9=>by rw[U.nrl,wK Z] at h9;cases h9) w2 I;rw[wK Z] at this;exact this
 ·obtain⟨k,rfl,E⟩:=aB2 Z;obtain⟨R,s,Y⟩:=U.rps k E;have z:=J (dR s x) (λ_=>⟨k,R,_,s,rfl,Y.rpo,rfl⟩)
  cases V:dJ x with
  | false=>
   refine(aRc (W.2 k E) x V).mono ?_;rintro q w1 ⟨rfl,I⟩;have e1:jK (k:Int) p.nr x=2:=by unfold jK;rw[tX E,V];rfl
   rw[e1] at z;exact⟨_,_,rfl,by omega,iG.below h0 I z⟩
  | true=>
   obtain⟨st,a0,h1,h2,-,-,-⟩:=Y.rs.hs.stands;obtain⟨z1,z2,z3,z4⟩:=Y.rs.sizes x;have hl:=Y.rs.hs.len;have:=aRd (W.2 k E) h1 (by omega) x (by have:=gR V;omega) V (by rw[h2];omega) (by rw[h2];omega);rw[h2] at this;refine this.mono ?_;rintro q w1 ⟨rfl,I⟩;have e1:jK (k:Int) p.nr x=0:=by unfold jK;rw[tX E,V];rfl
   have e2:uA (dR s x) 0=(if (s x).alive=true then dM (s x).S else ⟨#[]⟩,if (s x).alive=true then 0 else 5):=by
    unfold uA dR
    cases (s x).alive<;>rfl
   rw[e1,e2] at z;exact⟨_,_,rfl,by cases (s x).alive<;>simp,iG.below h0 I z⟩
end
section
variable {w w1 w2 w':World} {B pb rb:Nat} {t:Tw} {p:vG} {G:List cL} {D:RD}
theorem WO.mid(I:nW w B pb p G)(E:WO w B rb D)(J:Tn p.ft w w1)(U:Below w1.heap.size w1 w2):WO w2 B rb D:=
 (E.stays (J.held λ_ q _=>(I.fts q).2).quell λk q=>J.keep k (aA1 E.wr q).2.lt λz=>aKz I E.wr z q).below U
theorem Tn.grown{M:Nat->Prop}{g:Nat}(h:w.grownBy w' (some g))(z:M g):Tn M w w':=⟨h.os,h.tape,h.output,h.size,λk E I=>h.block k E λe=>by injection e with e;exact I (e▸z)⟩
theorem Tn.mono{M z:Nat->Prop}(h:Tn M w w')(E:∀k,M k->z k):Tn z w w':=⟨h.os,h.tape,h.output,h.size,λk I J=>h.keep k I λq=>J (E k q)⟩
theorem aR1{r fn:Nat}{f:ByteArray->Option ByteArray}{k:Nat}(h:(p.put r ⟨(p.rp r).pv,(p.rp r).Ps,(p.rp r).fb,fn,f⟩).ft k):p.ft k:=by
 rcases h with h|h|⟨j,z,h⟩
 ·exact .inl h
 ·exact .inr (.inl h)
 ·refine .inr (.inr ⟨j,z,?_⟩);by_cases e:j=r
  ·subst e;simpa[vG.put] using h
  ·simpa[vG.put,e] using h
theorem aYk{F:jN}{x u:ByteArray}(h:gZ F x u=0):dJ x=true/\dH u=true/\((aX F x).isSome=true\/F.length<=4):=by
 unfold gZ at h
 cases E:dJ x with
 | false=>rw[E] at h;simp at h
 | true=>
  cases I:dH u with
  | false=>rw[E,I] at h;simp at h
  | true=>
   refine⟨rfl,rfl,?_⟩;rw[E,I] at h;simp only[if_true] at h;by_cases z:(pI (fO F) x).isNone=true/\5<=F.length
   ·rw[if_pos z] at h;cases h
   ·rw[uS] at z
    cases J:(aX F x).isSome with
    | true=>exact .inl rfl
    | false=>exact .inr (by rw[J] at z;simp at z;omega)
theorem aVg(F:jN)(a b:ByteArray):0<=gZ F a b/\gZ F a b<=1000:=by
 unfold gZ
 repeat' split
 all_goals omega
theorem aHk{e:iA}{own:List ByteArray}{Pa:List PM}{k:Nat}{R:iD}{s:ByteArray->PL}(h:yJ w B t p G e own Pa D k R s)(x u:ByteArray)(hx:x.size<=10000000)(J:gZ R.F x u=0):
  Calls Tryz.prog 16 #[.pointer (some ⟨t.pb,0,none⟩),.int .i64 k,.string x,.string u] w λq w1=>q=.returned (.int .i64 0)/\aKg w w1 t 96 #[.pointer (some ⟨t.rb,0,none⟩),.int .i64 k,.string x,.string u] (.int .i64 0) λw'=>∃Y p' D' R',yJ w' B ⟨t.pb,t.rb,Y⟩ p' G e own Pa D' k R' s/\(aX R'.F=λy=>if y=x then some u else aX R.F y)/\Tn t.M w w'/\∀j,Y j->t.M j\/w.heap.size<=j:=by
 have hO:=h.pw.2 k h.lt;have z:=h.ri;rw[z.f] at hO;have hF:=z.flen;have a1:=h.m.n3;have U:∀w2,WO w2 B t.rb D->_:=λw2 h2=>aD0 k R x u hx B t.rb w2 h2 z.at_ (by rw[h.m.nrl];exact a1) (by omega);refine(aDz hO z.nd (by omega) x u).mono ?_;rintro q w1 ⟨rfl,⟨-,⟨E,a0⟩,hg⟩|⟨hn,-⟩⟩
 ·rw[J];have hT:Tn p.ft w w1:=Tn.grown hg (.inr (.inr ⟨k,h.lt,.inl rfl⟩));refine⟨rfl,hT.mono λj hj=>(h.mm j).2 (.inl hj),λw2 I=>?_⟩;refine(U w2 (h.wo.mid h.pw hT I)).mono ?_;rintro q w' ⟨rfl,⟨-,R',e1,e2,hW,hF⟩|⟨hn,-⟩⟩
  ·obtain⟨q1,q2,q3⟩:=aYk J;have Z:(λy=>if y=x then some u else aX R.F y)=aX R'.F:=by
    funext y;rw[e1,aFx z.nd];by_cases e:y=x
    ·rw[if_pos e,if_pos e.symm]
    ·rw[if_neg e,if_neg (λq=>e q.symm)]
   obtain⟨Y,z1,z2,z3,z4⟩:=iO.lay h.pw h.wo h.mm (nW.of (R:=⟨(p.rp k).pv,(p.rp k).Ps,(p.rp k).fb,E,_⟩) h.lt a0) hT (λj hj=>.inl (aR1 hj)) I hW hF;have W:gM (p.rp k).Ps (aX R'.F) s:=by
    rw[<- Z];exact z.rs.write q1 q2 (q3.imp id λq=>⟨fO R.F,by rw[gV];exact q,λy hy=>iQ.1 hy⟩)
   have V:(fO R'.F).Nodup:=by rw[e1];exact aCm z.nd _ _ _
   refine⟨by rw[J],Y,_,_,R',⟨z1,hW,h.m.setF z e2 rfl Z W V,z2,h.lt,?_⟩,Z.symm,z3,z4⟩;have:=RpI.setF (X':=⟨(p.rp k).pv,(p.rp k).Ps,(p.rp k).fb,E,_⟩) z e2 rfl Z W V;simpa[vG.put] using this
  ·exact absurd J hn
 ·exact absurd J hn
theorem aYi(h:lI w B t)(r:Int)(x u:ByteArray)(hx:x.size<=10000000):
  Calls Tryz.prog 16 #[.pointer (some ⟨t.pb,0,none⟩),.int .i64 r,.string x,.string u] w λq w1=>∃c,q=.returned (.int .i64 c)/\(0<=c/\c<=1000)/\iG w w1 B t 96 #[.pointer (some ⟨t.rb,0,none⟩),.int .i64 r,.string x,.string u] (.int .i64 c):=by
 have h0:=h;obtain⟨p,G,e,own,Pa,D,U,W,I,hk⟩:=h
 cases hr:lE r p.nr
 ·refine(aSi (U.2 0 U.1) r hr x u).mono ?_;rintro q w1 ⟨rfl,rfl⟩;refine⟨_,rfl,by omega,iG.below h0 (Below.refl _ _) λw2 Y=>?_⟩;refine(aSk r x u t.rb w2 (W.below Y).view (by rw[I.nrl];exact hr)).mono ?_;rintro q w' ⟨rfl,rfl⟩;exact⟨rfl,Below.refl _ _⟩
 ·obtain⟨k,rfl,E⟩:=aB2 hr;obtain⟨R,s,J⟩:=I.rps k E;by_cases Z:gZ R.F x u=0
  ·refine(aHk ⟨U,W,I,hk,E,J⟩ x u hx Z).mono ?_;rintro q w1 ⟨rfl,g1,g2⟩;refine⟨_,rfl,by omega,g1,λw2 z=>(g2 w2 z).mono ?_⟩;rintro q w' ⟨rfl,M',p',D',R',z1,-,z3,z4⟩;exact⟨rfl,M',z1.at_,z3,z4⟩
  ·have hO:=U.2 k E;rw[J.f] at hO;have hF:=J.flen;have a0:=I.n3;refine(aDz hO J.nd (by omega) x u).mono ?_;rintro q w1 ⟨rfl,⟨V,-⟩|⟨-,Y⟩⟩
   ·exact absurd V Z
   ·refine⟨_,rfl,aVg _ _ _,iG.below h0 Y λw2 z=>?_⟩;refine(aD0 k R x u hx B t.rb w2 (W.below z) J.at_ (by rw[I.nrl];exact a0) (by omega)).mono ?_;rintro q w' ⟨rfl,⟨hn,-⟩|⟨-,V⟩⟩
    ·exact absurd hn Z
    ·exact⟨rfl,V⟩
theorem aZ4(f:ByteArray->Option ByteArray)(x:ByteArray):0<=(mN f x).2/\(mN f x).2<=1000:=by
 unfold mN
 repeat' split
 all_goals simp
theorem aYg(h:lI w B t)(r:Int)(x:ByteArray)(hx:x.size<=10000000):
  Calls Tryz.prog 80 #[.pointer (some ⟨t.pb,0,none⟩),.int .i64 r,.string x] w λq w1=>∃c,q=.returned (.int .i64 c)/\(0<=c/\c<=1000)/\iG w w1 B t 97 #[.pointer (some ⟨t.rb,0,none⟩),.int .i64 r,.string x] (.int .i64 c):=by
 have h0:=h;obtain⟨p,G,e,own,Pa,D,hP,hD,W,hk⟩:=h;have a0:∀{c:Int},jK r p.nr x=c->c≠0->∀w2,Below w.heap.size w w2->Calls Tryz.prog 97 #[.pointer (some ⟨t.rb,0,none⟩),.int .i64 r,.string x] w2 λe w'=>e=.returned (.int .i64 c)/\Below w2.heap.size w2 w':=λ{c} z E w2 hb=>by
  have:=aQ3 (D:=D) r x hx t.rb w2 (hD.below hb).view (by rw[W.nrl,z];exact E);rw[W.nrl,z] at this;exact this
 cases hr:lE r p.nr
 ·refine(aQ2 (hP.2 0 hP.1) r hr x).mono ?_;rintro q w1 ⟨rfl,rfl⟩;exact⟨_,rfl,by omega,iG.below h0 (Below.refl _ _) (a0 (wK hr) (by decide))⟩
 ·obtain⟨k,rfl,I⟩:=aB2 hr;obtain⟨R,s,Y⟩:=W.rps k I;have hO:=hP.2 k I;rw[Y.f] at hO;have hF:=Y.flen;have a2:=W.n3;refine(aNv hO x).mono ?_;rintro q w1 ⟨rfl,z⟩;refine⟨_,rfl,aZ4 _ _,?_⟩;have en:jK (k:Int) p.nr x=if dJ x=true then 0 else 2:=by unfold jK;rw[tX I];rfl
  have V:dJ x=true->∀w2,WO w2 B t.rb D->_:=λJ w2 h2=>aNw k R x hx B t.rb w2 h2 Y.at_ (by rw[W.nrl];exact a2) (by omega) (by rw[W.nrl,en,J];rfl);rcases z with ⟨z,a1,hg⟩|⟨z,hb⟩
  ·have J:dJ x=true:=by
    unfold mN at z
    cases E:dJ x with
    | true=>rfl
    | false=>rw[E] at z;simp at z
   have hs:(aX R.F x).isSome=true:=by
    unfold mN at z;rw[J] at z
    cases E:(aX R.F x).isSome with
    | true=>rfl
    | false=>rw[E] at z;simp at z
   have hT:Tn p.ft w w1:=Tn.grown hg (.inr (.inr ⟨k,I,.inl rfl⟩));refine⟨hT.mono λj hj=>(hk j).2 (.inl hj),λw2 U=>?_⟩;refine(V J w2 (hD.mid hP hT U)).mono ?_;rintro q w' (⟨E,-⟩|⟨-,rfl,R',Z,e2,hW,hF⟩)
   ·rw[uS,hs] at E;cases E
   ·have ef:(λy=>if y=x then none else aX R.F y)=aX R'.F:=by
     funext y;rw[Z];show _=aX (gA R.F x) y;rw[rB Y.nd];by_cases e:y=x
     ·rw[if_pos e,if_pos e.symm]
     ·rw[if_neg e,if_neg (λq=>e q.symm)]
    refine⟨by rw[z],iO.of hP hD hk (nW.of (R:=⟨(p.rp k).pv,(p.rp k).Ps,(p.rp k).fb,(p.rp k).fn,λy=>if y=x then none else aX R.F y⟩) I a1) hT (λj hj=>.inl (aR1 hj)) U hW hF (W.setF Y e2 rfl ef ?_ (by rw[Z];exact aCm Y.nd _ _ _))⟩;rw[<- ef];exact Y.rs.erase x
  ·cases J:dJ x with
   | false=>
    rw[J] at en;have Z:(mN (aX R.F) x).2=2:=by unfold mN;rw[J];rfl
    rw[Z];exact iG.below h0 hb (a0 en (by decide))
   | true=>
    have hs:(aX R.F x).isSome=false:=by
     unfold mN at z;rw[J] at z
     cases E:(aX R.F x).isSome with
     | false=>rfl
     | true=>rw[E] at z;simp at z
    have Z:(mN (aX R.F) x).2=5:=by unfold mN;rw[J,hs];rfl
    rw[Z];refine iG.below h0 hb λw2 U=>?_;refine(V J w2 (hD.below U)).mono ?_;rintro q w' (⟨-,rfl,E⟩|⟨E,-⟩)
    ·exact⟨rfl,E⟩
    ·rw[uS,hs] at E;cases E
theorem aYh(h:lI w B t)(r:Int):∃(c:Int) (L:List ByteArray),0<=c/\c<=1000/\L.length<=1000/\
  (∀z,Below w.heap.size w z->Calls Tryz.prog 98 #[.pointer (some ⟨t.pb,0,none⟩),.int .i64 r] z λe w'=>∃v,e=.returned (.tuple #[v,.int .i64 c])/\w'.ownsRow z.heap.size 9 1 v L.length (bW L)/\Below z.heap.size z w')/\
  ∀z,Below w.heap.size w z->Calls Tryz.prog 99 #[.pointer (some ⟨t.rb,0,none⟩),.int .i64 r] z λe w'=>∃v,e=.returned (.tuple #[v,.int .i64 c])/\w'.ownsRow z.heap.size 9 1 v L.length (bW L)/\Below z.heap.size z w':=by
 obtain⟨p,G,e,own,Pa,D,V,hD,U,hk⟩:=h
 cases hr:lE r p.nr
 ·refine⟨1,[],by omega,by omega,by simp,λz E=>?_,λz E=>?_⟩
  ·refine(aQ4 ((V.2 0 V.1).below E) r hr).mono ?_;rintro e w' ⟨rfl,rfl⟩;exact⟨_,rfl,aK _ _ _ _,Below.refl _ _⟩
  ·refine(aOv r t.rb z (hD.below E).view (by rw[U.nrl];exact hr)).mono ?_;rintro e w' ⟨rfl,rfl⟩;exact⟨_,rfl,aK _ _ _ _,Below.refl _ _⟩
 ·obtain⟨k,rfl,I⟩:=aB2 hr;obtain⟨R,s,W⟩:=U.rps k I;have hO:=V.2 k I;rw[W.f] at hO;have hF:=W.flen;have Z:=U.n3;refine⟨0,yG (fO R.F),by omega,by omega,?_,λz E=>?_,λz E=>aLm k R B t.rb z (hD.below E) W.at_ (by rw[U.nrl];exact Z) (by omega)⟩
  ·have hs:=mR (fO R.F);have J:=(tD hs.1).length_le_of_subset λx hx=>(hs.2 x).1 hx;rw[gV] at J;exact aR J (by omega)
  ·have J:=(hO.below E).few (N:=fO R.F) λx hx=>iQ.1 hx;have Y:(fO R.F).length<=1000:=by rw[gV];omega
   have h8:=aN1 J Y;exact h8
end
def vJ(w:World)(S:TypeId->Prop)(g:Nat):Prop:=∃c t,w.heap[g]?=some (.cells c t (0,0))/\S t
theorem vJ.lt{w:World}{S:TypeId->Prop}{g:Nat}(h:vJ w S g):g<w.heap.size:=by
 obtain⟨c,t,h,_⟩:=h;exact lt_of_block h
theorem qN{w:World}{B n size:Nat}{e:TypeId}{v:Value}{U:List Value}{S:TypeId->Prop}(h:w.ownsRow B e size v n U)(I:S e){g:Nat}(E:v.ownBlock=some g):vJ w S g:=by
 rcases h.2 with ⟨rfl,_⟩|⟨V,cap,z,rfl,_,J,_⟩
 ·cases E
 ·simp[Value.ownBlock] at E;subst E;exact⟨z,e,J,I⟩
def aSu(t:TypeId):Prop:=t=9\/t=73\/t=142
theorem gG.typed{w:World}{B J:Nat}{S:Nat->Prop}{K:List mX}{lv U:Value}(h:gG w B S J K lv U):gG w B (vJ w aSu) J K lv U:=by
 have E:∀{v n m},eF w B S v n m->eF w B (vJ w aSu) v n m:=λhv=>⟨hv.1,λg I=>qN hv.1 (Or.inl rfl) I⟩;exact⟨h.lo,⟨_,73,h.cell,Or.inr (Or.inl rfl)⟩,h.cell,h.row,λg I=>qN h.row (Or.inr (Or.inr rfl)) I,λe z=>⟨E (h.ents e z).a,E (h.ents e z).b,E (h.ents e z).c,E (h.ents e z).d,(h.ents e z).few⟩,h.few⟩
theorem gG.old{w:World}{B z:Nat}{S:Nat->Prop}{K:List mX}{lv E:Value}(h:gG w B S z K lv E):gG w B (zG w) z K lv E:=h.typed.mono λ_ I=>I.lt
theorem gG.stays{w w':World}{B z:Nat}{S:Nat->Prop}{K:List mX}{lv E:Value}(h:gG w B S z K lv E)(hs:∀g,vJ w aSu g->w'.heap[g]?=w.heap[g]?):gG w' B (zG w') z K lv E:=by
 have h2:gG w' B (vJ w aSu) z K lv E:=h.typed.same hs;exact h2.old
theorem vJ.ne{w:World}{S:TypeId->Prop}{g z:Nat}{c:Array Value}{t:TypeId}(h:vJ w S g)(E:w.heap[z]?=some (.cells c t (0,0)))(I:¬ S t):g≠z:=by
 rintro rfl;obtain⟨J,U,h1,h2⟩:=h;rw[E] at h1;injection h1 with h1;injection h1 with _ h1 _;subst h1;exact I h2
theorem vJ.cold{w:World}{S:TypeId->Prop}{g:Nat}(h:vJ w S g)(z:∀t,S t->pP t):¬ Hot w g:=λE=>by
 obtain⟨c,t,h1,h2⟩:=h;exact E.ne ⟨_,_,h1⟩ (z t h2)
def Tw.cells(t:Tw):List Value:=[.pointer (some ⟨t.pb,0,none⟩),.pointer (some ⟨t.rb,0,none⟩)]
structure WA (w:World) (B bb:Nat) (K:List mX) (lv kv:Value) (T:List Tw):Prop where
 book:gG w B (zG w) bb K lv kv
 row:w.ownsRow B 99 2 lv T.length (T.flatMap Tw.cells)
 tw:∀t∈T,lI w B t
 apart:T.Pairwise λa b=>∀k,a.M k->¬ b.M k
 few:T.length<=10000000
 lo:B<=w.heap.size
theorem WA.below{w w':World}{B E:Nat}{K:List mX}{lv I:Value}{T:List Tw}(h:WA w B E K lv I T)(z:Below w.heap.size w w'):WA w' B E K lv I T:=
 ⟨h.book.stays λg J=>z.block g J.lt,bQ h.row z (aA _),λt U=>(h.tw t U).below z,h.apart,h.few,aR h.lo z.size⟩
theorem WA.bbl{w:World}{B z:Nat}{K:List mX}{lv E:Value}{T:List Tw}(h:WA w B z K lv E T):z<w.heap.size:=lt_of_block h.book.cell
theorem WA.booked{w w':World}{B E:Nat}{K Y:List mX}{lv kv I:Value}{T:List Tw}(h:WA w B E K lv kv T)(hb:gG w' B (zG w') E Y lv I)(U:B<=w'.heap.size)(V:w.heap.size<=w'.heap.size)
  (hf:∀g,g<w.heap.size->g≠E->some g≠kv.ownBlock->w'.heap[g]?=w.heap[g]?):WA w' B E Y lv I T:=by
 have t1:TB w E 73:=⟨_,_,h.book.cell⟩;have Z:∀g t,TB w g t->t≠73->t≠142->w'.heap[g]?=w.heap[g]?:=λg t z n1 n2=>hf g z.lt (z.ne t1 n1) λe=>(dI h.book.row e.symm).ne z (λq=>n2 q.symm) rfl;refine⟨hb,tA h.row λg hg=>Z g 99 (dI h.row hg) (by decide) (by decide),λt z=>(h.tw t z).stays ⟨V,λg t' W hc=>Z g t' W hc.2.1 hc.2.2.1⟩ λk hk=>?_,h.apart,h.few,U⟩;have J:=((h.tw t z).hot hk).2;refine hf k J.lt ?_ ?_
 ·rintro rfl;exact J.ne t1 (by simp[pP,cE])
 ·intro e;exact J.ne (dI h.book.row e.symm) (by simp[pP,cE])
theorem WA.doneM{w w':World}{B bb j:Nat}{K:List mX}{lv kv:Value}{T:List Tw}{t:Tw}{M':Nat->Prop}(h:WA w B bb K lv kv T)(hj:T[j]?=some t)(h1:lI w' B ⟨t.pb,t.rb,M'⟩)(h2:Tn t.M w w')(h3:∀k,M' k->t.M k\/w.heap.size<=k):WA w' B bb K lv kv (T.set j ⟨t.pb,t.rb,M'⟩):=by
 have hh:∀k,t.M k->B<=k/\Hot w k:=λk V=>(h.tw t (aD hj)).hot V;have hH:bU pP w w':=h2.held λk q _=>(hh k q).2;have V:∀{S:TypeId->Prop} {g},vJ w S g->(∀t,S t->pP t)->w'.heap[g]?=w.heap[g]?:=λ{S g} hg hS=>h2.keep g hg.lt λq=>hg.cold hS (hh g q).2;have Y:=(aB.1 hj).1;have J:=(aB.1 hj).2;refine⟨h.book.stays λg hg=>V hg λt ht=>by rcases ht with rfl|rfl|rfl<;>simp[pP,cE],?_,λu hu=>?_,?_,by rw[jG];exact h.few,aR h.lo h2.size⟩
 ·have I:(T.set j ⟨t.pb,t.rb,M'⟩).flatMap Tw.cells=T.flatMap Tw.cells:=by
   rw[tK,tK,List.map_set];congr 1;have:(T.map Tw.cells)[j]?=some t.cells:=by rw[aP,hj];rfl
   obtain⟨Z,U⟩:=aB.1 this;show (T.map Tw.cells).set j t.cells=_;rw[<- U,tH]
  rw[jG,I];exact tA h.row λg hg=>V (qN (S:=λx=>x=99) h.row rfl hg) λt ht=>by subst ht;simp[pP,cE]
 ·obtain⟨i,hi⟩:=bI.1 hu;by_cases W:j=i
  ·subst W;rw[mT Y] at hi
   cases hi
   exact h1
  ·rw[dE W] at hi;have a0:=h.tw u (aD hi);refine a0.stays hH.quell λk V=>h2.keep k (a0.hot V).2.lt λq=>?_;obtain⟨a1,b1⟩:=aB.1 hi;rcases Nat.lt_or_gt_of_ne W with h9|h9
   ·have:=cW.1 h.apart j i Y a1 h9;rw[J,b1] at this;exact this k q V
   ·have:=cW.1 h.apart i j a1 Y h9;rw[J,b1] at this;exact this k V q
 ·rw[cW];intro a b ha hb a2 k Z U;rw[jG] at ha hb;have E:=cW.1 h.apart a b ha hb a2;rw[List.getElem_set] at Z U;split at Z
  ·rename_i e1
   subst e1;rw[if_neg (by omega)] at U;rcases h3 k Z with z|z
   ·rw[J] at E;exact E k z U
   ·have:=((h.tw _ (bZ hb)).hot U).2.lt;omega
  ·split at U
   ·rename_i e1
    subst e1;rcases h3 k U with z|z
    ·rw[J] at E;exact E k Z z
    ·have:=((h.tw _ (bZ ha)).hot Z).2.lt;omega
   ·exact E k Z U
theorem WA.done{w w':World}{B E j:Nat}{K:List mX}{lv I:Value}{T:List Tw}{t:Tw}(h:WA w B E K lv I T)(V:T[j]?=some t)(U:iO w w' B t):∃z,z.length=T.length/\WA w' B E K lv I z:=by
 obtain⟨W,h1,h2,J⟩:=U;exact⟨_,jG,h.doneM V h1 h2 J⟩
def dX(w:World)(B bb:Nat)(K:List mX)(T:List Tw)(w':World):Prop:=
 ∃K' lv' kv' T',WA w' B bb K' lv' kv' T'/\K'.length<=K.length+1/\T.length<=T'.length/\T'.length<=T.length+1/\Below B w w'
theorem dX.below{w w':World}{B z:Nat}{K:List mX}{lv I:Value}{T:List Tw}(h:WA w B z K lv I T)(E:Below w.heap.size w w'):dX w B z K T w':=⟨K,lv,I,T,h.below E,by omega,aA _,by omega,E.mono h.lo⟩
def nV(w w':World)(bb:Nat):Prop:=(∀g,vJ w (λt=>t=76\/t=99) g->w'.heap[g]?=w.heap[g]?)/\w'.cell? ⟨bb,0,none⟩=w.cell? ⟨bb,0,none⟩
theorem nV.below{w w':World}{z:Nat}(I:Below w.heap.size w w')(E:z<w.heap.size):nV w w' z:=⟨λg J=>I.block g J.lt,I.cell (p:=⟨z,0,none⟩) E⟩
theorem nV.trans{w w1 w2:World}{z:Nat}(h:nV w w1 z)(k:nV w1 w2 z):nV w w2 z:=
 ⟨λg E=>(k.1 g (by obtain⟨c,t,h1,h2⟩:=E;exact⟨c,t,by rw[h.1 g ⟨c,t,h1,h2⟩];exact h1,h2⟩)).trans (h.1 g E),k.2.trans h.2⟩
theorem aEy{w w':World}{B:Nat}{t:Tw}(h:lI w B t)(I:Tn t.M w w'){S:TypeId->Prop}{g:Nat}(z:vJ w S g)(E:∀t,S t->pP t):w'.heap[g]?=w.heap[g]?:=I.keep g z.lt λq=>z.cold E (h.hot q).2
theorem nV.tn{w w':World}{B I:Nat}{t:Tw}{c:Array Value}(h:lI w B t)(J:Tn t.M w w')(z:w.heap[I]?=some (.cells c 73 (0,0))):nV w w' I:=
 ⟨λg U=>aEy h J U λt E=>by rcases E with rfl|rfl<;>simp[pP,cE],nX (aEy (S:=λx=>x=73) h J ⟨_,73,z,rfl⟩ λt E=>by subst E;simp[pP,cE])⟩
def vF(kind on r:Int)(s u:ByteArray):Value:=.agg #[.int .i64 kind,.int .i64 on,.int .i64 r,.string s,.string u]
def twV(t:Tw):Value:=.agg #[.pointer (some ⟨t.pb,0,none⟩),.pointer (some ⟨t.rb,0,none⟩)]
structure iL (w:World) (g:Nat) (t:Tw) (kind on r:Int) (s u:ByteArray):Prop where
 tw:w.heap[g]?=some (.cells #[.pointer (some ⟨t.pb,0,none⟩),.pointer (some ⟨t.rb,0,none⟩)] 99 (0,0))
 op:w.heap[g+1]?=some (.cells #[.int .i64 kind,.int .i64 on,.int .i64 r,.string s,.string u] 76 (0,0))
theorem iL.cells{w:World}{g:Nat}{t:Tw}{kind on r:Int}{s u:ByteArray}(h:iL w g t kind on r s u):
  w.cell? ⟨g,0,none⟩=some (.pointer (some ⟨t.pb,0,none⟩))/\w.cell? ⟨g,1,none⟩=some (.pointer (some ⟨t.rb,0,none⟩))/\
  w.cell? ⟨g+1,0,none⟩=some (.int .i64 kind)/\w.cell? ⟨g+1,2,none⟩=some (.int .i64 r)/\w.cell? ⟨g+1,3,none⟩=some (.string s)/\w.cell? ⟨g+1,4,none⟩=some (.string u):=by
 simp[World.cell?,h.tw,h.op]
theorem iL.made(w:World)(t:Tw)(kind on r:Int)(s u:ByteArray):iL ((w.alloc (.cells #[.pointer (some ⟨t.pb,0,none⟩),.pointer (some ⟨t.rb,0,none⟩)] 99)).alloc (.cells #[.int .i64 kind,.int .i64 on,.int .i64 r,.string s,.string u] 76)) w.heap.size t kind on r s u:=by
 constructor
 ·show ((w.heap.push _).push _)[w.heap.size]?=_;rw[gF,if_neg (by simp),gF,if_pos rfl]
 ·show ((w.heap.push _).push _)[w.heap.size+1]?=_;rw[gF,if_pos (by simp)]
theorem iL.below{w w':World}{g:Nat}{t:Tw}{kind on r:Int}{s u:ByteArray}(h:iL w g t kind on r s u)(z:Below w.heap.size w w'):iL w' g t kind on r s u:=
 ⟨by rw[z.block _ (lt_of_block h.tw)];exact h.tw,by rw[z.block _ (lt_of_block h.op)];exact h.op⟩
theorem iL.tn{w w':World}{B g:Nat}{t I:Tw}{kind on r:Int}{s u:ByteArray}(h:iL w g I kind on r s u)(z:lI w B t)(E:Tn t.M w w'):iL w' g I kind on r s u:=
 ⟨by rw[aEy (S:=λx=>x=99) z E ⟨_,99,h.tw,rfl⟩ λt z=>by subst z;simp[pP,cE]];exact h.tw,by rw[aEy (S:=λx=>x=76) z E ⟨_,76,h.op,rfl⟩ λt z=>by subst z;simp[pP,cE]];exact h.op⟩
theorem kH(w:World)(o p:Obj):Below w.heap.size w ((w.alloc o).alloc p):=((Below.refl _ _).alloc (aA _) _).alloc (by simp) _
theorem dX.done{w Z w':World}{B E j:Nat}{K:List mX}{lv Y:Value}{T:List Tw}{t:Tw}(h:WA w B E K lv Y T)(V:T[j]?=some t)(I:Below w.heap.size w Z)(U:iO Z w' B t):dX w B E K T w'/\nV w w' E:=by
 have z:=h.below I;have W:=z.tw t (aD V);obtain⟨T',e1,h1⟩:=z.done V U;obtain⟨M',-,J,-⟩:=U;exact⟨⟨K,lv,Y,T',h1,by omega,by omega,by omega,(I.mono h.lo).trans (J.below (λk q=>(W.hot q).1) z.lo)⟩,(nV.below I h.bbl).trans (nV.tn W J z.book.cell)⟩
end Go.Proofs.YtgdfipmdmgkidaaGreatDoor
