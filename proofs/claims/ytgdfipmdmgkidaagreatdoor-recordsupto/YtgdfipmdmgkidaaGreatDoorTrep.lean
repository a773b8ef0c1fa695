import Derived.Test.YtgdfipmdmgkidaaGreatDoorHset
import Derived.Test.YtgdfipmdmgkidaaGreatDoorNplace
import Derived.Test.YtgdfipmdmgkidaaGreatDoorHcme
import Derived.Deep.DeepCutAuto
import Derived.Test.YtgdfipmdmgkidaaGreatDoorHfil
import Derived.Test.YtgdfipmdmgkidaaGreatDoorAl
set_option linter.all false
set_option maxHeartbeats 25600000
set_option maxRecDepth 100000
namespace Go.Proofs.YtgdfipmdmgkidaaGreatDoor
open Go.RowKit
theorem aWl(s:ByteArray):∀k,k<=s.size->jI (mE s k).1=s.extract 0 (mE s k).2
 | 0,_=>by
  show jI []=s.extract 0 0;rw[aNb];apply gL;simp
 | k+1,hk=>by
  have z:=aWl s k (by omega);have E:=(oG s k).1;by_cases h:gb s k=10
  ·rw[xS h];show jI ((mE s k).1++[s.extract (mE s k).2 (k+1)])=s.extract 0 (k+1);rw[aBt,z,aTf];congr 1<;>omega
  ·rw[xT h];exact z
theorem aKq(s:ByteArray):jI (bM s)=s:=by
 have h:=aWl s s.size (aA _);have z:=(oG s s.size).1;unfold bM;split
 ·rw[aBt,h,aTf];rw[show min 0 (mE s s.size).2=0 by omega,show max (mE s s.size).2 s.size=s.size by omega];exact bAg
 ·rw[h,show (mE s s.size).2=s.size by omega];exact bAg
theorem aOu{t:ByteArray}(h:dH t=true):t.size<=240/\(bM t).length<=16/\∀l∈bM t,1<=l.size/\l.size<=240:=by
 unfold dH at h;simp only[jX,decide_eq_true_eq] at h;exact⟨h.1.1,h.1.2,λl z=>⟨(qX t l z).1,aR (qX t l z).2 h.1.1⟩⟩
theorem aQv{ids:List cL}{p:PL}(h:fV ids p)(z:p.alive=false):aL p.S=[]:=by
 rw[gX];have:cA p.S=[]:=aE5.2 λt E=>by rw[h.dead z t E];simp
 rw[this];rfl
theorem fU.det{c:fM}{name:ByteArray}{p:PL}{t E:ByteArray}(h:fU c name p t)(z:fU c name p E):t=E:=by
 cases c with
 | add i l rv S=>exact h.2.trans z.2.symm
 | remove i rv S=>exact h.2.trans z.2.symm
 | alter i hv Hs=>
  obtain⟨g,g0,g1,rfl,_⟩:=h;obtain⟨f,f0,f1,rfl,_⟩:=z;have:∀j,j<=Hs.length->g j=f j:=by
   intro j
   induction j with
   | zero=>intro _;rw[f0,g0]
   | succ j ih=>
    intro hj;have U:Hs[j]?=some Hs[j]:=aC (by omega);obtain⟨t,q,V,W,_,_,_,_,_,_,Y⟩:=g1.step j _ U;obtain⟨E,q',I,J,_,_,_,_,_,_,Z⟩:=f1.step j _ U;rw[V] at I
    cases I
    rw[W] at J
    cases J
    rw[Y,Z,ih (by omega)]
  exact this _ (aA _)
theorem hU.det9{Ps:List PM}{W st':Nat->Nat->ByteArray->PL}{U E:Nat->Nat}(h:hU Ps W U)(I:hU Ps st' E):∀p,p<=Ps.length->st' p 0=W p 0
 | 0,_=>by rw[h.start,I.start]
 | p+1,hp=>by
  have z:Ps[p]?=some Ps[p]:=aC (by omega);rw[h.next p _ z,I.next p _ z];have:∀k,k<=Ps[p].Cs.length->st' p k=W p k:=by
   intro k
   induction k with
   | zero=>intro _;exact hU.det9 h I p (by omega)
   | succ k ih=>
    intro hk;have J:Ps[p].Cs[k]?=some Ps[p].Cs[k]:=aC (by omega);have e:=ih (by omega);funext x;by_cases V:x=Ps[p].Cs[k].1
    ·subst V;have Z:=h.app p _ k _ z J;have Y:=I.app p _ k _ z J;rw[e] at Y;exact Z.det Y
    ·rw[h.other p _ k _ z J x V,I.other p _ k _ z J x V,e]
  exact this _ (aA _)
def bBs(Ps:List PM):Prop:=∀st cnt,hU Ps st cnt->∀(p:Nat) (P:PM),Ps[p]?=some P->∀c∈P.Cs,∃t:ByteArray,fU c.2 c.1 (st p 0 c.1) t/\t.size<=1000000
theorem aQ1:bM ⟨#[]⟩=[]:=by decide +kernel
structure gM (Ps:List PM) (f:ByteArray->Option ByteArray) (s:ByteArray->PL):Prop where
 hs:HSl Ps s
 fnm:∀x t,f x=some t->dJ x=true/\dH t=true
 snm:∀x,(s x).alive=true->dJ x=true/\∃t,dH t=true/\aL (s x).S=bM t
 row:∀x,(s x).S.length<=16 * Ps.length
 al:∃A:List ByteArray,A.length<=5 * Ps.length/\∀x,(s x).alive=true->x∈A
 un:∃U:List ByteArray,U.length<=5/\∀x,(f x).isSome=true->(s x).alive=true\/x∈U
 told:bBs Ps
section
variable {Ps:List PM} {f:ByteArray->Option ByteArray} {s:ByteArray->PL}
theorem gM.cells(h:gM Ps f s)(x:ByteArray):fV (Ps.map (·.id)) (s x):=h.hs.hist.good.1 x
theorem gM.sizes(h:gM Ps f s)(x:ByteArray):(s x).S.length<=640/\(aL (s x).S).length<=16/\(dM (s x).S).size<=240/\∀l∈aL (s x).S,l.size<=240:=by
 have h1:=h.row x;have h2:=h.hs.len;refine⟨by omega,?_⟩
 cases z:(s x).alive with
 | false=>
  rw[show dM (s x).S=jI (aL (s x).S) from rfl,aQv (h.cells x) z];exact⟨by simp,by decide,by simp⟩
 | true=>
  obtain⟨-,t,I,e⟩:=h.snm x z;obtain⟨J,U,V⟩:=aOu I;rw[show dM (s x).S=jI (aL (s x).S) from rfl,e,aKq];exact⟨U,J,λl E=>(V l E).2⟩
theorem gM.text(h:gM Ps f s){x:ByteArray}(z:(s x).alive=true):dH (dM (s x).S)=true/\aL (s x).S=bM (dM (s x).S):=by
 obtain⟨-,t,E,e⟩:=h.snm x z;rw[show dM (s x).S=jI (aL (s x).S) from rfl,e,aKq];exact⟨E,rfl⟩
theorem gM.fl(h:gM Ps f s)(x:ByteArray):((f x).getD ⟨#[]⟩).size<=240/\(bM ((f x).getD ⟨#[]⟩)).length<=16/\∀l∈bM ((f x).getD ⟨#[]⟩),1<=l.size/\l.size<=240:=by
 cases z:f x with
 | none=>
  show ((⟨#[]⟩:ByteArray)).size<=240/\(bM ⟨#[]⟩).length<=16/\∀l∈bM ⟨#[]⟩,1<=l.size/\l.size<=240;rw[aQ1];exact⟨by decide,by simp,by simp⟩
 | some t=>exact aOu (h.fnm x t z).2
theorem gM.mem(h:gM Ps f s){x:ByteArray}(z:(f x).isSome=true\/(s x).alive=true):dJ x=true:=by
 rcases z with z|z
 ·obtain⟨t,E⟩:=lH.1 z;exact(h.fnm x t E).1
 ·exact(h.snm x z).1
theorem gM.name(h:gM Ps f s){x:ByteArray}(z:x.size<=1000):aKc f s x:=by
 obtain⟨h1,h2,E,I⟩:=h.sizes x;obtain⟨J,U,V⟩:=h.fl x;exact⟨z,by omega,by omega,{ name:=z,text:=by show ((f x).getD ⟨#[]⟩).size<=10000;omega,lines:=by show (bM ((f x).getD ⟨#[]⟩)).length<=20;omega,row:=by show (s x).S.length<=9000;omega,living:=by show (aL (s x).S).length<=900;omega }⟩
theorem tD{K:List ByteArray}(h:pG K):K.Nodup:=h.imp λ{a b} z e=>by subst e;exact List.lt_irrefl _ z
theorem gM.few(h:gM Ps f s){K:List ByteArray}(hs:K.Nodup)(I:∀x∈K,(f x).isSome=true\/(s x).alive=true):K.length<=5 * Ps.length+5:=by
 obtain⟨A,W,E⟩:=h.al;obtain⟨U,Y,V⟩:=h.un;have z:K⊆A++U:=λx J=>by
  rcases I x J with h1|h1
  ·rcases V x h1 with h2|h2
   ·exact aG.2 (.inl (E x h2))
   ·exact aG.2 (.inr h2)
  ·exact aG.2 (.inl (E x h1))
 have:=hs.length_le_of_subset z;rw[aJ] at this;omega
end
section
variable {Ps:List PM} {f:ByteArray->Option ByteArray} {s:ByteArray->PL} {i:cL} {K:List ByteArray} {Cs:List (ByteArray×fM)} {m:Nat->Int}
theorem vX(I:dG s i (cO f s K) Cs m){k:Nat}{c:ByteArray×fM}(V:Cs[k]?=some c):c.1∈K/\cZ f s c.1=true/\(cO f s K)[k]?=some (oN f c.1)/\0<=m k/\jE (s c.1) i (m k) (f c.1).isSome ((f c.1).getD ⟨#[]⟩) c.2 (m (k+1)):=by
 have J:=(aB.1 V).1;have E:k<(cO f s K).length:=by rw[<- I.len];exact J
 have U:=aC E;obtain⟨e,Z⟩:=I.at_ k _ c U V;have z:=bZ E;generalize (cO f s K)[k]=g at *;unfold cO at z;obtain⟨x,W,rfl⟩:=aI.1 z;have Y:c.1=x:=e;rw[Y];exact⟨(cT.1 W).1,(cT.1 W).2,U,I.pos k (by omega),Z⟩
theorem xE(z:dG s i (cO f s K) Cs m):Cs.map (·.1)=K.filter (cZ f s):=by
 have h1:(cO f s K).map (·.name)=K.filter (cZ f s):=by
  unfold cO;rw[fG];have e:((λg:Fl=>g.name) ∘ oN f)=id:=rfl;rw[e,List.map_id]
 rw[<- h1];apply rV;intro k;rw[aP,aP]
 cases E:Cs[k]? with
 | none=>
  have:(cO f s K).length<=k:=by rw[<- z.len];exact List.getElem?_eq_none_iff.1 E
  rw[gK this];rfl
 | some c=>
  rw[(vX z E).2.2.1];rfl
structure ChF (f:ByteArray->Option ByteArray) (s:ByteArray->PL) (i:cL) (c:ByteArray×fM) (p':PL):Prop where
 app:aE3 i c.2 (s c.1) p'
 wf:aD1 i c.2
 br:(jS c.2).length<=16
 self:¬ xK (pR c.2) i (rH c.2)
 small:qU c.2
 line:∀t∈jS c.2,0<t.line.size/\t.line.size<=240
 alive:p'.alive=(f c.1).isSome
 text:(f c.1).isSome=true->aL p'.S=bM ((f c.1).getD ⟨#[]⟩)
 row:p'.S.length<=(s c.1).S.length+16
theorem aH6(h:gM Ps f s){x:ByteArray}(z:cZ f s x=true):(s x).alive=true->(f x).isSome=true->aL (s x).S≠bM ((f x).getD ⟨#[]⟩):=λI J e=>by
 have E:dM (s x).S=(f x).getD ⟨#[]⟩:=by
  show jI (aL (s x).S)=_;rw[e,aKq]
 unfold cZ jJ oN at z;rw[I,J] at z;simp[E] at z
theorem gM.chg(h:gM Ps f s)(hi:i∉Ps.map (·.id))(E:i≠lF)(V:∀x∈K,(f x).isSome=true\/(s x).alive=true)(hM:dG s i (cO f s K) Cs m){c:ByteArray×fM}(hc:c∈Cs):∃p',ChF f s i c p':=by
 obtain⟨k,hk⟩:=bI.1 hc;obtain⟨Y,hd,-,hn,z⟩:=vX hM hk;obtain⟨k1,k2,k3⟩:=h.fl c.1;obtain⟨z1,z2,z3,z4⟩:=h.sizes c.1;have J:=h.hs.hist.noz;obtain⟨p',U,Z,a3⟩:=aXk (h.cells c.1) hi J E hn z (aH6 h hd);have I:=aLo (h.cells c.1) hi J E z (by omega) (by omega) (by omega);obtain⟨q,b1,-,-,b2,b3,b4⟩:=aUl (h.cells c.1) hi J E hn z (λha=>(V c.1 Y).resolve_right (by rw[ha];simp)) (by omega) (by omega) (by omega);have a0:=aSs U;have W:=aIs U (h.cells c.1) J hi E Z I (by omega) (by omega);have e:=W.det b1;subst e;exact⟨q,⟨U,Z,by omega,aUn (h.cells c.1) hi E z,I,λt ht=>(k3 _ (aRo z t ht)),b2,b3,by omega⟩⟩
theorem gM.tell(h:gM Ps f s)(U:dG s i (cO f s K) Cs m)(z:∀x∈K,(f x).isSome=true\/(s x).alive=true){k:Nat}{c:ByteArray×fM}(V:Cs[k]?=some c):∃T,fU c.2 c.1 (s c.1) T/\aE9 (s c.1) (f c.1).isSome ((f c.1).getD ⟨#[]⟩) c.1 T/\T.size<=1000000:=by
 obtain⟨E,hd,-,hn,I⟩:=vX U V;obtain⟨k1,k2,Y⟩:=h.fl c.1;obtain⟨z1,z2,z3,z4⟩:=h.sizes c.1;have W:=gR (h.mem (z c.1 E));obtain⟨T,t1,t2,Z,-⟩:=aUo (h.cells c.1) h.hs.hist.noz I c.1 (by omega) (by omega) (by omega) (λl J=>by have:=z4 l J;omega) (by omega) (λl J=>by have:=(Y l J).2;omega);exact⟨T,t1,t2,Z⟩
theorem gM.tells(h:gM Ps f s)(I:dG s i (cO f s K) Cs m)(z:∀x∈K,(f x).isSome=true\/(s x).alive=true):∃t:Nat->ByteArray,(∀k c,Cs[k]?=some c->fU c.2 c.1 (s c.1) (t k))/\∀k,(t k).size<=1000000:=by
 have:∀k:Nat,∃T:ByteArray,(∀c:ByteArray×fM,Cs[k]?=some c->fU c.2 c.1 (s c.1) T)/\T.size<=1000000:=λk=>by
  cases E:Cs[k]? with
  | none=>exact⟨⟨#[]⟩,(λc J=>by cases J),by decide⟩
  | some c=>
   obtain⟨T,t1,-,t2⟩:=h.tell I z E;exact⟨T,(λU e=>by cases e;exact t1),t2⟩
 exact⟨λk=>Classical.choose (this k),λk c E=>(Classical.choose_spec (this k)).1 c E,λk=>(Classical.choose_spec (this k)).2⟩
theorem gM.record(h:gM Ps f s)(hl:Ps.length<40)(hi:i∉Ps.map (·.id))(a3:i≠lF)(hK:pG K)(W:∀x∈K,(f x).isSome=true\/(s x).alive=true)(hM:dG s i (cO f s K) Cs m)(cv:Value):∃s',gM (Ps++[⟨i,cv,Cs⟩]) f s':=by
 have a0:(Cs.map (·.1)).Nodup:=by
  rw[xE hM];exact tD (hK.filter _)
 have a7:∀c∈Cs,∃p',ChF f s i c p':=λc z=>h.chg hi a3 W hM z;obtain⟨s',I,a4⟩:∃s':ByteArray->PL,(∀c∈Cs,ChF f s i c (s' c.1))/\∀x,(∀c∈Cs,c.1≠x)->s' x=s x:=by
  have each:∀x,∃p,(∀c∈Cs,c.1=x->ChF f s i c p)/\((∀c∈Cs,c.1≠x)->p=s x):=λx=>by
   by_cases J:∃c∈Cs,c.1=x
   ·obtain⟨c,z,rfl⟩:=J;obtain⟨p',hp⟩:=a7 c z;exact⟨p',λd hd e=>by rw[aXt a0 hd z e];exact hp,λhn=>absurd rfl (hn c z)⟩
   ·exact⟨s x,λc z e=>absurd ⟨c,z,e⟩ J,λ_=>rfl⟩
  exact⟨λx=>Classical.choose (each x),λc z=>(Classical.choose_spec (each c.1)).1 c z rfl,λx J=>(Classical.choose_spec (each x)).2 J⟩
 have b0:Cs.length<=205:=by
  have h1:(Cs.map (·.1)).length<=5 * Ps.length+5:=h.few a0 λx J=>by
   rw[xE hM] at J;exact W x (cT.1 J).1
  rw[aT] at h1;omega
 have a6:∀c∈Cs,(f c.1).isSome=true\/(s c.1).alive=true:=λc z=>by
  obtain⟨k,hk⟩:=bI.1 z;exact W _ (vX hM hk).1
 have a8:aBp ⟨i,cv,Cs⟩ s s':=⟨λc z=>(I c z).app,a4⟩;have hH:HSl (Ps++[⟨i,cv,Cs⟩]) s':=by
  refine⟨h.hs.hist.snoc a8 ⟨a0,λc z=>(I c z).wf,λc z=>(I c z).self⟩ hi a3,by simp;omega,?_⟩;have app:∀{Q:PM->Prop},(∀P∈Ps,Q P)->Q ⟨i,cv,Cs⟩->∀P∈Ps++[⟨i,cv,Cs⟩],Q P:=λ{Q} a b P V=>by
   rcases aG.1 V with V|V
   ·exact a P V
   ·rw[bE.1 V];exact b
  have sl:=h.hs.slim;exact⟨app sl.few (by show Cs.length<=300;omega),app (Q:=λP=>∀c∈P.Cs,c.1.size<=1000) sl.names (λc z=>by have:=gR (h.mem (a6 c z));omega),app (Q:=λP=>∀c∈P.Cs,qU c.2) sl.small (λc z=>(I c z).small),app (Q:=λP=>∀c∈P.Cs,(jS c.2).length<=1000) sl.br (λc z=>by have:=(I c z).br;omega),app (Q:=λP=>∀c∈P.Cs,∀t∈jS c.2,t.line.size<=1000) sl.line (λc z t ht=>by have:=((I c z).line t ht).2;omega)⟩
 have E:∀x,(∃c∈Cs,c.1=x/\ChF f s i c (s' x))\/s' x=s x:=λx=>by
  by_cases J:∃c∈Cs,c.1=x
  ·obtain⟨c,z,rfl⟩:=J;exact .inl ⟨c,z,rfl,I c z⟩
  ·exact .inr (a4 x λc z e=>J ⟨c,z,e⟩)
 obtain⟨A,a1,a2⟩:=h.al;obtain⟨U,u1,u2⟩:=h.un;refine⟨s',⟨hH,h.fnm,λx Z=>?_,λx=>?_,⟨A++U,by simp;omega,λx Z=>?_⟩,⟨U,u1,λx J=>?_⟩,?_⟩⟩
 ·rcases E x with ⟨c,z,rfl,Y⟩|e
  ·have hf:(f c.1).isSome=true:=by rw[<- Y.alive];exact Z
   obtain⟨t,ht⟩:=lH.1 hf;obtain⟨q1,q2⟩:=h.fnm _ t ht;refine⟨q1,t,q2,?_⟩;rw[Y.text hf,ht];rfl
  ·rw[e] at Z ⊢;exact h.snm x Z
 ·rw[aJ,eY];have:=h.row x;rcases E x with ⟨c,z,rfl,Y⟩|e
  ·have:=Y.row;omega
  ·rw[e];omega
 ·rw[aG];rcases E x with ⟨c,z,rfl,Y⟩|e
  ·rcases u2 c.1 (by rw[<- Y.alive];exact Z) with h1|h1
   ·exact .inl (a2 _ h1)
   ·exact .inr h1
  ·rw[e] at Z;exact .inl (a2 x Z)
 ·rcases E x with ⟨c,z,rfl,Y⟩|e
  ·exact .inl (by rw[Y.alive];exact J)
  ·rw[e];exact u2 x J
 ·intro st a5 hS p P V c z;by_cases e:p<Ps.length
  ·rw[aZ e] at V;exact h.told st a5 hS.pre9 p P V c z
  ·have e2:p=Ps.length:=by
    have:=(aB.1 V).1;simp at this;omega
   subst e2;rw[bH (aA _),jQ] at V
   cases V
   obtain⟨st0,a9,q1,q2,-⟩:=h.hs.stands;rw[q1.det9 hS.pre9 _ (aA _),q2];obtain⟨k,hk⟩:=bI.1 z;obtain⟨T,t1,-,t2⟩:=h.tell hM W hk;exact⟨T,t1,t2⟩
end
section
variable {e:iA} {own:List ByteArray} {Pa:List PM} {D D':RD} {L:ByteArray->cL->Prop} {s:ByteArray->PL}
theorem aH3(x:ByteArray)(r p:Nat)(R:iD)(rb sb:Nat)(z:RS)(w:World)(hK:kC w rb D' e own Pa D)(hs:sE w sb z)(hS:iE e own Pa D L s z.abs)(hl:(s x).S.length<=40000)(hR:D'.repos[r]?=some R)(hk:(dR s x).isSome=true)(hf:aX R.F x=none)(al:(s x).by_≠lF):
  Calls Tryz.prog 204 #[.pointer (some ⟨rb,0,none⟩),.int .i64 r,.pointer (some ⟨sb,0,none⟩),.string x,.int .i64 p] w λq w'=>∃v,q=.returned (.agg #[.string x,.int .i64 1,.int .i64 (e.fi x (s x).by_),.int .i64 0,.slice none 0 0,v,.slice none 0 0])/\w'.ownsRow w.heap.size 273 2 v ((s x).S.map (sC e)).length (((s x).S.map (sC e)).flatMap eN)/\Below w.heap.size w w':=by
 obtain⟨⟨kf,d7⟩,-,-,-⟩:=hS.yes x al;obtain⟨b7,b0⟩:=hS.last hK x;have b5:fil e x (s x).by_=(e.fi x (s x).by_:Nat):=by unfold fil;rw[if_neg al]
 rw[b5] at b0;have H1:Hid (∀u,Below w.heap.size w u->Calls Tryz.prog 239 #[.pointer (some ⟨rb,0,none⟩),.pointer (some ⟨sb,0,none⟩),.string x] u λq w'=>q=.returned (.int .i64 (e.fi x (s x).by_:Nat))/\Below u.heap.size u w'):=λu Y=>
  rI x _ rb sb D' z u (hK.below Y).wv (hs.below Y) b7 b0
 have H2:Hid (∀u,Below w.heap.size w u->Calls Tryz.prog 141 #[.pointer (some ⟨rb,0,none⟩),.int .i64 r,.string x] u λq w'=>q=.returned (.tuple #[.string ⟨#[]⟩,.bool false])/\w'=u):=λu Y=>by
  have:=nA r R x rb u (hK.below Y).wv hR hK.rps.1 (hK.rps.2 R (aD hR)).1;rw[hf] at this;exact this
 have H3:Hid (∀u,Below w.heap.size w u->Calls Tryz.prog 142 #[.pointer (some ⟨rb,0,none⟩),.pointer (some ⟨sb,0,none⟩),.string x] u λq w'=>q=.returned (.tuple #[.string ((dR s x).getD ⟨#[]⟩),.bool true])/\Below u.heap.size u w'):=λu Y=>by
  have:=lL x rb sb z u (hK.below Y) (hs.below Y) hS hl;rw[hk] at this;exact this
 obtain⟨e6,a3⟩:=hS.row2 al;have HS:=aO hs;have HD:Hid (∀t∈(s x).S,z.dead[fI e t]?=some (!t.alive)):=λt ht=>(hS.cell x t ht).2.2;have e3:=(aB.1 a3).1;have b4:=aO a3;clear hK hs hS hR hk hf al d7 b7 b0 b5 a3;generalize (dR s x).getD ⟨#[]⟩=tx at *;generalize e.fi x (s x).by_=fx at *;generalize (s x).S=S at *;obtain⟨e5,d9,q0,d0⟩:=HS.out.rows_;obtain⟨U,d3,rfl,q1,b1⟩:=d0 _ _ _ b4.out;obtain⟨ia,ic,e0,-,-⟩:=RI.each b1;rw[aT] at e0;subst e0;have d1:=HS.out.lt;have b6:U<w.heap.size:=by
  by_cases h:U<w.heap.size
  ·exact h
  ·simp[World.cell?,eI (show w.heap.size<=U by omega)] at q1
 generalize d8:z.rows.length=zr at *;have a7:Hid (∀u,Below w.heap.size w u->u.cell? ⟨sb,2,none⟩=some (.slice (some ⟨U,d3,none⟩) zr d9)/\u.cell? ⟨U,d3+fx,none⟩=some (.slice ia S.length ic)):=λu Y=>⟨(bN (Y.block sb d1) _).trans q0,(bN (Y.block U b6) _).trans q1⟩;have H4:Hid (∀u,Below w.heap.size w u->Calls Tryz.prog 241 #[.pointer (some ⟨sb,0,none⟩),.slice ia S.length ic] u λq w'=>∃v,q=.returned v/\w'.ownsRow u.heap.size 273 2 v (S.map (sC e)).length ((S.map (sC e)).flatMap eN)/\Below u.heap.size u w'):=λu Y=>by
  have hm:(S.map (sC e)).map (·.1)=S.map (fI e):=by rw[fG];rfl
  exact aG5 (S.map (sC e)) (.slice ia S.length ic) sb z u (HS.out.below Y) (by rw[hm];exact eJ.below b1 Y) (λn hn=>by obtain⟨t,ht,rfl⟩:=aI.1 hn;exact HD.out t ht) (by rw[aT];omega)
 clear q0 q1 d0 b1 d8;have a5:Below w.heap.size w (w.alloc (.cells ch0 265)):=(Below.refl _ _).alloc (aA _) _;have b3:=aO (aH w (.cells ch0 265)).1;go_enter Tryz.func204,Tryz.ntmps204
 go_wp2_with (first|(go_at_call 239;refine(H1.out _ a5).mono ?_;rintro q w2 ⟨rfl,I⟩;have a0:=a5.trans (I.mono a5.size))|(go_at_call 141;refine(H2.out _ a0).mono ?_;rintro q w3 ⟨rfl,rfl⟩)|(go_at_call 142;refine(H3.out _ a0).mono ?_;rintro q w4 ⟨rfl,a1⟩;have V:=a0.trans (a1.mono a0.size);obtain⟨s1,s2⟩:=a7.out w4 V;have t1:=λo=>bP o s1;have t2:=λo=>bP o s2))
 refine(H4.out _ (V.alloc V.size _)).mono ?_;rintro q w5 ⟨v,rfl,ho,a6⟩;obtain⟨Z,s4,rfl⟩:=bC ho;have b8:=(aH w4 (.cells #[.string x,.int .i64 1,.int .i64 (fx:Int),.int .i64 0,.slice none 0 0,.slice none 0 0,.slice none 0 0] 265)).1;have d2:(w4.alloc (.cells #[.string x,.int .i64 1,.int .i64 (fx:Int),.int .i64 0,.slice none 0 0,.slice none 0 0,.slice none 0 0] 265)).heap.size=w4.heap.size+1:=by simp
 have a2:=I.trans (a1.mono I.size);have a8:(w.alloc (.cells ch0 265)).heap.size=w.heap.size+1:=by simp
 have a4:=a2.size;rw[a8] at a4;have a9:Below w4.heap.size w4 (w4.alloc (.cells #[.string x,.int .i64 1,.int .i64 (fx:Int),.int .i64 0,.slice none 0 0,.slice none 0 0,.slice none 0 0] 265)):=(Below.refl _ _).alloc (aA _) _;have c9:w5.heap[w.heap.size]?=some (.cells ch0 265 (0,0)):=by
  rw[a6.block _ (by omega),a9.block _ (by omega),a2.block _ (by omega)];exact b3.out
 have W:w5.heap[w4.heap.size]?=some (.cells #[.string x,.int .i64 1,.int .i64 (fx:Int),.int .i64 0,.slice none 0 0,.slice none 0 0,.slice none 0 0] 265 (0,0)):=by
  rw[a6.block _ (by omega)];exact b8
 have J:Hid (Below w.heap.size w w5):=V.trans ((a9.mono V.size).trans (a6.mono (by omega)));have HO:Hid (w5.ownsRow w.heap.size 273 2 (.slice Z (S.map (sC e)).length s4) (S.map (sC e)).length ((S.map (sC e)).flatMap eN)):=bK ho (by omega);have e4:w.heap.size<w4.heap.size:=by omega
 clear ho a6 a9 a8 a4 a2 d2 b8 s1 s2 t1 t2 V a0 I a1 b3 a5 H1 H2 H3 H4 a7 HD b4 HS;generalize w4.heap.size=cb at *;generalize c8:(S.map (sC e)).length=nS at *;have d5:=aO c8;clear c8;have E:(w5.setCell ⟨cb,5,none⟩ (.slice Z nS s4)).heap[w.heap.size]?=some (.cells ch0 265 (0,0)):=(Below.heap_setCell _ _ _ _ (by simp;omega)).trans c9;have b9:=heap_setCell_same w5 cb 5 _ 265 (.slice Z nS s4) W;have c7:(w5.setCell ⟨cb,5,none⟩ (.slice Z nS s4)).heap[cb]?=some (.cells #[.string x,.int .i64 1,.int .i64 (fx:Int),.int .i64 0,.slice none 0 0,.slice Z nS s4,.slice none 0 0] 265 (0,0)):=b9;obtain⟨w9,b2⟩:∃w9,w9=(((((((w5.setCell ⟨cb,5,none⟩ (.slice Z nS s4)).setCell ⟨w.heap.size,0,none⟩ (.string x)).setCell ⟨w.heap.size,1,none⟩ (.int .i64 1)).setCell ⟨w.heap.size,2,none⟩ (.int .i64 fx)).setCell ⟨w.heap.size,3,none⟩ (.int .i64 0)).setCell ⟨w.heap.size,4,none⟩ (.slice none 0 0)).setCell ⟨w.heap.size,5,none⟩ (.slice Z nS s4)).setCell ⟨w.heap.size,6,none⟩ (.slice none 0 0):=⟨_,rfl⟩;obtain⟨e1,e2⟩:=zQ (w5.setCell ⟨cb,5,none⟩ (.slice Z nS s4)) _ _ _ _ _ _ _ w9 w.heap.size 265 _ _ _ _ _ _ _ _ _ _ _ _ _ _ E rfl rfl rfl rfl rfl rfl rfl b2;have d4:Hid (Below w.heap.size w w9):=by
  have o6:=iN.set w5 cb 5 (.slice Z nS s4);exact⟨(e2.os.trans o6.os).trans J.out.os,(e2.tape.trans o6.tape).trans J.out.tape,(e2.output.trans o6.output).trans J.out.output,by rw[e2.size,o6.size];exact J.out.size,λj hj=>((e2.block j (by omega)).trans (o6.block j (by omega))).trans (J.out.block j hj)⟩
 have d6:Hid (w9.ownsRow w.heap.size 273 2 (.slice Z nS s4) nS ((S.map (sC e)).flatMap eN)):=
  (HO.out.kept (gY w5 cb 5 (.slice Z nS s4)) (.inr λe9=>(dI HO.out e9).ne ⟨_,_,W⟩ (by decide) rfl)).kept e2.grown (.inr λe9=>by
   have:=dI (HO.out.kept (gY w5 cb 5 (.slice Z nS s4)) (.inr λe9=>(dI HO.out e9).ne ⟨_,_,W⟩ (by decide) rfl)) e9
   exact this.ne ⟨_,_,E⟩ (by decide) rfl)
 obtain⟨c0,c1,c2,c3,c4,c5,c6⟩:=kD W;have f5:=eG W 5;obtain⟨y0,y1,y2,y3,y4,y5,y6⟩:=kD c7;obtain⟨r0,r1,r2,r3,r4,r5,r6⟩:=kD E;have z0:=eG E 0;have z1:=eG E 1;have z2:=eG E 2;have z3:=eG E 3;have z4:=eG E 4;have z5:=eG E 5;have z6:=eG E 6;clear e2 HO J W b9 c7 c9 E;go_wp2;rw[<- b2];clear b2;refine bodyPost_ret (results_cell_row (p:=10) (ty:=265) (by kernel_rfl) _ _ w.heap.size 265 _ (0,0) _ rfl e1 Tryz.underlying265 rfl (by kernel_rfl)) rfl ?_;exact⟨_,rfl,by rw[d5.out];exact d6.out,d4.out⟩
end
structure AdM (w w1 wr:World) (B rb cb:Nat) (D:RD) (x:ByteArray) (fx:Int) (nf:Nat) (cv:Value) (K:List Nat):Prop where
 fr:hJ w wr rb
 wr_:WR wr B rb D
 h1:bU (λt=>cE t/\t≠265) w1 wr
 c_:wr.heap[cb]?=some (.cells #[.string x,.int .i64 0,.int .i64 fx,.int .i64 nf,cv,.slice none 0 0,.slice none 0 0] 265 (0,0))
 r_:wr.heap[w.heap.size]?=some (.cells ch0 265 (0,0))
 new:wr.ownsRow w1.heap.size 3 1 cv K.length (oO K)
theorem AdM.below{w I wr w':World}{B rb cb:Nat}{D:RD}{x:ByteArray}{E:Int}{nf:Nat}{cv:Value}{K:List Nat}(h:AdM w I wr B rb cb D x E nf cv K)(z:Below wr.heap.size wr w'):AdM w I w' B rb cb D x E nf cv K:=
 ⟨h.fr.trans (hJ.ofBelow z h.wr_.lt),h.wr_.below z,h.h1.trans ⟨z.size,λg t J _=>z.block g J.lt⟩,(z.block _ (lt_of_block h.c_)).trans h.c_,(z.block _ (lt_of_block h.r_)).trans h.r_,bQ h.new z (aA _)⟩
theorem AdM.come{w Y wr V I:World}{B rb cb g cap c:Nat}{D D':RD}{x:ByteArray}{Z:Int}{nf:Nat}{cv:Value}{K:List Nat}{o:Obj}(h:AdM w Y wr B rb cb D x Z nf cv K)(hf:hJ wr V rb)(hr:WR V B rb D')(J:(V.alloc o).grownBy I cv.ownBlock)(ho:I.ownsRow Y.heap.size 3 1 (.slice (some ⟨g,0,none⟩) (K.length+1) cap) (K.length+1) (oO K++[.int .i64 c]))(a3:w.heap.size<cb)(a2:w.heap.size<=Y.heap.size):
  AdM w Y (I.setCell ⟨cb,4,none⟩ (.slice (some ⟨g,0,none⟩) (K.length+1) cap)) B rb cb D' x Z nf (.slice (some ⟨g,0,none⟩) (K.length+1) cap) (K++[c])/\I.heap[cb]?=some (.cells #[.string x,.int .i64 0,.int .i64 Z,.int .i64 nf,cv,.slice none 0 0,.slice none 0 0] 265 (0,0)):=by
 have hh:=hf.held h.wr_;have J:=iH J;have U:V.ownsRow Y.heap.size 3 1 cv K.length (oO K):=lR h.new λk z=>hh.keep k 3 (dI h.new z) (by simp[cE]);have E:∀k,cv.ownBlock=some k->Y.heap.size<=k/\TB V k 3:=λk z=>⟨(h.new.lt k z).1,dI U z⟩;have h5:V.heap[cb]?=some (.cells #[.string x,.int .i64 0,.int .i64 Z,.int .i64 nf,cv,.slice none 0 0,.slice none 0 0] 265 (0,0)):=(hh.keep cb 265 ⟨_,_,h.c_⟩ (by simp[cE])).trans h.c_;have W:I.heap[cb]?=some (.cells #[.string x,.int .i64 0,.int .i64 Z,.int .i64 nf,cv,.slice none 0 0,.slice none 0 0] 265 (0,0)):=(J.block cb (lt_of_block h5) (λe=>(E cb e.symm).2.ne ⟨_,_,h5⟩ (by decide) rfl)).trans h5;have r5:V.heap[w.heap.size]?=some (.cells ch0 265 (0,0)):=(hh.keep w.heap.size 265 ⟨_,_,h.r_⟩ (by simp[cE])).trans h.r_;have r6:I.heap[w.heap.size]?=some (.cells ch0 265 (0,0)):=(J.block _ (lt_of_block r5) (λe=>(E _ e.symm).2.ne ⟨_,_,r5⟩ (by decide) rfl)).trans r5;have a1:hJ w I rb:=(h.fr.trans hf).grown hr J λk z=>⟨aR a2 (E k z).1,3,(E k z).2,by simp[cE]⟩;have a0:WR I B rb D':=hr.grown J λk z=>⟨3,(E k z).2,by simp[cE]⟩;have gs:=gY I cb 4 (.slice (some ⟨g,0,none⟩) (K.length+1) cap);refine⟨⟨a1.grown a0 gs λk z=>?_,a0.grown gs λk z=>?_,?_,heap_setCell_same I cb 4 _ 265 _ W,(Below.heap_setCell _ _ _ _ (by simp;omega)).trans r6,?_⟩,W⟩
 ·cases z;exact⟨by omega,265,⟨_,_,W⟩,by simp[cE]⟩
 ·cases z;exact⟨265,⟨_,_,W⟩,by simp[cE]⟩
 ·refine bU.grown (bU.grown (h.h1.trans (hh.mono λt ht=>ht.1)) J λk z=>.inl (E k z).1) gs λk z=>?_
  cases z
  exact .inr ⟨265,⟨_,_,W⟩,by simp⟩
 ·have:=gO ho W (o:=4) (u:=.slice (some ⟨g,0,none⟩) (K.length+1) cap) (by decide);simpa[oO] using this
section
variable {e:iA} {own:List ByteArray} {Pa:List PM} {D D':RD} {L:ByteArray->cL->Prop} {s:ByteArray->PL}
theorem aH0(x text:ByteArray)(r p B:Nat)(R:iD)(rb sb:Nat)(z:RS)(w:World)(J:kC w rb D' e own Pa D)(hW:WR w B rb D')(hs:sE w sb z)(hS:iE e own Pa D L s z.abs)(hl:(s x).S.length<=40000)(hR:D'.repos[r]?=some R)(hk:(dR s x).isSome=false)(hf:aX R.F x=some text)
  (hN:(bM text).length<=10000) (hc:D'.cells.length<=900000) (l7:D'.files.length<=900000) (l9:text.size<=100000) :
  Calls Tryz.prog 204 #[.pointer (some ⟨rb,0,none⟩),.int .i64 r,.pointer (some ⟨sb,0,none⟩),.string x,.int .i64 p] w λq w'=>∃v:Value,q=.returned (.agg #[.string x,.int .i64 0,.int .i64 (fil e x (s x).by_),.int .i64 D'.files.length,v,.slice none 0 0,.slice none 0 0])/\RI w' v ((List.range (bM text).length).map λt=>D'.cells.length+t)/\WR w' B rb ((D'.addFile x p).more (bM text) p)/\hJ w w' rb:=by
 obtain⟨j4,j6⟩:=hS.last J x;have H1:Hid (∀u,Below w.heap.size w u->Calls Tryz.prog 239 #[.pointer (some ⟨rb,0,none⟩),.pointer (some ⟨sb,0,none⟩),.string x] u λq w'=>q=.returned (.int .i64 (fil e x (s x).by_))/\Below u.heap.size u w'):=λu hu=>
  rI x _ rb sb D' z u (J.below hu).wv (hs.below hu) j4 j6
 have H2:Hid (∀u,Below w.heap.size w u->Calls Tryz.prog 141 #[.pointer (some ⟨rb,0,none⟩),.int .i64 r,.string x] u λq w'=>q=.returned (.tuple #[.string text,.bool true])/\w'=u):=λu hu=>by
  have:=nA r R x rb u (J.below hu).wv hR J.rps.1 (J.rps.2 R (aD hR)).1;rw[hf] at this;exact this
 have H3:Hid (∀u,Below w.heap.size w u->Calls Tryz.prog 142 #[.pointer (some ⟨rb,0,none⟩),.pointer (some ⟨sb,0,none⟩),.string x] u λq w'=>q=.returned (.tuple #[.string ((dR s x).getD ⟨#[]⟩),.bool false])/\Below u.heap.size u w'):=λu hu=>by
  have:=lL x rb sb z u (J.below hu) (hs.below hu) hS hl;rw[hk] at this;exact this
 have l0:B<=w.heap.size:=aR hW.lo (iT hW.lt);have HW:=aO hW;clear J hs hS hR hk hf j4 j6 hW;generalize (dR s x).getD ⟨#[]⟩=tx at *;generalize fil e x (s x).by_=fx at *;obtain⟨nf,Z⟩:∃nf,D'.files.length=nf:=⟨_,rfl⟩;have f4:=aO Z;rw[Z] at l7 ⊢;clear Z;obtain⟨N0,f6⟩:∃N0,D'.cells.length=N0:=⟨_,rfl⟩;have k4:=aO f6;rw[f6] at hc ⊢;clear f6;obtain⟨T,hT⟩:∃T,bM text=T:=⟨_,rfl⟩;have e4:=aO (λu=>xG text u l9);rw[hT] at e4 hN ⊢;clear hT;have c6:Below w.heap.size w (w.alloc (.cells ch0 265)):=(Below.refl _ _).alloc (aA _) _;have h6:=aO (aH w (.cells ch0 265)).1;have h8:Hid (∀U,Below w.heap.size w U->∃fv,Hid (∃pv cv sv,U.heap[rb]?=some (.cells #[pv,cv,fv,sv] 192 (0,0))/\U.ownsRow B 195 2 pv D'.pts.length (D'.pts.flatMap eP)/\U.ownsRow B 255 2 cv D'.cells.length (D'.cells.flatMap eL)/\U.ownsRow B 261 2 fv D'.files.length (D'.files.flatMap eL)/\U.ownsRow B 205 3 sv D'.repos.length (D'.repos.flatMap eR))/\U.cell? ⟨rb,2,none⟩=some fv/\Hid (∀o,(U.alloc o).ownsRow B 261 2 fv nf (D'.files.flatMap eL))):=λU h4=>by
  obtain⟨pv,cv,fv,sv,s1,s2,s3,s4,s5⟩:=(HW.out.below h4).wb;exact⟨fv,⟨pv,cv,sv,s1,s2,s3,s4,s5⟩,by simp[World.cell?,s1],λo=>by rw[<- f4.out];exact s4.alloc o⟩
 go_enter Tryz.func204,Tryz.ntmps204
 go_wp2_with (first|(go_at_call 239;refine(H1.out _ c6).mono ?_;rintro q w2 ⟨rfl,a0⟩;have a9:=c6.trans (a0.mono c6.size))|(go_at_call 141;refine(H2.out _ a9).mono ?_;rintro q w3 ⟨rfl,rfl⟩)|(go_at_call 142;refine(H3.out _ a9).mono ?_;rintro q U ⟨rfl,b1⟩;have b0:=a9.trans (b1.mono a9.size);obtain⟨fv,HP,t0,h3⟩:=h8.out U b0;have t1:=λo=>bP o t0)|(at_builtin;refine jA bAn _ rfl _ _ rfl B fv nf (D'.files.flatMap eL) rfl (h3.out _) #[.string x,.int .i64 p] (by simp;rfl) rfl (by simp[Value.oneCell']) (by omega) (by decide) (by have:=b0.size;simp;omega) ?_))
 intro g cap w5 b6 c7 d1 f9;have b2:=a0.trans (b1.mono a0.size);have d8:(w.alloc (.cells ch0 265)).heap.size=w.heap.size+1:=by simp
 have c1:=b2.size;rw[d8] at c1;obtain⟨wA,c4⟩:∃wA,wA=U.alloc (.cells #[.string x,.int .i64 0,.int .i64 fx,.int .i64 0,.slice none 0 0,.slice none 0 0,.slice none 0 0] 265):=⟨_,rfl⟩;rw[<- c4] at c7;have W:Below U.heap.size U wA:=by rw[c4];exact(Below.refl _ _).alloc (aA _) _
 have j9:wA.heap.size=U.heap.size+1:=by rw[c4];simp
 have a6:wA.heap[U.heap.size]?=some (.cells #[.string x,.int .i64 0,.int .i64 fx,.int .i64 0,.slice none 0 0,.slice none 0 0,.slice none 0 0] 265 (0,0)):=by rw[c4];exact(aH U _).1
 have a7:wA.heap[w.heap.size]?=some (.cells ch0 265 (0,0)):=by
  rw[W.block _ (by omega),b2.block _ (by omega)];exact h6.out
 have d2:Below w.heap.size w wA:=b0.trans (W.mono b0.size);obtain⟨pv,cv,sv,p0,p1,p2,p3,p4⟩:=HP.out;have q0:wA.heap[rb]?=some (.cells #[pv,cv,fv,sv] 192 (0,0)):=(W.block _ (lt_of_block p0)).trans p0;have g8:=bQ p3 W (aA _);have a4:w5.ownsRow B 261 2 (.slice (some ⟨g,0,none⟩) (D'.files.length+1) cap) (D'.files.length+1) (D'.files.flatMap eL++[.string x,.int .i64 p]):=by rw[f4.out];exact b6
 obtain⟨r1,r2,r3,r4⟩:=WR.put_file (x:=x) (p:=p) HW.out.lo q0 (bQ p1 W (aA _)) (bQ p2 W (aA _)) g8 (bQ p4 W (aA _)) c7 a4 (d1.imp id λh9=>by omega);rw[f4.out] at r1 r2 r4;have Z:∀k,fv.ownBlock=some k->TB wA k 261:=λk hk=>dI g8 hk;have b4:=iH c7;have j5:w5.heap[U.heap.size]?=some (.cells #[.string x,.int .i64 0,.int .i64 fx,.int .i64 0,.slice none 0 0,.slice none 0 0,.slice none 0 0] 265 (0,0)):=(b4.block _ (lt_of_block a6) (λe9=>(Z _ e9.symm).ne ⟨_,_,a6⟩ (by decide) rfl)).trans a6;have j8:w5.heap[w.heap.size]?=some (.cells ch0 265 (0,0)):=(b4.block _ (lt_of_block a7) (λe9=>(Z _ e9.symm).ne ⟨_,_,a7⟩ (by decide) rfl)).trans a7;have d5:U.heap.size≠rb:=λe9=>by rw[e9,q0] at a6;cases a6
 have d6:w.heap.size≠rb:=λe9=>by rw[e9,q0] at a7;cases a7
 have Y:(w5.setCell ⟨rb,2,none⟩ (.slice (some ⟨g,0,none⟩) (nf+1) cap)).heap[U.heap.size]?=some (.cells #[.string x,.int .i64 0,.int .i64 fx,.int .i64 0,.slice none 0 0,.slice none 0 0,.slice none 0 0] 265 (0,0)):=(Below.heap_setCell _ _ _ _ d5).trans j5;have I:(w5.setCell ⟨rb,2,none⟩ (.slice (some ⟨g,0,none⟩) (nf+1) cap)).heap[w.heap.size]?=some (.cells ch0 265 (0,0)):=(Below.heap_setCell _ _ _ _ d6).trans j8;have d4:hJ w (w5.setCell ⟨rb,2,none⟩ (.slice (some ⟨g,0,none⟩) (nf+1) cap)) rb:=(hJ.ofBelow d2 HW.out.lt).trans r2;have v1:w5.cell? ⟨rb,2,none⟩=some fv:=by simp[World.cell?,r3]
 have v2:=eG r3 2;have v3:(w5.setCell ⟨rb,2,none⟩ (.slice (some ⟨g,0,none⟩) (nf+1) cap)).cell? ⟨rb,2,none⟩=some (.slice (some ⟨g,0,none⟩) (nf+1) cap):=by simp[World.cell?,r4]
 obtain⟨-,-,-,v4,-,-,-⟩:=kD Y;have v5:=eG Y 3;have d3:w.heap.size<U.heap.size:=by omega
 have i4:=aO r1;have c9:=aO d4;have f3:=aO Y;have i5:=aO I;clear b6 c7 d1 f9 b2 d8 c1 W j9 a6 a7 d2 p0 p1 p2 p3 p4 q0 g8 a4 r1 r2 r3 r4 Z b4 j5 j8 d5 d6 Y I d4 c4 HP h3 t0 t1 b0 b1 a9 a0 h8 h6 c6 H1 H2 H3;generalize U.heap.size=cb at *;obtain⟨w6,c8⟩:∃w6,w6=(w5.setCell ⟨rb,2,none⟩ (.slice (some ⟨g,0,none⟩) (nf+1) cap)).setCell ⟨cb,3,none⟩ (.int .i64 (nf:Nat)):=⟨_,rfl⟩;have e0:Hid (∀w7,Below w6.heap.size w6 w7->AdM w w7 w7 B rb cb (D'.addFile x p) x fx nf (.slice none 0 0) []):=by
  have ov:=iN.set (w5.setCell ⟨rb,2,none⟩ (.slice (some ⟨g,0,none⟩) (nf+1) cap)) cb 3 (.int .i64 (nf:Nat));rw[<- c8] at ov;obtain⟨a1,a2,a3⟩:=aAr i4.out c9.out ⟨_,_,f3.out⟩ (iT d3) ov;have k6:=heap_setCell_same (w5.setCell ⟨rb,2,none⟩ (.slice (some ⟨g,0,none⟩) (nf+1) cap)) cb 3 _ 265 (.int .i64 (nf:Nat)) f3.out;rw[<- c8] at k6;have r6:=(ov.block w.heap.size (by omega)).trans i5.out;exact λw7 h7=>⟨a2.trans (hJ.ofBelow h7 a1.lt),a1.below h7,bU.refl _,(h7.block _ (lt_of_block k6)).trans k6,(h7.block _ (lt_of_block r6)).trans r6,aK _ _ _ _⟩
 have d7:w.heap.size<=w6.heap.size:=by
  have h9:=(e0.out w6 (Below.refl _ _)).fr.size;exact h9
 clear i4 c9 f3 i5
 go_wp2_with (go_at_call 162;rw[<- c8];refine(e4.out w6).mono ?_;rintro q w7 ⟨lv,rfl,g6,f8⟩;obtain⟨la,lc,rfl⟩:=bC g6)
 clear v1 v2 v3 v4 v5 c8;have k3:Hid (eJ w7 9 1 T.length (.slice la T.length lc) (bW T)):=eJ.own g6;have k0:w.heap.size<=w7.heap.size:=aR d7 f8.size;have g9:=aO (e0.out w7 f8);clear g6 f8 d7 e0 e4
 go_loopw [18] (λxi wr=>∃(k:Nat) (cv:Value),k<=T.length/\xi=.int .i64 k/\Hid (AdM w w7 wr B rb cb ((D'.addFile x p).more (T.take k) p) x fx nf cv ((List.range k).map λt=>N0+t))) (λxi _=>T.length - (intOf xi).toNat)
 case atStart=>exact⟨0,.slice none 0 0,aE _,rfl,by simpa[RD.more_nil] using g9⟩
 case round=>
  clear g9;obtain⟨k,cv,hk,rfl,HA⟩:=hrel;by_cases j7:k<T.length
  ·obtain⟨l,g5⟩:∃l,T[k]?=some l:=⟨_,aC j7⟩;have c0:=(eJ.held k3.out HA.out.h1 (by simp[cE])).below (Below.refl _ _).drew;have HM:=aO (HA.out.below (Below.refl _ _).drew);obtain⟨lb,lo,e5,c2⟩:∃lb lo,la=some ⟨lb,lo,none⟩/\wr.drew.cell? ⟨lb,lo+k,none⟩=some (.string l):=by
    obtain⟨_,_,e5,-,l6⟩:=c0.at_
    cases e5
    obtain⟨b7,o7,e6,-,l5⟩:=l6 (by omega);exact⟨b7,o7,e6,l5 k _ (by unfold bW;rw[aP,g5];rfl)⟩
   subst e5;have k5:=aO c0;have HY:Hid (((D'.addFile x p).more (T.take k) p).addCell l p=(D'.addFile x p).more (T.take (k+1)) p):=by
    unfold Hid;rw[RD.more_add,aF j7,(aB.1 g5).2]
   have f7:((D'.addFile x p).more (T.take k) p).cells.length=N0+k:=by
    have:(D'.addFile x p).cells.length=N0:=k4.out;simp only[RD.more,aJ,aT,bR,this];omega
   have e3:=aO (aC5 l p B rb _ wr.drew HM.out.wr_ (aR l0 (aR HM.out.fr.size (aA _))) (by rw[f7];omega));rw[f7] at e3;have c3:wr.drew.cell? ⟨cb,4,none⟩=some cv:=by simp[World.cell?,HM.out.c_]
   have V:Hid (wr.drew.cell? ⟨cb,4,none⟩=some cv/\wr.drew.cell? ⟨lb,lo+k,none⟩=some (.string l)):=⟨c3,c2⟩;have i7:((List.range k).map λt=>N0+t).length=k:=by simp
   clear c0 f7 g5 HA
   go_wp2_with fail
   refine dF (λw'=>w'.cell? ⟨cb,4,none⟩=some cv/\w'.cell? ⟨lb,lo+k,none⟩=some (.string l)) 12 (by kernel_rfl) ?_;refine zt 0 (v:=?vA0) V.out (λw0 E=>?hy) ?_
   case hy=>obtain⟨s1,s2⟩:=E;go_simp;with_reducible rfl
   simp only[Act.put,aW];refine zt 1 (v:=?vA1) V.out (λw0 E=>?hy) ?_
   case hy=>obtain⟨s1,s2⟩:=E;go_simp;with_reducible rfl
   simp only[Act.put];refine zt 2 (v:=?vA2) V.out (λw0 E=>?hy) ?_
   case hy=>obtain⟨s1,s2⟩:=E;go_simp;with_reducible rfl
   simp only[Act.put];refine zt 3 (v:=?vA3) V.out (λw0 E=>?hy) ?_
   case hy=>obtain⟨s1,s2⟩:=E;go_simp;with_reducible rfl
   simp only[Act.put];refine zt 4 (v:=?vA4) V.out (λw0 E=>?hy) ?_
   case hy=>obtain⟨s1,s2⟩:=E;go_simp;with_reducible rfl
   simp only[Act.put];refine zt 5 (v:=?vA5) V.out (λw0 E=>?hy) ?_
   case hy=>obtain⟨s1,s2⟩:=E;go_simp;with_reducible rfl
   simp only[Act.put];refine zt 6 (v:=?vA6) V.out (λw0 E=>?hy) ?_
   case hy=>obtain⟨s1,s2⟩:=E;go_simp;with_reducible rfl
   simp only[Act.put];refine zt 7 (v:=?vA7) V.out (λw0 E=>?hy) ?_
   case hy=>obtain⟨s1,s2⟩:=E;go_simp;with_reducible rfl
   simp only[Act.put];refine bT 8 _ rfl (by kernel_rfl) (λKK J=>?_);go_simp;refine e3.out.mono ?_;rintro r w5 ⟨rfl,d9,b3⟩;clear e3;dsimp only;have a5:=b3.held HM.out.wr_;have b5:lb<wr.drew.heap.size/\TB wr.drew lb 9:=by
    obtain⟨_,_,_,e5,-,hx⟩:=k5.out
    cases e5
    rcases hx with ⟨h0,-⟩|⟨b9,o9,e6,ht,-⟩
    ·cases h0
    ·cases e6
     exact⟨ht.lt,ht⟩
   have a8:w5.cell? ⟨cb,4,none⟩=some cv/\w5.cell? ⟨lb,lo+k,none⟩=some (.string l):=
    ⟨(bN (a5.keep cb 265 ⟨_,_,HM.out.c_⟩ (by simp[cE])) 4).trans V.out.1,(bN (a5.keep lb 9 b5.2 (by simp[cE])) (lo+k)).trans V.out.2⟩
   refine J.out _ _ (λ_=>a8) ?_;clear J;have h5:=aO b3;have i6:=aO d9;clear b3 d9;refine bT 9 _ rfl (by kernel_rfl) (λKK J=>?_);go_simp;refine J.out _ _ (λ_=>⟨bP _ a8.1,bP _ a8.2⟩) ?_;clear J;refine bT 10 _ rfl (by kernel_rfl) (λKK J=>?_);refine xU ei3 w5 _ (by rfl) _ _ (by rfl) w7.heap.size cv ((List.range k).map λt=>N0+t).length (oO ((List.range k).map λt=>N0+t)) (by rfl) ?own #[.int .i64 (N0+k:Nat)] (.inl rfl) (by rfl) (by rfl) (kW [N0+k]) (by rw[i7];omega) (by decide) ?bas ?_
   case own=>exact lR HM.out.new λg hg=>a5.keep g 3 (dI HM.out.new hg) (by simp[cE])
   case bas=>exact aR HM.out.h1.size a5.size
   intro g' d0 w8 b8 g4 j0 g0;obtain⟨i8,f5⟩:=HM.out.come h5.out i6.out g4 b8 d3 k0;have c5:w8.cell? ⟨cb,4,none⟩=some cv/\w8.cell? ⟨lb,lo+k,none⟩=some (.string l):=by
    refine⟨by simp[World.cell?,f5],?_⟩;exact(bN ((iH g4).block lb (bJ b5.1 a5.size) (λe7=>b5.2.ne (dI HM.out.new e7.symm) (by decide) rfl)) (lo+k)).trans a8.2
   refine J.out _ _ (λ_=>c5) ?_;clear J;have m1:w8.frozen? ⟨cb,4,none⟩=false:=by simp[World.frozen?,f5]
   have m0:=c5.1;have k7:=aO c5;have k2:Hid (AdM w w7 (w8.setCell ⟨cb,4,none⟩ (.slice (some ⟨g',0,none⟩) (k+1) d0)) B rb cb ((D'.addFile x p).more (T.take (k+1)) p) x fx nf (.slice (some ⟨g',0,none⟩) (k+1) d0) ((List.range (k+1)).map λt=>N0+t)):=by
    have:=i8;rw[HY.out] at this;simp only[i7] at this;rw[vL,bF,cU,lA];exact this
   clear i8 f5 b8 g4 j0 g0 a8 c5 a5 h5 i6 HM;refine bT 11 _ rfl (by kernel_rfl) (λKK J=>?_);go_simp;refine J.out _ _ (λ_=>k7.out) ?_;clear J;refine bT 12 _ rfl (by kernel_rfl) (λKK J=>?_);go_simp;refine J.out _ _ (λh=>absurd rfl h) ?_;clear J;refine fJ (by kernel_rfl) ?_ _;go_wp2
   go_roundw
   case rel=>exact⟨k+1,_,by omega,by go_num,k2⟩
   case measure=>simp[intOf];omega
  ·obtain rfl:k=T.length:=by omega
   have I:=HA.out.r_;have Y:=HA.out.c_;have k1:=aO HA.out;obtain⟨k8,k9,j3⟩:=bC HA.out.new;have l8:((List.range T.length).map λt=>N0+t).length=T.length:=by simp
   rw[l8] at j3;subst j3;obtain⟨w9,g7⟩:∃w9,w9=((((((wr.setCell ⟨w.heap.size,0,none⟩ (.string x)).setCell ⟨w.heap.size,1,none⟩ (.int .i64 0)).setCell ⟨w.heap.size,2,none⟩ (.int .i64 fx)).setCell ⟨w.heap.size,3,none⟩ (.int .i64 nf)).setCell ⟨w.heap.size,4,none⟩ (.slice k8 T.length k9)).setCell ⟨w.heap.size,5,none⟩ (.slice none 0 0)).setCell ⟨w.heap.size,6,none⟩ (.slice none 0 0):=⟨_,rfl⟩;obtain⟨e1,e2⟩:=zQ wr _ _ _ _ _ _ _ w9 w.heap.size 265 _ _ _ _ _ _ _ _ _ _ _ _ _ _ I rfl rfl rfl rfl rfl rfl rfl g7;have e8:=aO (aAr HA.out.wr_ HA.out.fr ⟨_,_,I⟩ (aA _) e2);obtain⟨y0,y1,y2,y3,y4,y5,y6⟩:=kD Y;obtain⟨r0,r1,r2,r3,r4,r5,r6⟩:=kD I;have z0:=eG I 0;have z1:=eG I 1;have z2:=eG I 2;have z3:=eG I 3;have z4:=eG I 4;have z5:=eG I 5;have z6:=eG I 6;clear e2 Y I HA;go_wp2;rw[<- g7];clear g7;refine bodyPost_ret (results_cell_row (p:=10) (ty:=265) (by kernel_rfl) _ _ w.heap.size 265 _ (0,0) _ rfl e1 Tryz.underlying265 rfl (by kernel_rfl)) rfl ?_;have i9:=e8.out.1;rw[bD] at i9;exact⟨_,rfl,eJ.held (eJ.own k1.out.new) e8.out.2.2 (by decide),i9,e8.out.2.1⟩
end
section
variable {e:iA} {own:List ByteArray} {Pa:List PM} {D:RD} {s:ByteArray->PL}
theorem aLk(r:Nat)(R:iD)(Ps:List PM)(B rb wb wo wn wc:Nat)(w:World)(Y:WO w B rb D)(J:kC w rb D e own Pa D)(z:Rpo Pa D r R Ps s)(hw:w.cell? ⟨wb,wo,none⟩=some (.string ⟨#[108,111,103]⟩))(a6:1<=wn)(a5:wb<w.heap.size):
  Calls Tryz.prog 90 #[.pointer (some ⟨rb,0,none⟩),.int .i64 r,.slice (some ⟨wb,wo,none⟩) wn wc] w λq w'=>q=.returned (.tuple #[.string ⟨(sB (Ps.map (·.id))).toArray⟩,.int .i64 0])/\Below w.heap.size w w':=by
 obtain⟨g,cap,c3,d0,d1,d2,a1,-⟩:=Y.rep z.at_;have a3:=(aB.1 z.at_).1;have a2:=J.rps.1;obtain⟨o1,o2,o3⟩:=Y.okr R (aD z.at_);have E:=aO o3;obtain⟨-,na,nc,e1,-,-⟩:=id o1;obtain⟨-,ta,tc,e2,-,-⟩:=id o2;obtain⟨-,U,V,W,-,-⟩:=id o3;rw[e1] at d0;rw[e2] at d1;rw[W] at d2;rw[W] at E;have a0:=z.hs.len;have HI:Hid (∀u,Below w.heap.size w u->Calls Tryz.prog 155 #[.pointer (some ⟨rb,0,none⟩),.slice U R.L.length V] u λq w'=>q=.returned (.string ⟨(sB (Ps.map (·.id))).toArray⟩)/\Below u.heap.size u w'):=λu hu=>by
  have:=aRa R.L (.slice U R.L.length V) rb D u (J.below hu).wv (eJ.below E.out hu) (λp hp=>⟨aLy J.rel z.pk p hp,aZv J.rel z.pk p hp⟩) (by have:=z.pk.1;omega);rw[aXv J.rel z.pk] at this;exact this
 have I:Below w.heap.size w (w.alloc (.cells #[.slice na R.F.length nc,.slice ta R.F.length tc,.slice U R.L.length V] 205)):=(Below.refl _ _).alloc (aA _) _;have a4:=bP (.cells #[.slice na R.F.length nc,.slice ta R.F.length tc,.slice U R.L.length V] 205) hw;generalize (⟨(sB (Ps.map (·.id))).toArray⟩:ByteArray)=T at *;clear Y J z o1 o2 o3 e1 e2 W E;generalize D.repos.length=nr at *;go_enter Tryz.func90,Tryz.ntmps90
 go_wp2_with (go_at_call 155;refine(HI.out _ I).mono ?_;rintro q w2 ⟨rfl,Z⟩)
 go_ret2;exact⟨rfl,I.trans (Z.mono I.size)⟩
theorem aEg(r:Nat)(R:iD)(Ps:List PM)(B rb wb wo wn wc:Nat)(w:World)(hO:WO w B rb D)(hK:kC w rb D e own Pa D)(V:Rpo Pa D r R Ps s)(hc:D.cells.length<=100000)(a6:D.files.length<=10000)(hF:R.F.length<=1000)(Y:∀K,pG K->(∀x,x∈K↔(aX R.F x).isSome=true\/(s x).alive=true)->K.length<=1000)(hw:w.cell? ⟨wb,wo,none⟩=some (.string ⟨#[114,101,118,101,114,116]⟩))(b6:1<=wn)(b5:wb<w.heap.size):
  Calls Tryz.prog 90 #[.pointer (some ⟨rb,0,none⟩),.int .i64 r,.slice (some ⟨wb,wo,none⟩) wn wc] w λq w'=>q=.returned (.tuple #[.string ⟨#[]⟩,.int .i64 0])/\∃R':iD,R'.L=R.L/\aX R'.F=dR s/\(fO R'.F).Nodup/\WO w' B rb (D.setR r R')/\hJ w w' rb:=by
 obtain⟨g,cap,c3,d0,d1,d2,b1,-⟩:=hO.rep V.at_;have b3:=(aB.1 V.at_).1;have b2:=hK.rps.1;obtain⟨o1,o2,o3⟩:=hO.okr R (aD V.at_);obtain⟨-,na,nc,e1,-,-⟩:=id o1;obtain⟨-,ta,tc,e2,-,-⟩:=id o2;obtain⟨-,la,lc,e3,-,-⟩:=id o3;rw[e1] at d0;rw[e2] at d1;rw[e3] at d2;have a9:=hO.wr.lt;have J:=V.hs.rows;have a3:Hid (∀u,Below w.heap.size w u->Calls Tryz.prog 140 #[.pointer (some ⟨rb,0,none⟩),.int .i64 r] u λq w'=>∃E z,q=.returned (.pointer (some ⟨E,0,none⟩))/\zK w' u.heap.size E z/\iE e own Pa D (λ_ i=>i∈Ps.map (·.id)) s z.abs/\Below u.heap.size u w'):=λu hu=>
  oP r R Ps rb u (hK.below hu) V (by omega)
 have a2:Hid (∀u E z,Below w.heap.size w u->sE u E z->iE e own Pa D (λ_ i=>i∈Ps.map (·.id)) s z.abs->Calls Tryz.prog 144 #[.pointer (some ⟨rb,0,none⟩),.int .i64 r,.pointer (some ⟨E,0,none⟩)] u λq w'=>∃v I,q=.returned v/\w'.ownsRow u.heap.size 9 1 v I.length (bW I)/\pG I/\(∀x,x∈I↔(aX R.F x).isSome=true\/(s x).alive=true)/\Below u.heap.size u w'):=λu E z hu h1 h2=>
  zM r R rb E z u (hK.below hu) V.at_ h1 h2 a6
 have a4:Hid (∀u E z v I,Below w.heap.size w u->sE u E z->iE e own Pa D (λ_ i=>i∈Ps.map (·.id)) s z.abs->u.ownsRow w.heap.size 9 1 v I.length (bW I)->pG I->(∀x,x∈I↔(aX R.F x).isSome=true\/(s x).alive=true)->Calls Tryz.prog 153 #[.pointer (some ⟨rb,0,none⟩),.int .i64 r,.pointer (some ⟨E,0,none⟩),v] u λq w'=>q=.returned (.tuple #[])/\∃R':iD,R'.L=R.L/\aX R'.F=dR s/\(fO R'.F).Nodup/\WO w' B rb (D.setR r R')/\hJ w w' rb):=λu E z v I hu h1 h2 h3 h4 h5=>by
  refine(aMa I v r R _ B rb E z u (hO.below hu) (hK.below hu) V.at_ h1 h2 J (eJ.own h3) (Y I h4 h5) hF).mono ?_;rintro q w' ⟨rfl,R',g1,g2,g3⟩;exact⟨rfl,R',g1.l,by rw[g1.f,aI9 h5],g1.nd,g2,(hJ.ofBelow hu a9).trans g3⟩
 have Z:Below w.heap.size w (w.alloc (.cells #[.slice na R.F.length nc,.slice ta R.F.length tc,.slice la R.L.length lc] 205)):=(Below.refl _ _).alloc (aA _) _;have b4:=bP (.cells #[.slice na R.F.length nc,.slice ta R.F.length tc,.slice la R.L.length lc] 205) hw;clear hO hK V o1 o2 o3 e1 e2 e3 J Y;generalize D.repos.length=nr at *;go_enter Tryz.func90,Tryz.ntmps90
 go_wp2_with (first|(go_at_call 140;refine(a3.out _ Z).mono ?_;rintro q w2 ⟨E,z,rfl,a1,hS,a0⟩;have U:=Z.trans (a0.mono Z.size))|(go_at_call 144;refine(a2.out _ E z U a1.view hS).mono ?_;rintro q w3 ⟨v3,K3,rfl,a8,b0,a7,W⟩;have a5:=U.trans (W.mono U.size))|(go_at_call 153;refine(a4.out _ E z v3 K3 a5 (a1.view.below W) hS (bK a8 U.size) b0 a7).mono ?_;rintro q w4 ⟨rfl,h4⟩;have H4:=aO h4;clear h4))
 go_ret2;exact⟨rfl,H4.out⟩
end
end Go.Proofs.YtgdfipmdmgkidaaGreatDoor
