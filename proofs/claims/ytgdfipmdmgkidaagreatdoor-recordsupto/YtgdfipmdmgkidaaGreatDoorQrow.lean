import Derived.Test.YtgdfipmdmgkidaaGreatDoorPgapw
import Derived.Test.YtgdfipmdmgkidaaGreatDoorQcell
import Derived.Test.YtgdfipmdmgkidaaGreatDoorAl
set_option linter.all false
namespace Go.Proofs.YtgdfipmdmgkidaaGreatDoor
open Go.RowKit
def fR:List aU->List Hk->List aU->Prop
 | F,[],F'=>F'=F
 | F,h::Hs,F'=>∃F1,gS F h.N h.Br F1/\fR F1 Hs F'
theorem aDd:∀{J:List Hk} {F I N B z:List aU},fR F J I->gS I N B z->(∀h∈J,∀t∈N,t∉h.Br/\t∉aRf h.N)->∃E,gS F N B E/\fR E J z
 | [],F,I,N,B,z,h,hk,_=>by
  cases h
  exact⟨z,hk,rfl⟩
 | h::J,F,I,N,B,z,⟨Fa,h1,h2⟩,hk,hb=>by
  obtain⟨U,W,Y⟩:=aDd h2 hk (λx V=>hb x (dP _ V));obtain⟨E,j1,j2⟩:=aQ9 h1 W (λt K=>(hb h eT t K).1) (λt K=>(hb h eT t K).2);exact⟨E,j1,U,j2,Y⟩
section
variable {F N B F':List aU}
theorem gS.len(h:gS F N B F'):F'.length=F.length+B.length:=by
 obtain⟨A,a,M,b,C,rfl,rfl,rfl,_⟩:=h;simp[cD];omega
theorem gS.sub(h:gS F N B F'):∀t∈N,t∈F:=by
 obtain⟨A,a,M,b,C,rfl,rfl,rfl,_⟩:=h;intro t z;simp only[aG];exact .inr (.inl z)
theorem gS.cids(h:gS F N B F'):(F'.map jO).Perm (F.map jO++B.map jO):=by
 obtain⟨A,a,M,b,C,rfl,rfl,rfl,_⟩:=h;simp only[bF,cU,xF,bG,cI,cY];refine gJ _ (List.Perm.cons _ (gJ _ ?_));rw[<- cI];exact aHu
theorem gS.mem(h:gS F N B F'){t:aU}(z:t∈F'):t∈F\/t∈B\/∃u∈cV N,u∈F/\t=lY u:=by
 obtain⟨A,a,M,b,C,rfl,rfl,rfl,_⟩:=h;have e:cV (a::(M++[b]))=M:=aCc a b M;rw[e];simp only[aG,cC] at z;rcases z with z|rfl|z|z|rfl|z
 ·exact .inl (by simp[z])
 ·exact .inl (by simp)
 ·obtain⟨u,E,rfl⟩:=aI.1 z;exact .inr (.inr ⟨u,E,by simp[E],rfl⟩)
 ·exact .inr (.inl z)
 ·exact .inl (by simp)
 ·exact .inl (by simp[z])
theorem gS.head(h:gS F N B F'){x:aU}(E:∃Z,F=x::Z):∃Z,F'=x::Z:=by
 obtain⟨A,a,M,b,C,rfl,rfl,rfl,_⟩:=h;obtain⟨Z,z⟩:=E
 cases A with
 | nil=>
  have:a=x:=by simpa using congrArg List.head? z
  subst this;exact⟨_,rfl⟩
 | cons y A=>
  have:y=x:=by simpa using congrArg List.head? z
  subst this;exact⟨_,rfl⟩
theorem gS.last(h:gS F N B F'){x:aU}(J:∃Y,F=Y++[x]):∃Y,F'=Y++[x]:=by
 obtain⟨A,a,M,b,C,rfl,rfl,rfl,_⟩:=h;obtain⟨Y,I⟩:=J;by_cases E:C=[]
 ·subst E;have:b=x:=by
   have:=congrArg List.getLast? I;rw[cR,show A++(a::(M++[b]))=(A++(a::M))++[b] by simp,fX,fX] at this;simpa using this
  subst this;exact⟨A++(a::(cD M++B)),by simp⟩
 ·obtain⟨z,c,rfl⟩:∃z c,C=z++[c]:=⟨_,_,(jF E).symm⟩;have:c=x:=by
   have:=congrArg List.getLast? I;rw[show A++((a::(M++[b]))++(z++[c]))=(A++((a::(M++[b]))++z))++[c] by simp,fX,fX] at this;simpa using this
  subst this;exact⟨A++(a::(cD M++(B++(b::z)))),by simp⟩
theorem gS.apply(h:gS F N B F')(E:F.Nodup):∃t p,N[0]?=some t/\rY F t=some p/\p+N.length<=F.length/\2<=N.length/\F'=mV F N B p:=by
 obtain⟨A,a,M,b,C,rfl,rfl,rfl,_⟩:=h;refine⟨a,A.length,rfl,?_,by simp,by simp,?_⟩
 ·have I:∀x∈A,¬ a=x:=λx z e=>by
   subst e;rw[cP] at E;exact E.2.2 a z a (by simp) rfl
  unfold rY;rw[List.findIdx?_append];have:List.findIdx? (λs=>decide (a=s)) A=none:=by
   rw[fE];intro x z;simp[I x z]
  rw[this];simp[zB]
 ·unfold mV;have e:cV (a::(M++[b]))=M:=aCc a b M;rw[e];have t1:(A++((a::(M++[b]))++C)).take (A.length+1)=A++[a]:=by
   rw[show A++((a::(M++[b]))++C)=(A++[a])++(M++([b]++C)) by simp];exact vM (by simp)
  have t2:(A++((a::(M++[b]))++C)).drop (A.length+(a::(M++[b])).length - 1)=b::C:=by
   rw[show A++((a::(M++[b]))++C)=(A++(a::M))++(b::C) by simp];exact aHr (by simp)
  rw[t1,t2];simp
end
section
variable {i:cL}
theorem fR.seq:∀{E:List Hk} {F F':List aU},fR F E F'->∃g:Nat->List aU,g 0=F/\g E.length=F'/\∀(k:Nat) (h:Hk),E[k]?=some h->gS (g k) h.N h.Br (g (k+1))
 | [],F,F',h=>⟨λ_=>F,rfl,by cases h;rfl,λk x z=>by simp at z⟩
 | h::E,F,F',⟨F1,h1,h2⟩=>by
  obtain⟨g,I,g1,g2⟩:=h2.seq;refine⟨λk=>match k with|0=>F|k+1=>g k,rfl,g1,λk x z=>?_⟩
  cases k with
  | zero=>
   simp at z;subst z;show gS F h.N h.Br (g 0);rw[I];exact h1
  | succ k=>exact g2 k x (by simpa using z)
theorem fR.of_seq:∀{z:List Hk} (g:Nat->List aU),(∀(k:Nat) (h:Hk),z[k]?=some h->gS (g k) h.N h.Br (g (k+1)))->fR (g 0) z (g z.length)
 | [],_,_=>rfl
 | h::z,g,hg=>⟨g 1,hg 0 h rfl,fR.of_seq (λk=>g (k+1)) (λk x E=>hg (k+1) x (by simpa using E))⟩
theorem fR.len:∀{z:List Hk} {F F':List aU},fR F z F'->F'.length=F.length+(z.flatMap (·.Br)).length
 | [],F,F',h=>by cases h;simp
 | h::z,F,F',⟨F1,h1,h2⟩=>by
  have:=h1.len;have:=h2.len;simp only[bL,aJ];omega
theorem fR.cids:∀{z:List Hk} {F F':List aU},fR F z F'->(F'.map jO).Perm (F.map jO++(z.flatMap (·.Br)).map jO)
 | [],F,F',h=>by cases h;simp
 | h::z,F,F',⟨F1,h1,h2⟩=>by
  refine h2.cids.trans ?_;simp only[bL,bF];rw[<- bG];exact rT _ h1.cids
theorem fR.mem:∀{E:List Hk} {F F':List aU},fR F E F'->∀{t:aU},t∈F'->∃u,(u∈F\/u∈E.flatMap (·.Br))/\(t=u\/t=lY u)
 | [],F,F',h,t,ht=>by cases h;exact⟨t,.inl ht,.inl rfl⟩
 | h::E,F,F',⟨F1,h1,h2⟩,t,ht=>by
  obtain⟨u,z,e⟩:=h2.mem ht;have J:∀v,v∈F1->∃x,(x∈F\/x∈(h::E).flatMap (·.Br))/\(v=x\/v=lY x):=λv hv=>by
   rcases h1.mem hv with hv|hv|⟨x,_,I,rfl⟩
   ·exact⟨v,.inl hv,.inl rfl⟩
   ·exact⟨v,.inr (by simp[hv]),.inl rfl⟩
   ·exact⟨x,.inl I,.inr rfl⟩
  rcases z with z|z
  ·obtain⟨x,I,K⟩:=J u z;refine⟨x,I,?_⟩;rcases e with rfl|rfl<;>rcases K with rfl|rfl
   ·exact .inl rfl
   ·exact .inr rfl
   ·exact .inr rfl
   ·exact .inr rfl
  ·exact⟨u,.inr (by rw[bL];exact aG.2 (.inr z)),e⟩
theorem fR.ends:∀{z:List Hk} {F F':List aU},fR F z F'->(∃Z,F=jR::Z)->(∃Y,F=Y++[lD])->(∃Z,F'=jR::Z)/\∃Y,F'=Y++[lD]
 | [],F,F',h,a,b=>by cases h;exact⟨a,b⟩
 | h::z,F,F',⟨F1,h1,h2⟩,a,b=>h2.ends (h1.head a) (h1.last b)
theorem fR.framed{z:List Hk}{S F':List aU}(h:fR (aM S) z F'):F'=Go.Proofs.YtgdfipmdmgkidaaGreatDoor.aM (cV F'):=by
 obtain⟨a,b⟩:=h.ends ⟨_,rfl⟩ ⟨jR::S,rfl⟩;exact aF0 a b
end
def aE3(i:cL):fM->PL->PL->Prop
 | .add i' l _ S,p,p'=>p.alive=false/\i'=i/\l=p.by_/\p'=⟨i,true,S⟩
 | .remove i' _ S,p,p'=>p.alive=true/\i'=p.by_/\S=p.S/\p'=⟨i',false,cD S⟩
 | .alter i' _ Hs,p,p'=>p.alive=true/\i'=p.by_/\Hs≠[]/\p'.by_=i'/\p'.alive=true/\fR (aM p.S) Hs (aM p'.S)
def jS:fM->List aU
 | .add _ _ _ S=>S
 | .remove ..=>[]
 | .alter _ _ Hs=>Hs.flatMap (·.Br)
structure aD1 (i:cL) (c:fM):Prop where
 own:∀t∈jS c,mM t=i/\0<=t.num
 nd:((jS c).map jO).Nodup
structure aBp (P:PM) (s s':ByteArray->PL):Prop where
 app:∀c∈P.Cs,aE3 P.id c.2 (s c.1) (s' c.1)
 other:∀x,(∀c∈P.Cs,c.1≠x)->s' x=s x
structure PWF (P:PM):Prop where
 nd:(P.Cs.map (·.1)).Nodup
 wf:∀c∈P.Cs,aD1 P.id c.2
 self:∀c∈P.Cs,¬ xK (pR c.2) P.id (rH c.2)
theorem aXt{Cs:List (ByteArray×fM)}(z:(Cs.map (·.1)).Nodup){c d:ByteArray×fM}(E:c∈Cs)(I:d∈Cs)(e:c.1=d.1):c=d:=by
 induction Cs with
 | nil=>simp at E
 | cons x L ih=>
  rw[cU,iC] at z;rcases cC.1 E with rfl|hc'<;>rcases cC.1 I with rfl|hd'
  ·rfl
  ·exact absurd (aI.2 ⟨d,hd',e.symm⟩) z.1
  ·exact absurd (aI.2 ⟨c,hc',e⟩) z.1
  ·exact ih z.2 hc' hd'
def mD:List PM->(ByteArray->PL)->(ByteArray->PL)->Prop
 | [],s,s'=>s'=s
 | P::Ps,s,s'=>∃s1,aBp P s s1/\mD Ps s1 s'
theorem mD.app:∀{A B:List PM} {s s':ByteArray->PL},mD (A++B) s s'↔∃t,mD A s t/\mD B t s'
 | [],B,s,s'=>⟨λh=>⟨s,rfl,h⟩,λ⟨t,h1,h2⟩=>by cases h1;exact h2⟩
 | P::A,B,s,s'=>by
  constructor
  ·rintro⟨s1,h1,h2⟩;obtain⟨t,z,E⟩:=mD.app.1 h2;exact⟨t,⟨s1,h1,z⟩,E⟩
  ·rintro⟨t,⟨s1,h1,z⟩,E⟩;exact⟨s1,h1,mD.app.2 ⟨t,z,E⟩⟩
theorem fR.alive_from:∀{z:List Hk} {F F':List aU},fR F z F'->∀{v:aU},v∈F'->v.alive=true->v∈F\/v∈z.flatMap (·.Br):=by
 intro z F F' h v hv E;obtain⟨u,I,e⟩:=h.mem hv;rcases e with rfl|rfl
 ·exact I
 ·cases E
theorem bAy{F:List aU}(h:(F.map jO).Nodup){s t:aU}(hs:s∈F)(z:t∈F)(e:jO s=jO t):s=t:=aO6 h hs z e
theorem aAw:∀{E:List Hk} {F F':List aU},fR F E F'->((F.map jO)++(E.flatMap (·.Br)).map jO).Nodup->∀h∈E,∀t∈h.N,(∃u,(u∈F\/u∈E.flatMap (·.Br))/\(t=u\/t=lY u))/\(t.alive=false->∀v∈F',v.alive=true->jO v≠jO t)
 | [],_,_,_,_,h,J=>by simp at J
 | x::E,F,F',⟨F1,h1,h2⟩,hn,h,J=>by
  have I:=hn;simp only[bL,bF] at I;rw[<- bG] at I;have V:=(rT ((E.flatMap (·.Br)).map jO) h1.cids).nodup_iff.2 I;intro t K;rcases cC.1 J with rfl|J
  ·refine⟨⟨t,.inl (h1.sub t K),.inl rfl⟩,λW v hv U e=>?_⟩;have Y:fR F (h::E) F':=⟨F1,h1,h2⟩;rcases Y.alive_from hv U with hv|hv
   ·have:=bAy (cP.1 hn).1 hv (h1.sub t K) e;subst this;rw[W] at U
    cases U
   ·exact(cP.1 hn).2.2 (jO t) (aI.2 ⟨t,h1.sub t K,rfl⟩) (jO v) (aI.2 ⟨v,hv,rfl⟩) e.symm
  ·obtain⟨⟨u,z,e⟩,k2⟩:=aAw h2 V h J t K;refine⟨?_,k2⟩;rcases z with z|z
   ·rcases h1.mem z with z|z|⟨y,_,Z,rfl⟩
    ·exact⟨u,.inl z,e⟩
    ·exact⟨u,.inr (by simp[z]),e⟩
    ·refine⟨y,.inl Z,.inr ?_⟩;rcases e with rfl|rfl<;>rfl
   ·exact⟨u,.inr (by rw[bL];exact aG.2 (.inr z)),e⟩
section
variable {ids:List cL} {p p':PL} {i:cL} {c:fM}
theorem aFg(h:fV ids p)(V:lF∉ids)(hi:i∉ids)(E:i≠lF){I:List Hk}{j:cL}{hv:Value}(w:aD1 i (.alter j hv I)):(((aM p.S).map jO)++(I.flatMap (·.Br)).map jO).Nodup:=by
 rw[cP];refine⟨mZ h V,w.nd,λa J b K e=>?_⟩;obtain⟨s,hs,rfl⟩:=aI.1 J;obtain⟨t,U,rfl⟩:=aI.1 K;have z:mM s=mM t:=congrArg Prod.fst e;rw[(w.own t U).1] at z;exact pN h hi E s hs ⟨congrArg cL.a z,congrArg cL.b z,congrArg cL.c z,congrArg cL.d z⟩
theorem aXd{S:List aU}(z:((aM S).map jO).Nodup){t:aU}(E:t∈S):jO t≠jO jR/\jO t≠jO lD:=by
 unfold aM at z;rw[cU,bF,iC,cP] at z;exact⟨λe=>z.1 (aG.2 (.inl (aI.2 ⟨t,E,e⟩))),λe=>z.2.2.2 _ (aI.2 ⟨t,E,rfl⟩) _ (by simp) e⟩
theorem aBq(h:fV ids p)(hz:lF∉ids)(hi:i∉ids)(V:i≠lF)(w:aD1 i c)(U:aE3 i c p p'):fV (ids++[i]) p':=by
 cases c with
 | add i' l rv S=>
  obtain⟨_,rfl,_,rfl⟩:=U;exact⟨w.nd,λs hs=>⟨by simp[(w.own s hs).1],(w.own s hs).2⟩,(λ_=>by simp),.inl (by simp),(λI=>by cases I)⟩
 | remove i' rv S=>
  obtain⟨J,rfl,rfl,rfl⟩:=U;refine⟨by show ((cD p.S).map jO).Nodup;rw[xF];exact h.nd,λs hs=>?_,(λI=>by cases I),.inl ?_,λ_ s hs=>?_⟩
  ·obtain⟨u,z,rfl⟩:=aI.1 hs;exact⟨aG.2 (.inl (h.own u z).1),(h.own u z).2⟩
  ·exact aG.2 (.inl (h.byA J))
  ·obtain⟨u,z,rfl⟩:=aI.1 hs;rfl
 | alter i' hv Hs=>
  obtain⟨J,rfl,_,Y,a5,Z⟩:=U;have hn:=aFg h hz hi V w;have E:((aM p'.S).map jO).Nodup:=Z.cids.nodup_iff.2 hn;refine⟨?_,λs hs=>?_,λ_=>?_,.inl ?_,λI=>by rw[a5] at I;cases I⟩
  ·unfold aM at E;rw[cU,bF,iC,cP] at E;exact E.2.1
  ·obtain⟨n1,n2⟩:=aXd E hs;have W:s∈aM p'.S:=by unfold aM;simp[hs]
   obtain⟨u,z,e⟩:=Z.mem W;have K:jO s=jO u:=by rcases e with rfl|rfl<;>rfl
   have e1:mM s=mM u:=congrArg Prod.fst K;have e2:s.num=u.num:=congrArg Prod.snd K;rw[e1,e2];rcases z with z|z
   ·rcases kE z with rfl|z|rfl
    ·exact absurd K n1
    ·exact⟨aG.2 (.inl (h.own u z).1),(h.own u z).2⟩
    ·exact absurd K n2
   ·obtain⟨o1,o2⟩:=w.own u z;exact⟨by simp[o1],o2⟩
  ·rw[Y];exact aG.2 (.inl (h.byA J))
  ·rw[Y];exact aG.2 (.inl (h.byA J))
theorem aWf(h:fV ids p)(hz:lF∉ids)(hi:i∉ids)(K:i≠lF)(w:aD1 i c)(I:aE3 i c p p'):∀x∈pH p',x∈pH p\/x.1=i:=by
 intro x hx;obtain⟨l1,l2⟩:=nJ hx;have J:=aBq h hz hi K w I
 cases c with
 | add i' l rv S=>
  obtain⟨_,rfl,_,rfl⟩:=I;rcases l2 with rfl|⟨s,hs,_,rfl⟩
  ·exact .inr rfl
  ·exact .inr (w.own s hs).1
 | remove i' rv S=>
  obtain⟨_,_,_,rfl⟩:=I
  cases l1
 | alter i' hv Hs=>
  obtain⟨V,rfl,_,Y,a5,Z⟩:=I;rcases l2 with rfl|⟨s,hs,z,rfl⟩
  ·rw[Y];left;unfold pH;rw[if_pos V];exact eT
  ·have U:s∈aM p'.S:=by unfold aM;simp[hs]
   have W:=(J.own s hs).2;rcases Z.alive_from U z with E|E
   ·rcases kE E with rfl|E|rfl
    ·simp[jR,gE] at W
    ·exact .inl (aA0 V E z)
    ·simp[lD,gE] at W
   ·exact .inr (w.own s E).1
theorem aTo(h:fV ids p)(hz:lF∉ids)(hi:i∉ids)(I:i≠lF)(w:aD1 i c)(W:aE3 i c p p'):aKd (ids++[i]) c p':=by
 have a0:=aBq h hz hi I w W
 cases c with
 | add i' l rv S=>
  obtain⟨U,rfl,rfl,rfl⟩:=W;intro t z;have z:=bE.1 z;subst z;refine⟨?_,λ_ J=>?_⟩
  ·rcases h.byZ with e|e
   ·exact .inl (aG.2 (.inl e))
   ·exact .inr e
  ·obtain⟨_,l2⟩:=nJ J;rcases l2 with e|⟨s,hs,_,e⟩
   ·have V:p.by_=i':=congrArg Prod.fst e;rcases h.byZ with k|k
    ·exact hi (V▸k)
    ·exact I (V▸k)
   ·have e2:(-3:Int)=s.num:=congrArg Prod.snd e;have:=(w.own s hs).2;omega
 | remove i' rv S=>
  obtain⟨U,rfl,rfl,rfl⟩:=W;intro t z;refine⟨.inl ?_,λ_ J=>?_⟩
  ·rcases cC.1 z with rfl|z
   ·exact aG.2 (.inl (h.byA U))
   ·exact aG.2 (.inl (h.own t z).1)
  ·have:=(nJ J).1
   cases this
 | alter i' hv Hs=>
  obtain⟨U,rfl,_,a4,a5,a6⟩:=W;intro t z;rcases cC.1 z with rfl|z
  ·exact⟨.inl (aG.2 (.inl (h.byA U))),λY=>by cases Y⟩
  ·obtain⟨x,hx,z⟩:=dD.1 z;obtain⟨⟨u,E,e⟩,k2⟩:=aAw a6 (aFg h hz hi I w) x hx t z;have ec:jO t=jO u:=by rcases e with rfl|rfl<;>rfl
   have V:mM t=mM u:=congrArg Prod.fst ec;have e2:t.num=u.num:=congrArg Prod.snd ec;have K:(mM u∈ids++[i]\/mM u=lF)/\u.num≠-3:=by
    rcases E with E|E
    ·rcases kE E with rfl|E|rfl
     ·exact⟨.inr rfl,by simp[jR,gE]⟩
     ·have:=(h.own u E).2;exact⟨.inl (aG.2 (.inl (h.own u E).1)),by omega⟩
     ·exact⟨.inr rfl,by simp[lD,gE]⟩
    ·obtain⟨o1,o2⟩:=w.own u E;exact⟨.inl (by simp[o1]),by omega⟩
   refine⟨by rw[V];exact K.1,λY J=>?_⟩;obtain⟨_,l2⟩:=nJ J;rcases l2 with l2|⟨s,hs,Z,l2⟩
   ·exact K.2 (by rw[<- e2];exact congrArg Prod.snd l2)
   ·exact k2 Y s (by unfold aM;simp[hs]) Z l2.symm
end
theorem fV.mono{ids z:List cL}{p:PL}(h:fV ids p)(hs:∀i∈ids,i∈z):fV z p:=
 ⟨h.nd,λs k=>⟨hs _ (h.own s k).1,(h.own s k).2⟩,λa=>hs _ (h.byA a),h.byZ.imp (hs _) id,h.dead⟩
structure qE (Ps:List PM) (s:ByteArray->PL):Prop where
 chain:mD Ps (λ_=>pl0) s
 nd:(Ps.map (·.id)).Nodup
 noz:lF∉Ps.map (·.id)
 wf:∀P∈Ps,PWF P
theorem qE.nil:qE [] (λ_=>pl0):=⟨rfl,by simp,by simp,by simp⟩
theorem qE.pre{A B:List PM}{s:ByteArray->PL}(h:qE (A++B) s):∃t,qE A t/\mD B t s:=by
 obtain⟨t,h1,h2⟩:=mD.app.1 h.chain;have z:=h.nd;have E:=h.noz;rw[bF] at z E;exact⟨t,⟨h1,(cP.1 z).1,λk=>E (aG.2 (.inl k)),λP I=>h.wf P (aG.2 (.inl I))⟩,h2⟩
theorem qE.snoc{A:List PM}{P:PM}{t s:ByteArray->PL}(h:qE A t)(I:aBp P t s)(w:PWF P)(hi:P.id∉A.map (·.id))(K:P.id≠lF):qE (A++[P]) s:=by
 refine⟨mD.app.2 ⟨t,h.chain,s,I,rfl⟩,?_,?_,λQ z=>?_⟩
 ·rw[bF,cP];exact⟨h.nd,by simp,λa J b E e=>hi (by simp at E;rw[<- E,<- e];exact J)⟩
 ·rw[bF];intro k;rcases aG.1 k with k|k
  ·exact h.noz k
  ·simp at k;exact K k.symm
 ·rcases aG.1 z with z|z
  ·exact h.wf Q z
  ·rw[bE.1 z];exact w
theorem qE.last{A:List PM}{P:PM}{s:ByteArray->PL}(h:qE (A++[P]) s):∃t,qE A t/\aBp P t s/\PWF P/\P.id∉A.map (·.id)/\P.id≠lF:=by
 obtain⟨t,h1,s1,h2,I⟩:=h.pre
 cases I
 have z:=h.nd;have E:=h.noz;rw[bF] at z E;refine⟨t,h1,h2,h.wf P (by simp),λk=>?_,λk=>E (aG.2 (.inr (by simp[k])))⟩;exact(cP.1 z).2.2 _ k _ (by simp) rfl
theorem qE.good_:∀(n:Nat) {Ps:List PM} {s:ByteArray->PL},Ps.length=n->qE Ps s->(∀x,fV (Ps.map (·.id)) (s x))/\∀P∈Ps,∀c∈P.Cs,aKd (Ps.map (·.id)) c.2 (s c.1):=by
 intro n
 induction n with
 | zero=>
  intro Ps s I h;have:Ps=[]:=aS I;subst this;have e:=h.chain
  cases e
  exact⟨λx=>⟨by simp[pl0],by simp[pl0],(λh=>by cases h),.inr rfl,by simp[pl0]⟩,by simp⟩
 | succ n ih=>
  intro Ps s I h;obtain⟨A,P,rfl⟩:∃A P,Ps=A++[P]:=by
   have a0:Ps≠[]:=by rintro rfl;simp at I
   exact⟨_,_,(jF a0).symm⟩
  obtain⟨t,hA,U,w,hi,z⟩:=h.last;obtain⟨Z,c2⟩:=ih (by simpa using I) hA;have hz:=hA.noz;have em:(A++[P]).map (·.id)=A.map (·.id)++[P.id]:=by simp
  rw[em];refine⟨λx=>?_,λQ J c E=>?_⟩
  ·by_cases Y:∃c∈P.Cs,c.1=x
   ·obtain⟨c,E,rfl⟩:=Y;exact aBq (Z c.1) hz hi z (w.wf c E) (U.app c E)
   ·rw[U.other x (λc E e=>Y ⟨c,E,e⟩)];exact(Z x).mono (λi hi=>aG.2 (.inl hi))
  ·rcases aG.1 J with J|J
   ·intro u hu;obtain⟨K,k2⟩:=c2 Q J c E u hu;refine⟨K.imp (λk=>aG.2 (.inl k)) id,λhd I=>?_⟩;by_cases Y:∃d∈P.Cs,d.1=c.1
    ·obtain⟨d,W,e⟩:=Y;have V:=U.app d W;rw[e] at V;rcases aWf (Z c.1) hz hi z (w.wf d W) V _ I with k|k
     ·exact k2 hd k
     ·have k':mM u=P.id:=k;rcases K with K|K
      ·exact hi (k'▸K)
      ·exact z (k'▸K)
    ·rw[U.other c.1 (λd hd e=>Y ⟨d,hd,e⟩)] at I;exact k2 hd I
   ·have J:=bE.1 J;subst J;exact aTo (Z c.1) hz hi z (w.wf c E) (U.app c E)
theorem qE.good{Ps:List PM}{s:ByteArray->PL}(h:qE Ps s):(∀x,fV (Ps.map (·.id)) (s x))/\∀P∈Ps,∀c∈P.Cs,aKd (Ps.map (·.id)) c.2 (s c.1):=qE.good_ _ rfl h
end Go.Proofs.YtgdfipmdmgkidaaGreatDoor
