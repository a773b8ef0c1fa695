import Derived.Test.YtgdfipmdmgkidaaGreatDoorHsto
import Derived.Test.YtgdfipmdmgkidaaGreatDoorXcar
import Derived.Test.YtgdfipmdmgkidaaGreatDoorPgiven
import Derived.Deep.AppendLies
import Derived.Test.YtgdfipmdmgkidaaGreatDoorPwrite
import Derived.Test.YtgdfipmdmgkidaaGreatDoorAl
set_option linter.all false
set_option maxHeartbeats 6400000
set_option maxRecDepth 100000
namespace Go.Proofs.YtgdfipmdmgkidaaGreatDoor
open Go.RowKit
def lG(e:iA)(own:List ByteArray)(Pa:List PM)(D:RD)(x:ByteArray)(t:aU):Prop:=0<=t.num/\own[fI e t]?=some x/\∃k P,D.cells[fI e t]?=some (t.line,k)/\Pa[k]?=some P/\P.id=mM t
section
variable {e:iA} {own:List ByteArray} {Pa:List PM} {D:RD} {x y:ByteArray} {t u:aU} {L:ByteArray->cL->Prop} {s s':ByteArray->PL} {a:AS}
theorem lG.inj(h:lG e own Pa D x t)(k:lG e own Pa D y u)(z:fI e t=fI e u):jO t=jO u/\x=y:=by
 obtain⟨h1,h2,k1,Y,K,U,V⟩:=h;obtain⟨j1,j2,k2,Z,E,J,W⟩:=k;rw[<- z] at j2 E;rw[K] at E;obtain⟨-,rfl⟩:=Prod.mk.inj (fZ E);rw[U] at J
 cases J
 have I:mM t=mM u:=V.symm.trans W;refine⟨Prod.ext I ?_,fZ (h2.symm.trans j2)⟩;unfold fI at z;rw[I] at z;show t.num=u.num;omega
theorem lG.dead(h:lG e own Pa D x t):lG e own Pa D x (lY t):=h
structure qS (e:iA) (own:List ByteArray) (Pa:List PM) (D:RD):Prop where
 len:D.pts.length=Pa.length
 pt:∀(k:Nat) (P:PM) (q:RPt),Pa[k]?=some P->D.pts[k]?=some q->q.id=dT P.id/\q.chs.length=P.Cs.length/\∀(j:Nat) (c:ByteArray×fM) (r:vH),P.Cs[j]?=some c->q.chs[j]?=some r->tN e c r
 cell:∀(k:Nat) (P:PM),Pa[k]?=some P->∀c∈P.Cs,∀t∈jS c.2,t.alive=true/\lG e own Pa D c.1 t
 file:∀(k:Nat) (P:PM),Pa[k]?=some P->∀c∈P.Cs,∀i l rv S,c.2=.add i l rv S->D.files[e.fi c.1 P.id]?=some (c.1,k)/\D.aft (e.fi c.1 P.id)=fil e c.1 l/\fil e c.1 l<e.fi c.1 P.id
 back:∀(j k:Nat) (x:ByteArray),D.files[j]?=some (x,k)->∃P,Pa[k]?=some P/\j=e.fi x P.id
 afn:∀(j i:Nat),D.aft j=i->i<j/\(D.files[i]?.map (·.1))=(D.files[j]?.map (·.1))
structure iE (e:iA) (own:List ByteArray) (Pa:List PM) (D:RD) (L:ByteArray->cL->Prop) (s:ByteArray->PL) (a:AS):Prop where
 l1:a.came.length=D.files.length
 l2:a.gone.length=D.files.length
 l3:a.rows.length=D.files.length
 l4:a.dead.length=D.cells.length
 cell:∀x,∀t∈(s x).S,lG e own Pa D x t/\L x (mM t)/\a.dead[fI e t]?=some (!t.alive)
 zr:∀x,(s x).by_=lF->(s x).alive=false
 no:∀x,(s x).by_=lF->∀(j k:Nat),D.files[j]?=some (x,k)->a.came[j]?≠some true
 yes:∀x,(s x).by_≠lF->(∃k,D.files[e.fi x (s x).by_]?=some (x,k))/\a.came[e.fi x (s x).by_]?=some true/\a.gone[e.fi x (s x).by_]?=some (!(s x).alive)/\a.rows[e.fi x (s x).by_]?=some ((s x).S.map (fI e))
 oth:∀(x:ByteArray) (j k:Nat),D.files[j]?=some (x,k)->a.came[j]?=some true->j≠e.fi x (s x).by_->a.gone[j]?=some true/\j<e.fi x (s x).by_/\∃i:Nat,a.came[i]?=some true/\D.aft i=j
 fresh:∀(c k:Nat) (y l:ByteArray) (P:PM),own[c]?=some y->D.cells[c]?=some (l,k)->Pa[k]?=some P->a.dead[c]?=some true->L y P.id
 freshF:∀(j k:Nat) (y:ByteArray) (P:PM),D.files[j]?=some (y,k)->Pa[k]?=some P->a.came[j]?=some true->L y P.id
 gt:∀j:Nat,a.gone[j]?=some true->a.came[j]?=some true
def upd(s:ByteArray->PL)(x:ByteArray)(p:PL):ByteArray->PL:=λy=>if y=x then p else s y
theorem iB(s:ByteArray->PL)(x:ByteArray)(p:PL):upd s x p x=p:=if_pos rfl
theorem mG(s:ByteArray->PL){x y:ByteArray}(h:y≠x)(p:PL):upd s x p y=s y:=if_neg h
theorem aBc{l:List Bool}{i j:Nat}(h:l[j]?=some true):(l.set i true)[j]?=some true:=by
 by_cases e:i=j
 ·subst e;rw[mT (aB.1 h).1]
 ·rw[dE e];exact h
theorem sV{X:List aU}(E:∀t∈X,lG e own Pa D x t)(I:(X.map jO).Nodup):(X.map (fI e)).Nodup:=by
 induction X with
 | nil=>simp
 | cons t X ih=>
  simp only[cU,iC] at I ⊢;refine⟨λK=>I.1 ?_,ih (λu z=>E u (dP _ z)) I.2⟩;obtain⟨u,z,J⟩:=aI.1 K;exact aI.2 ⟨u,z,((E u (dP _ z)).inj (E t (eT ..)) J).1⟩
def aVv(c:fM)(p:PL):Prop:=p.S.length+(jS c).length<=1000000/\∀i v Hs,c=.alter i v Hs->Hs.length<=1000000/\∀h∈Hs,h.N.length<=1000000
theorem bCg(hW:qS e own Pa D)(z:iE e own Pa D L s a){k:Nat}{P:PM}(hk:Pa[k]?=some P)(hz:P.id≠lF){c:ByteArray×fM}(hc:c∈P.Cs){r:vH}(hr:tN e c r){p':PL}(hA:aE3 P.id c.2 (s c.1) p')(wf:aD1 P.id c.2)(hL:¬ L c.1 P.id)(hf:aVv c.2 (s c.1))
  (b1:((s c.1).S.map jO).Nodup) (b0:∀t∈(s c.1).S,mM t≠P.id):∃a',bAu r a a'/\iE e own Pa D (λy i=>L y i\/(y=c.1/\i=P.id)) (upd s c.1 p') a':=by
 obtain⟨x,c⟩:=c;obtain⟨hn,hr⟩:=hr;dsimp only at hr hA wf hL hf b1 b0 hn ⊢;have a7:∀{j Z:Nat} {y:ByteArray} {i:cL},D.files[j]?=some (y,Z)->y≠x->(∃k,D.files[e.fi x i]?=some (x,k))->e.fi x i≠j:=λh1 h2 ⟨_,h3⟩ h4=>by
  rw[h4,h1] at h3
  cases h3
  exact h2 rfl
 cases c with
 | add i l rv S=>
  obtain⟨r1,r2,r3,r4,-,-⟩:=hr;obtain⟨a1,rfl,rfl,rfl⟩:=hA;obtain⟨f1,f2,f3⟩:=hW.file k P hk _ hc _ _ _ _ rfl;have Y:=(aB.1 f1).1;have b8:a.came[e.fi x P.id]?≠some true:=λh=>hL (z.freshF _ _ _ _ f1 hk h);have b9:a.gone[e.fi x P.id]?=some false:=by
   obtain⟨b,hb⟩:∃b,a.gone[e.fi x P.id]?=some b:=⟨_,aC (by rw[z.l2];exact Y)⟩
   cases b
   ·exact hb
   ·exact absurd (z.gt _ hb) b8
  refine⟨_,.inl ⟨r1,by rw[r3,z.l1];exact Y,by rw[r3,z.l3];exact Y,rfl⟩,?_⟩;rw[r3,r4];refine⟨by simp[z.l1],z.l2,by simp[z.l3],z.l4,λy t J=>?_,λy I=>?_,λy I j Z hj=>?_,λy I=>?_,λy j Z hj V a4=>?_,λc Z y l' P' h1 h2 h3 h4=>.inl (z.fresh c Z y l' P' h1 h2 h3 h4),λj Z y P' h1 h2 h3=>?_,λj hj=>aBc (z.gt j hj)⟩
  ·by_cases E:y=x
   ·subst E;rw[iB] at J;obtain⟨W,K⟩:=hW.cell k P hk _ hc t J;refine⟨K,.inr ⟨rfl,(wf.own t J).1⟩,?_⟩;obtain⟨U,q4,k2,P2,q5,q6,q7⟩:=K;obtain⟨b,hb⟩:∃b,a.dead[fI e t]?=some b:=⟨_,aC (by rw[z.l4];exact(aB.1 q5).1)⟩;show a.dead[fI e t]?=_;rw[W,hb]
    cases b
    ·rfl
    ·exact absurd (by have:=z.fresh _ _ _ _ _ q4 q5 q6 hb;rwa[q7,(wf.own t J).1] at this) hL
   ·rw[mG s E] at J;obtain⟨W,K,U⟩:=z.cell y t J;exact⟨W,.inl K,U⟩
  ·by_cases E:y=x
   ·subst E;rw[iB] at I;exact absurd I hz
   ·rw[mG s E] at I ⊢;exact z.zr y I
  ·by_cases E:y=x
   ·subst E;rw[iB] at I;exact absurd I hz
   ·rw[mG s E] at I;show (a.came.set (e.fi x P.id) true)[j]?≠_;rw[dE (a7 hj E ⟨_,f1⟩)];exact z.no y I j Z hj
  ·by_cases E:y=x
   ·subst E;rw[iB];exact⟨⟨_,f1⟩,by simp[z.l1,Y],b9,by simp[z.l3,Y]⟩
   ·rw[mG s E] at I ⊢;obtain⟨⟨k2,W⟩,K,U,q4⟩:=z.yes y I;have:=a7 W E ⟨_,f1⟩;exact⟨⟨k2,W⟩,by show (a.came.set _ true)[_]?=_;rw[dE this];exact K,U,by show (a.rows.set _ _)[_]?=_;rw[dE this];exact q4⟩
  ·by_cases E:y=x
   ·subst E;rw[iB] at a4 ⊢;have V:(a.came.set (e.fi y P.id) true)[j]?=some true:=V;rw[dE (Ne.symm a4)] at V;by_cases a0:(s y).by_=lF
    ·exact absurd V (z.no y a0 j Z hj)
    have b6:fil e y (s y).by_=(e.fi y (s y).by_:Nat):=by unfold fil;rw[if_neg a0]
    rw[b6] at f2 f3;have f3:e.fi y (s y).by_<e.fi y P.id:=by simpa using f3
    by_cases e2:j=e.fi y (s y).by_
    ·subst e2;refine⟨by have:=(z.yes y a0).2.2.1;rwa[a1] at this,f3,e.fi y P.id,by simp[z.l1,Y],f2⟩
    ·obtain⟨W,K,i,U,q4⟩:=z.oth y j Z hj V e2;exact⟨W,Nat.lt_trans K f3,i,aBc U,q4⟩
   ·rw[mG s E] at a4 ⊢;have V:(a.came.set (e.fi x P.id) true)[j]?=some true:=V;rw[dE (a7 hj E ⟨_,f1⟩)] at V;obtain⟨W,K,i,U,q4⟩:=z.oth y j Z hj V a4;exact⟨W,K,i,aBc U,q4⟩
  ·by_cases e2:j=e.fi x P.id
   ·subst e2;rw[f1] at h1
    cases h1
    rw[hk] at h2
    cases h2
    exact .inr ⟨rfl,rfl⟩
   ·have h3:(a.came.set (e.fi x P.id) true)[j]?=some true:=h3;rw[dE (Ne.symm e2)] at h3;exact .inl (z.freshF j Z y P' h1 h2 h3)
 | remove i rv S=>
  obtain⟨r1,r2,r3,-⟩:=hr;obtain⟨a1,rfl,rfl,rfl⟩:=hA;have a0:(s x).by_≠lF:=λh=>by have:=z.zr x h;rw[this] at a1;cases a1
  obtain⟨⟨k2,f1⟩,f2,f3,f4⟩:=z.yes x a0;have Y:=(aB.1 f1).1;have b4:∀n∈r.run,n.1<a.dead.length:=λn hn=>by
   rw[r3] at hn;obtain⟨t,J,rfl⟩:=aI.1 hn;exact(aB.1 (z.cell x t J).2.2).1
  have b3:∀{y:ByteArray} {t:aU},y≠x->lG e own Pa D y t->fI e t∉(r.run).map (·.1):=λE J hm=>by
   rw[r3,uJ] at hm;obtain⟨u,hu,e2⟩:=aI.1 hm;exact E (((z.cell x u hu).1.inj J e2).2.symm)
  refine⟨_,.inr (.inl ⟨r1,⟨_,r2,by rw[z.l2];exact Y,rfl⟩,b4,by rw[r3,aT];have:=hf.1;omega⟩),?_⟩;refine⟨z.l1,by simp[z.l2],z.l3,by rw[<- z.l4];exact xP _ _,λy t J=>?_,λy I=>?_,λy I=>?_,λy I=>?_,λy j Z hj V a4=>?_,λc Z y l' P' h1 h2 h3 h4=>?_,λj Z y P' h1 h2 h3=>.inl (z.freshF j Z y P' h1 h2 h3),λj hj=>?_⟩
  ·show _/\_/\(oT a.dead r.run)[fI e t]?=_;by_cases E:y=x
   ·subst E;rw[iB] at J;obtain⟨u,hu,rfl⟩:=aI.1 J;obtain⟨W,K,U⟩:=z.cell y u hu;refine⟨W,.inl K,?_⟩;rw[aFn,qC _ _ _ (aB.1 U).1,if_pos (by rw[r3,uJ];exact aI.2 ⟨u,hu,rfl⟩)];rfl
   ·rw[mG s E] at J;obtain⟨W,K,U⟩:=z.cell y t J;refine⟨W,.inl K,?_⟩;rw[qC _ _ _ (aB.1 U).1,if_neg (b3 E W)];exact U
  ·by_cases E:y=x
   ·subst E;rw[iB]
   ·rw[mG s E] at I ⊢;exact z.zr y I
  ·by_cases E:y=x
   ·subst E;rw[iB] at I;exact absurd I a0
   ·rw[mG s E] at I;exact z.no y I
  ·by_cases E:y=x
   ·subst E;rw[iB];refine⟨⟨_,f1⟩,f2,?_,?_⟩
    ·show (a.gone.set _ true)[_]?=_;rw[mT (by rw[z.l2];exact Y)];rfl
    ·rw[f4];show _=some ((cD (s y).S).map _);rw[aBv]
   ·rw[mG s E] at I ⊢;obtain⟨⟨k3,W⟩,K,U,q4⟩:=z.yes y I;exact⟨⟨k3,W⟩,K,by show (a.gone.set _ true)[_]?=_;rw[dE (a7 W E ⟨_,f1⟩)];exact U,q4⟩
  ·have e2:(upd s x ⟨(s x).by_,false,cD (s x).S⟩ y).by_=(s y).by_:=by
    by_cases E:y=x
    ·subst E;rw[iB]
    ·rw[mG s E]
   rw[e2] at a4 ⊢;obtain⟨W,K,U⟩:=z.oth y j Z hj V a4;exact⟨aBc W,K,U⟩
  ·have h4:(oT a.dead r.run)[c]?=some true:=h4;have b2:c<a.dead.length:=by rw[z.l4];exact(aB.1 h2).1
   rw[qC _ _ _ b2] at h4;split at h4
   ·rename_i hm
    rw[r3,uJ] at hm;obtain⟨u,hu,e2⟩:=aI.1 hm;obtain⟨⟨_,K,k3,P3,U,q4,q5⟩,q6,-⟩:=z.cell x u hu;rw[e2] at K U;rw[h1] at K;rw[h2] at U
    cases K
    cases U
    rw[h3] at q4
    cases q4
    exact .inl (by rw[q5];exact q6)
   ·exact .inl (z.fresh c Z y l' P' h1 h2 h3 h4)
  ·have hj:(a.gone.set _ true)[j]?=some true:=hj;by_cases e2:e.fi x (s x).by_=j
   ·rw[<- e2];exact f2
   ·rw[dE e2] at hj;exact z.gt j hj
 | alter i hv Hs=>
  obtain⟨r1,r2,-,r3,r4⟩:=hr;obtain⟨pi,pa,pS⟩:=p';obtain⟨a1,rfl,a2,rfl,rfl,a3⟩:=hA;have a0:(s x).by_≠lF:=λh=>by have:=z.zr x h;rw[this] at a1;cases a1
  obtain⟨⟨k2,f1⟩,f2,f3,f4⟩:=z.yes x a0;have Y:=(aB.1 f1).1;have a9:∀t∈Hs.flatMap (·.Br),t.alive=true/\lG e own Pa D x t:=λt J=>hW.cell k P hk _ hc t J;have a5:∀t∈(s x).S++Hs.flatMap (·.Br),lG e own Pa D x t:=λt J=>by
   rcases aG.1 J with h|h
   ·exact(z.cell x t h).1
   ·exact(a9 t h).2
  have c0:aE8 e a.dead (s x).S (Hs.flatMap (·.Br)):=by
   refine⟨λt J=>(a5 t J).1,sV a5 ?_,λt J=>?_⟩
   ·rw[bF,cP];refine⟨b1,wf.nd,λb hb b' b7 e2=>?_⟩;obtain⟨t,J,rfl⟩:=aI.1 hb;obtain⟨u,hu,rfl⟩:=aI.1 b7;exact b0 t J ((congrArg Prod.fst e2).trans (wf.own u hu).1)
   ·rcases aG.1 J with h|h
    ·exact(z.cell x t h).2.2
    ·obtain⟨W,U,q4,k3,P3,q5,q6,q7⟩:=a9 t h;obtain⟨b,hb⟩:∃b,a.dead[fI e t]?=some b:=⟨_,aC (by rw[z.l4];exact(aB.1 q5).1)⟩;rw[W,hb]
     cases b
     ·rfl
     ·exact absurd (by have:=z.fresh _ _ _ _ _ q4 q5 q6 hb;rwa[q7,(wf.own t h).1] at this) hL
  obtain⟨g,g0,g1,g2,g3,g4,g5,g6,g7⟩:=aOo Hs r.hunks (s x).S pS a a3 r3 r4 f4 c0 hf.1 (hf.2 _ _ _ rfl).2;refine⟨_,.inr (.inr ⟨r1,_,r2,by rw[z.l3];exact Y,g,g0,g1,rfl,by rw[r3];exact(hf.2 _ _ _ rfl).1⟩),?_⟩;generalize g r.hunks.length=a' at *;refine⟨by rw[g2];exact z.l1,by rw[g3];exact z.l2,by rw[g4,jG];exact z.l3,by rw[g5];exact z.l4,λy t J=>?_,λy I=>?_,λy I=>?_,λy I=>?_,λy j Z hj V a4=>?_,λc Z y l' P' h1 h2 h3 h4=>?_,λj Z y P' h1 h2 h3=>.inl (z.freshF j Z y P' h1 h2 (by rwa[g2] at h3)),λj hj=>by rw[g2];rw[g3] at hj;exact z.gt j hj⟩
  ·by_cases E:y=x
   ·subst E;rw[iB] at J;have a6:=g6.num t (by simpa using J);obtain⟨u,hu,b5⟩:=a3.mem (t:=t) (by simp[aM];exact .inr (.inl J));have c1:u∈(s y).S\/u∈Hs.flatMap (·.Br):=by
     rcases hu with hu|hu
     ·have en:u.num=t.num:=by rcases b5 with rfl|rfl<;>rfl
      rcases kE hu with rfl|h1|rfl
      ·rw[<- en] at a6;exact absurd a6 (by decide)
      ·exact .inl h1
      ·rw[<- en] at a6;exact absurd a6 (by decide)
     ·exact .inr hu
    have a8:lG e own Pa D y u/\(L y (mM u)\/(y=y/\mM u=P.id)):=by
     rcases c1 with h|h
     ·exact⟨(z.cell y u h).1,.inl (z.cell y u h).2.1⟩
     ·exact⟨(a9 u h).2,.inr ⟨rfl,(wf.own u h).1⟩⟩
    have hd:=g6.dd t (by simpa using J);rcases b5 with rfl|rfl
    ·exact⟨a8.1,a8.2,hd⟩
    ·exact⟨a8.1.dead,a8.2,hd⟩
   ·rw[mG s E] at J;obtain⟨W,K,U⟩:=z.cell y t J;refine⟨W,.inl K,?_⟩;rw[g7 _ (λhm=>?_)]
    ·exact U
    ·obtain⟨u,hu,e2⟩:=aI.1 hm;exact E (((a5 u hu).inj W e2).2.symm)
  ·by_cases E:y=x
   ·subst E;rw[iB] at I;exact absurd I a0
   ·rw[mG s E] at I ⊢;exact z.zr y I
  ·by_cases E:y=x
   ·subst E;rw[iB] at I;exact absurd I a0
   ·rw[mG s E] at I;rw[g2];exact z.no y I
  ·rw[g2,g3,g4];by_cases E:y=x
   ·subst E;rw[iB];refine⟨⟨_,f1⟩,f2,by rw[f3,a1],?_⟩;rw[mT (by rw[z.l3];exact Y)]
   ·rw[mG s E] at I ⊢;obtain⟨⟨k3,W⟩,K,U,q4⟩:=z.yes y I;exact⟨⟨k3,W⟩,K,U,by rw[dE (a7 W E ⟨_,f1⟩)];exact q4⟩
  ·rw[g2] at V ⊢;rw[g3];have e2:(upd s x ⟨(s x).by_,true,pS⟩ y).by_=(s y).by_:=by
    by_cases E:y=x
    ·subst E;rw[iB]
    ·rw[mG s E]
   rw[e2] at a4 ⊢;exact z.oth y j Z hj V a4
  ·by_cases hm:c∈((s x).S++Hs.flatMap (·.Br)).map (fI e)
   ·obtain⟨u,hu,e2⟩:=aI.1 hm;obtain⟨_,K,k3,P3,U,q4,q5⟩:=a5 u hu;rw[e2] at K U;rw[h1] at K;rw[h2] at U
    cases K
    cases U
    rw[h3] at q4
    cases q4
    rcases aG.1 hu with h|h
    ·exact .inl (by rw[q5];exact(z.cell x u h).2.1)
    ·exact .inr ⟨rfl,by rw[q5];exact(wf.own u h).1⟩
   ·rw[g7 c hm] at h4;exact .inl (z.fresh c Z y l' P' h1 h2 h3 h4)
end
section
variable {e:iA} {own:List ByteArray} {Pa:List PM} {D:RD} {L:ByteArray->cL->Prop} {s s':ByteArray->PL} {a:AS}
theorem iE.mono(h:iE e own Pa D L s a){I:ByteArray->cL->Prop}(z:∀x i,L x i->I x i):iE e own Pa D I s a:=
 ⟨h.l1,h.l2,h.l3,h.l4,λx t E=>⟨(h.cell x t E).1,z _ _ (h.cell x t E).2.1,(h.cell x t E).2.2⟩,h.zr,h.no,h.yes,h.oth,λc k y l P a b c d=>z _ _ (h.fresh _ _ _ _ _ a b c d),λj k y P a b c=>z _ _ (h.freshF _ _ _ _ a b c),h.gt⟩
theorem iE.nil(e:iA)(own:List ByteArray)(Pa:List PM)(D:RD):iE e own Pa D (λ_ i=>i∈([]:List cL)) (λ_=>pl0) ⟨List.replicate D.files.length false,List.replicate D.files.length false,List.replicate D.files.length [],List.replicate D.cells.length false⟩:=by
 have z:∀{n j:Nat},(List.replicate n false)[j]?≠some true:=λ{n j} h=>by
  have:=aD h;simp at this
 refine⟨by simp,by simp,by simp,by simp,λx t E=>(by cases E),λ_ _=>rfl,λ_ _ j k _=>z,λx I=>absurd rfl I,λx j k _ h=>absurd h z,λc k y l P _ _ _ h=>absurd h z,λj k y P _ _ h=>absurd h z,λj h=>absurd h z⟩
theorem aUt{P:PM}(E:(P.Cs.map (·.1)).Nodup){k:Nat}{c:ByteArray×fM}(I:P.Cs[k]?=some c):vE P s s' (k+1)=upd (vE P s s' k) c.1 (s' c.1):=by
 funext y;by_cases z:y=c.1
 ·subst z;rw[iB,(aGl E I).2]
 ·rw[mG _ z,aGm I z]
theorem bCh{ids:List cL}(hW:qS e own Pa D)(hS:iE e own Pa D (λ_ i=>i∈ids) s a){k:Nat}{P:PM}(hk:Pa[k]?=some P)(hz:P.id≠lF){q:RPt}(hq:D.pts[k]?=some q)(hP:aBp P s s')(wf:PWF P)(hi:P.id∉ids)(hl:P.Cs.length<=1000000)(hf:∀c∈P.Cs,aVv c.2 (s c.1))(K:∀x,fV ids (s x)):
  ∃W,aY1 q a W/\iE e own Pa D (λ_ i=>i∈ids++[P.id]) s' W:=by
 obtain⟨-,a2,a1⟩:=hW.pt k P q hk hq;have a3:∀n,n<=P.Cs.length->∃g:Nat->AS,g 0=a/\(∀j c,j<n->q.chs[j]?=some c->bAu c (g j) (g (j+1)))/\iE e own Pa D (λy i=>i∈ids\/(i=P.id/\∃c∈P.Cs.take n,c.1=y)) (vE P s s' n) (g n):=by
  intro n
  induction n with
  | zero=>
   intro _;refine⟨λ_=>a,rfl,λj c J=>absurd J (by omega),?_⟩;rw[aJj];exact hS.mono λx i h=>.inl h
  | succ n ih=>
   intro hn;obtain⟨g,g0,g1,g2⟩:=ih (by omega);obtain⟨c,z⟩:∃c,P.Cs[n]?=some c:=⟨_,aC (by omega)⟩;obtain⟨r,V⟩:∃r,q.chs[n]?=some r:=⟨_,aC (by omega)⟩;have E:=aD z;have Y:=(aGl (s:=s) (s':=s') wf.nd z).1;have U:¬ (P.id∈ids\/(P.id=P.id/\∃d∈P.Cs.take n,d.1=c.1)):=by
    rintro(h|⟨_,d,I,Z⟩)
    ·exact hi h
    ·obtain⟨j,J⟩:=List.getElem?_of_mem I;have a0:j<n:=by have:=(aB.1 J).1;rw[bR] at this;omega
     rw[aQb,if_pos a0] at J;have:=aJm wf.nd J z Z;omega
   obtain⟨W,l1,l2⟩:=bCg hW g2 hk hz E (a1 n c r z V) (by rw[Y];exact hP.app c E) (wf.wf c E) U (by rw[Y];exact hf c E) (by rw[Y];exact(K c.1).nd) (by rw[Y];exact λt ht h=>hi (h▸((K c.1).own t ht).1));refine⟨λj=>if j<=n then g j else W,by simp[g0],λj d J I=>?_,?_⟩
   ·by_cases Z:j<n
    ·simp only[if_pos (show j<=n by omega),if_pos (show j+1<=n by omega)];exact g1 j d Z I
    ·obtain rfl:j=n:=by omega
     rw[V] at I
     cases I
     simp only[aA,if_true,if_neg (show ¬ j+1<=j by omega)];exact l1
   ·simp only[if_neg (show ¬ n+1<=n by omega)];rw[aUt wf.nd z];refine l2.mono ?_;rintro x i ((h|⟨h,d,I,h2⟩)|⟨rfl,rfl⟩)
    ·exact .inl h
    ·exact .inr ⟨h,d,(List.take_subset_take_left _ (by omega)) I,h2⟩
    ·exact .inr ⟨rfl,c,by rw[aF (by omega)];exact aG.2 (.inr (by rw[(aB.1 z).2];simp)),rfl⟩
 obtain⟨g,g0,g1,g2⟩:=a3 P.Cs.length (aA _);refine⟨_,⟨g,g0,λj c K=>g1 j c (by have:=(aB.1 K).1;omega) K,rfl,by omega⟩,?_⟩;rw[a2];rw[aO4 hP] at g2;refine g2.mono ?_;rintro x i (h|⟨h,-⟩)
 ·exact aG.2 (.inl h)
 ·exact aG.2 (.inr (by simp[h]))
def pF(Pa:List PM)(N:List Nat)(Ps:List PM):Prop:=N.length=Ps.length/\∀(j k:Nat) (P:PM),N[j]?=some k->Ps[j]?=some P->Pa[k]?=some P
theorem aU5{c:fM}{p:PL}(h:qU c)(I:(jS c).length<=1000)(J:p.S.length<=40000):aVv c p:=by
 refine⟨by omega,?_⟩;rintro i v E rfl;have h1:=h.1;exact⟨by omega,λx z=>by have:=(h.2 x z).1;omega⟩
theorem HSl.sims{Ps:List PM}(z:HSl Ps s)(hW:qS e own Pa D){N:List Nat}(Y:pF Pa N Ps){K:Nat->Nat->ByteArray->PL}(h1:∀p,p<=Ps.length->HSl (Ps.take p) (K p 0))(h2:∀p P,Ps[p]?=some P->aBp P (K p 0) (K (p+1) 0))
  (j k:Nat) (hj:N[j]?=some k) (q:RPt) (hq:D.pts[k]?=some q) (a:AS) (hS:iE e own Pa D (λ_ i=>i∈(Ps.take j).map (·.id)) (K j 0) a):∃U,aY1 q a U/\iE e own Pa D (λ_ i=>i∈(Ps.take (j+1)).map (·.id)) (K (j+1) 0) U:=by
 have I:j<Ps.length:=by rw[<- Y.1];exact(aB.1 hj).1
 obtain⟨P,V⟩:∃P,Ps[j]?=some P:=⟨_,aC I⟩;have J:=aD V;have hk:=Y.2 j k P hj V;have W:Ps.take (j+1)=Ps.take j++[P]:=by rw[aF I,(aB.1 V).2]
 have hz:P.id≠lF:=λh=>z.hist.noz (by rw[<- h];exact aI.2 ⟨P,J,rfl⟩);have hi:P.id∉(Ps.take j).map (·.id):=by
  have:=(h1 (j+1) (by omega)).hist;rw[W] at this;exact this.last.choose_spec.2.2.2.1
 have E:=h1 j (by omega);obtain⟨U,k1,k2⟩:=bCh hW hS hk hz hq (h2 j P V) (z.hist.wf P J) hi (by have:=z.slim.few P J;omega) (λc Z=>aU5 (z.slim.small P J c Z) (z.slim.br P J c Z) (E.rows _)) (λx=>E.hist.good.1 x);refine⟨U,k1,?_⟩;rw[W,bF];exact k2
end
theorem zY{w:World}{B n size:Nat}{e:TypeId}{v:Value}{z:List Value}(h:w.ownsRow B e size v n z)(q:Nat):(w.drewN q).ownsRow B e size v n z:=bQ h (below_drewN (Below.refl _ _) q) (aA _)
theorem jA{t e:TypeId}{sz mI:Nat}(hE:EI t e sz mI)(w:World){U:Array Oper}{J:List Oper}{o:Oper}{a:Act}{Q:Exit->Act->World->Prop}(Z:o.guard=none)(s x:Operand)
  (ho:o.op=.call { callee:=.builtin .append,args:=#[s,x],argTypes:=#[t,t] })
  (E:Nat) (v:Value) (n:Nat) (xs:List Value) (hs:a.eval s=v) (I:w.ownsRow E e sz v n xs) (K:Array Value) (hx:a.eval x=.slice (some ⟨w.heap.size,0,none⟩) 1 1) (hy:K.size=sz) (h1:∀u∈K.toList,u.oneCell'=true)
  (hn:n<=1000000) (Y:mI<=1000) (W:E<=w.heap.size)
  (h:∀g cap w',w'.ownsRow E e sz (.slice (some ⟨g,0,none⟩) (n+1) cap) (n+1) (xs++K.toList)->(w.alloc (.cells K e)).grownBy w' v.ownBlock->(v.ownBlock=some g\/w.heap.size<=g)->(∀V w0,Below V w0 w->V<=E->Below V w0 w')->wpList Tryz.prog U Q J (a.put o.dst (.slice (some ⟨g,0,none⟩) (n+1) cap)) w'):wpList Tryz.prog U Q (o::J) a (w.alloc (.cells K e)):=by
 obtain⟨i,z,e1,e2,e3,e4,e5,e6,e7⟩:=hE;refine wpList_append_lies _ Z s x t ho E e i z sz mI e1 e2 e3 e4 e5 e6 e7 v n xs hs (I.alloc _) ⟨w.heap.size,0,none⟩ 1 1 K.toList hx (by simp[hy]) (λj u hj=>?_) h1 (by decide) (by unfold maxLen;omega) ?_ (by simp;omega) _ rfl (λg cap w' h2 h3 h4 _=>h g cap w' h2 h3 (h4.imp id λe=>by rw[e];simp) λV w0 hb hB=>?_)
 ·rw[aEo,dC];have:=(aH w (.cells K e)).1;simp only[World.cell?,this];simpa using hj
 ·have:(n+1) * mI<=1000001 * 1000:=aKe (by omega) Y;omega
 ·exact(hb.alloc (by omega) _).grown h3 (by simp;omega) (λk hk=>by have:=(I.lt k hk).1;omega)
theorem jL{t e:TypeId}{sz mI:Nat}(hE:EI t e sz mI)(w:World){U:Array Oper}{E:List Oper}{o:Oper}{a:Act}{Q:Exit->Act->World->Prop}(Y:o.guard=none)(s x:Operand)
  (ho:o.op=.call { callee:=.builtin .append,args:=#[s,x],argTypes:=#[t,t] })
  (z:Nat) (v:Value) (n:Nat) (Z:List Value) (hs:a.eval s=v) (K:w.ownsRow z e sz v n Z) (J:Array Value) (hx:a.eval x=.slice (some ⟨w.heap.size,0,none⟩) 1 1) (hy:J.size=sz) (h1:∀u∈J.toList,u.oneCell'=true)
  (hn:n<=1000000) (W:mI<=1000) (I:z<=w.heap.size)
  (h:∀v' w',w'.ownsRow z e sz v' (n+1) (Z++J.toList)->(w.alloc (.cells J e)).grownBy w' v.ownBlock->(∀V w0,Below V w0 w->V<=z->Below V w0 w')->wpList Tryz.prog U Q E (a.put o.dst v') w'):wpList Tryz.prog U Q (o::E) a (w.alloc (.cells J e)):=
 jA hE w Y s x ho z v n Z hs K J hx hy h1 hn W I λg cap w' a b _ d=>h _ w' a b d
theorem xU{t e:TypeId}{sz mI:Nat}(hE:EI t e sz mI)(w W:World){a4:Array Oper}{o:Oper}{a:Act}{K:Act->World->Prop}{Q:Exit->Act->World->Prop}{E:Prop}(a3:o.guard=none)(s x:Operand)
  (ho:o.op=.call { callee:=.builtin .append,args:=#[s,x],argTypes:=#[t,t] })
  (I:Nat) (v:Value) (n:Nat) (xs:List Value) (hs:a.eval s=v) (J:w.ownsRow I e sz v n xs) (U:Array Value) (Z:W=w.alloc (.cells U e)\/W=(w.alloc (.cells U e)).drew) (hx:a.eval x=.slice (some ⟨w.heap.size,0,none⟩) 1 1) (hy:U.size=sz) (h1:∀u∈U.toList,u.oneCell'=true)
  (hn:n<=1000000) (a2:mI<=1000) (a1:I<=w.heap.size)
  (h:∀g cap w',w'.ownsRow I e sz (.slice (some ⟨g,0,none⟩) (n+1) cap) (n+1) (xs++U.toList)->W.grownBy w' v.ownBlock->(v.ownBlock=some g\/w.heap.size<=g)->(∀Y w0,Below Y w0 w->Y<=I->Below Y w0 w')->K (a.put o.dst (.slice (some ⟨g,0,none⟩) (n+1) cap)) w'):if Region.wanted o (yielded a4 a.tmps)=true then Oper.wp Tryz.prog o a W K Q else E:=by
 obtain⟨i,z,e1,e2,e3,e4,e5,e6,e7⟩:=hE;have a5:W.heap.size=w.heap.size+1:=by rcases Z with rfl|rfl<;>simp
 have V:∀c,W.cell? c=(w.alloc (.cells U e)).cell? c:=λc=>by rcases Z with rfl|rfl<;>rfl
 refine step_append_lies _ a3 s x t ho I e i z sz mI e1 e2 e3 e4 e5 e6 e7 v n xs hs (Z.elim (λh=>h▸J.alloc _) λh=>h▸(J.alloc _).drew) ⟨w.heap.size,0,none⟩ 1 1 U.toList hx (by simp[hy]) (λj u hj=>?_) h1 (by decide) (by unfold maxLen;omega) ?_ (by omega) _ rfl (λg cap w' h2 h3 h4 _=>h g cap w' h2 h3 (h4.imp id λe=>by omega) λY w0 hb hB=>?_)
 ·rw[aEo,dC,V];have:=(aH w (.cells U e)).1;simp only[World.cell?,this];simpa using hj
 ·have:(n+1) * mI<=1000001 * 1000:=aKe (by omega) a2;omega
 ·have a0:Below Y w0 W:=Z.elim (λh=>h▸hb.alloc (by omega) _) λh=>h▸(hb.alloc (by omega) _).drew;exact a0.grown h3 (by omega) (λk hk=>by have:=(J.lt k hk).1;omega)
theorem aX5{t e:TypeId}{sz mI:Nat}(hE:EI t e sz mI)(w:World){Z:Array Oper}{o:Oper}{a:Act}{K:Act->World->Prop}{Q:Exit->Act->World->Prop}{E:Prop}(Y:o.guard=none)(s x:Operand)
  (ho:o.op=.call { callee:=.builtin .append,args:=#[s,x],argTypes:=#[t,t] })
  (z:Nat) (v:Value) (n:Nat) (xs:List Value) (hs:a.eval s=v) (U:w.ownsRow z e sz v n xs) (J:Array Value) (hx:a.eval x=.slice (some ⟨w.heap.size,0,none⟩) 1 1) (hy:J.size=sz) (h1:∀u∈J.toList,u.oneCell'=true)
  (hn:n<=1000000) (W:mI<=1000) (I:z<=w.heap.size)
  (h:∀g cap w',w'.ownsRow z e sz (.slice (some ⟨g,0,none⟩) (n+1) cap) (n+1) (xs++J.toList)->(w.alloc (.cells J e)).drew.grownBy w' v.ownBlock->(v.ownBlock=some g\/w.heap.size<=g)->(∀V w0,Below V w0 w->V<=z->Below V w0 w')->K (a.put o.dst (.slice (some ⟨g,0,none⟩) (n+1) cap)) w'):if Region.wanted o (yielded Z a.tmps)=true then Oper.wp Tryz.prog o a (w.alloc (.cells J e)).drew K Q else E:=
 xU hE w _ Y s x ho z v n xs hs U J (.inr rfl) hx hy h1 hn W I h
theorem rI(x:ByteArray)(k:Int)(rb sb:Nat)(D:RD)(s:RS)(w:World)(h:WV w rb D)(hs:sE w sb s)(hf:bAh D s)(hk:aV1 D s x k):
  Calls Tryz.prog 239 #[.pointer (some ⟨rb,0,none⟩),.pointer (some ⟨sb,0,none⟩),.string x] w λe w'=>e=.returned (.int .i64 k)/\Below w.heap.size w w':=by
 have HW:=aO h;have HS:=aO hs;have HF:=aO hf;have HK:=aO hk;have a9:=hf.len;have b1:=hf.gl;have b4:=hf.few;have b8:=hk.lo;have a8:=hk.hi;obtain⟨n,hn⟩:∃n,s.came.length=n:=⟨_,rfl⟩;rw[hn] at a9 a8 b1;have z:=aO hn;clear h hs hf hk hn;go_enter Tryz.func239,Tryz.ntmps239;go_wp2
 go_loopw [7,8] (λkv i wr=>∃j:Nat,j<=n/\i=.int .i64 j/\kv=.int .i64 (if k<j then k else -1)/\Below w.heap.size w wr) (λ_ i _=>n - (intOf i).toNat)
 case atStart=>exact⟨0,aE _,rfl,by rw[show (if k<((0:Nat):Int) then k else -1)=-1 by split<;>omega],Below.refl _ _⟩
 case round=>
  obtain⟨i,hi,rfl,rfl,I⟩:=hrel;obtain⟨ca,cc,c0,E⟩:=(HS.out.below I).came_;rw[z.out] at c0;by_cases b2:i<n
  ·obtain⟨x2,p,U⟩:∃x2 p,D.files[i]?=some (x2,p):=⟨_,_,aC (by omega)⟩;obtain⟨fa,fc,f2,a7⟩:=(HW.out.below I).files_;obtain⟨fb,fo,rfl,f0,-⟩:=a7 i x2 p U;obtain⟨c,J⟩:∃c,s.came[i]?=some c:=⟨_,aC (by rw[z.out];exact b2)⟩;obtain⟨cb,co,rfl,c1⟩:=E i c J;have b7:i<D.files.length:=by omega
   clear a7 E;have keep:(i:Int)≠k->(if k<((i+1:Nat):Int) then k else -1)=(if k<(i:Int) then k else -1):=λV=>by
    by_cases q:k<(i:Int)
    ·rw[if_pos (by omega),if_pos q]
    ·rw[if_neg (by omega),if_neg q]
   generalize b3:D.files.length=nf at *;clear b3;by_cases K:x2=x
   ·have W:(x2.toList == x.toList)=true:=by rw[oM];simpa using K
    cases c
    ·have V:(i:Int)≠k:=λe=>by have:=(HK.out.is_ i e).1;rw[J] at this;cases this
     have HX:=aO (keep V);clear keep U J K V;generalize (if k<(i:Int) then k else -1)=kk at *;go_wp2
     go_roundw
     case rel=>exact⟨i+1,by omega,by go_num,by rw[HX.out],I⟩
     case measure=>simp[intOf];omega
    ·obtain⟨g,a0⟩:∃g,s.gone[i]?=some g:=⟨_,aC (by omega)⟩;obtain⟨ga,gc,g0,a3⟩:=(HS.out.below I).gone_;obtain⟨gb,go,rfl,g1⟩:=a3 i g a0;have b5:i<s.gone.length:=by omega
     generalize s.gone.length=ng at *;have Z:(D.files[i]?.map (·.1))=some x:=by rw[U,<- K];rfl
     cases g
     ·have he:k=(i:Int):=by
       by_cases e:(i:Int)=k
       ·exact e.symm
       ·have:=(HK.out.oth i e J Z).1;rw[a0] at this
        cases this
      clear keep U J K a3 a0 Z;generalize (if k<(i:Int) then k else -1)=kk at *;go_wp2;go_ret;exact⟨fW he.symm,I⟩
     ·obtain⟨kk,a4⟩:∃kk,(if k<(i:Int) then k else -1)=kk:=⟨_,rfl⟩;have HX:Hid ((if aEe D s i n=true then kk else (i:Int))=(if k<((i+1:Nat):Int) then k else -1)):=by
       show _=_;by_cases e:(i:Int)=k
       ·have h1:aEe D s i n=false:=by
         cases hq:aEe D s i n
         ·rfl
         ·rw[<- z.out] at hq;obtain⟨j,j1,j2⟩:=aN4.1 hq;exact absurd j2 ((HK.out.is_ i e).2.2 j j1)
        rw[h1,if_neg (by simp),if_pos (by omega),e]
       ·have h1:aEe D s i n=true:=by rw[<- z.out];exact aN4.2 (HK.out.oth i e J Z).2.2
        rw[h1,if_pos rfl,keep e,a4]
      clear keep U J K a3 a0 Z;rw[a4];clear a4;have a6:=I;go_wp2;clear f2 f0 c1 g0 g1 c0
      go_loopw [9,10] (λfv j wi=>∃t:Nat,t<=n/\j=.int .i64 t/\fv=.bool (aEe D s i t)/\Below w.heap.size w wi) (λ_ j _=>n - (intOf j).toNat)
      case atStart=>exact⟨0,aE _,rfl,rfl,a6⟩
      case round=>
       clear I a6;obtain⟨t,ht,rfl,rfl,I⟩:=hrel;obtain⟨ca,b6,c0,E⟩:=(HS.out.below I).came_;rw[z.out] at c0;by_cases a5:t<n
       ·obtain⟨x3,p3,Y⟩:∃x2 p,D.files[t]?=some (x2,p):=⟨_,_,aC (bJ (by rw[z.out];exact a5) HF.out.len)⟩;have b0:=HF.out.by_ t x3 p3 (by rw[z.out];exact a5) Y;obtain⟨P,hP⟩:∃P,D.pts[p3]?=some P:=⟨_,aC b0⟩;have HA:=aO (aKi t p3 x3 P rb D wr (HW.out.below I) Y hP (HF.out.chs P (aD hP)));rw[<- RD.aft_at Y hP] at HA;obtain⟨c,a2⟩:∃c,s.came[t]?=some c:=⟨_,aC (by rw[z.out];exact a5)⟩;have HN:=aO (aT6 D s i t c a2);clear Y hP b0 E;generalize D.aft t=a at *
        go_wp2_with fail
        refine HA.out.mono ?_;rintro e w2 ⟨rfl,W⟩;have a1:=I.trans (W.mono I.size);clear c0;obtain⟨ca,cc,c0,E⟩:=(HS.out.below a1).came_;obtain⟨cb,co,rfl,c1⟩:=E t c a2;rw[z.out] at c0;clear E a2 HA W I;generalize aEe D s i t=f at *;by_cases ea:a=(i:Int)
        ·have q1:(a == (i:Int))=true:=by simp[ea]
         rw[show decide (a=(i:Int))=true by simpa using ea] at HN;clear ea
         cases f<;>cases c <;>
         ·go_wp2
          go_roundw
          case rel=>exact⟨t+1,by omega,by go_num,by rw[HN.out];rfl,a1⟩
          case measure=>simp[intOf];omega
        ·have q1:(a == (i:Int))=false:=by rw[beq_eq_false_iff_ne];exact ea
         rw[show decide (a=(i:Int))=false by simpa using ea] at HN;clear ea
         cases f<;>cases c <;>
         ·go_wp2
          go_roundw
          case rel=>exact⟨t+1,by omega,by go_num,by rw[HN.out];rfl,a1⟩
          case measure=>simp[intOf];omega
       ·have e:t=n:=by omega
        subst e;clear E
        cases hq:aEe D s i t
        ·rw[hq,if_neg (by simp)] at HX;go_wp2
         go_roundw
         case rel=>exact⟨i+1,by omega,by go_num,by rw[<- HX.out],I⟩
         case measure=>simp[intOf];omega
        ·rw[hq,if_pos rfl] at HX;go_wp2
         go_roundw
         case rel=>exact⟨i+1,by omega,by go_num,by rw[<- HX.out],I⟩
         case measure=>simp[intOf];omega
   ·have W:(x2.toList == x.toList)=false:=by rw[oM];simpa using K
    have V:(i:Int)≠k:=λe=>K (by have:=(HK.out.is_ i e).2.1;rw[U] at this;simpa using this);have HX:=aO (keep V);clear keep U J K V;generalize (if k<(i:Int) then k else -1)=kk at *;go_wp2
    go_roundw
    case rel=>exact⟨i+1,by omega,by go_num,by rw[HX.out],I⟩
    case measure=>simp[intOf];omega
  ·have e:i=n:=by omega
   subst e;rw[if_pos a8];clear E;go_wp2;go_ret;exact⟨rfl,I⟩
structure RD.Ext (D D':RD):Prop where
 pts:∃X,D'.pts=D.pts++X
 cells:∃X,D'.cells=D.cells++X
 files:∃X,D'.files=D.files++X
theorem RD.Ext.refl(D:RD):D.Ext D:=⟨⟨[],by simp⟩,⟨[],by simp⟩,⟨[],by simp⟩⟩
theorem kV{α:Type}{L X:List α}{k:Nat}{a:α}(h:L[k]?=some a):(L++X)[k]?=some a:=by rw[aZ (aB.1 h).1];exact h
section
variable {e:iA} {own:List ByteArray} {Pa:List PM} {D D':RD} {x:ByteArray} {L:ByteArray->cL->Prop} {s:ByteArray->PL}
theorem RD.Ext.aft(h:D.Ext D')(E:qS e own Pa D){j:Nat}(V:j<D.files.length):D'.aft j=D.aft j:=by
 obtain⟨X,K⟩:=h.pts;obtain⟨Y,U⟩:=h.files;obtain⟨⟨y,k⟩,z⟩:∃p,D.files[j]?=some p:=⟨_,aC V⟩;obtain⟨P,J,-⟩:=E.back j k y z;obtain⟨q,I⟩:∃q,D.pts[k]?=some q:=⟨_,aC (by rw[E.len];exact(aB.1 J).1)⟩;rw[RD.aft_at z I,RD.aft_at (D:=D') (by rw[U];exact kV z) (by rw[K];exact kV I)]
structure kC (w:World) (rb:Nat) (D':RD) (e:iA) (own:List ByteArray) (Pa:List PM) (D:RD):Prop where
 wv:WV w rb D'
 rel:qS e own Pa D
 ext:D.Ext D'
 chs:∀P∈D'.pts,P.chs.length<=100000
 few:D'.files.length<=1000000
 ln:∀(k:Nat) (l:ByteArray) (p:Nat),D'.cells[k]?=some (l,p)->0<l.size/\l.size<=1000
 rps:D'.repos.length<=3/\∀R∈D'.repos,R.F.length<=10000/\(fO R.F).Nodup
theorem kC.below{w w':World}{rb:Nat}(h:kC w rb D' e own Pa D)(z:Below w.heap.size w w'):kC w' rb D' e own Pa D:=⟨h.wv.below z,h.rel,h.ext,h.chs,h.few,h.ln,h.rps⟩
theorem iE.last{z:RS}(h:iE e own Pa D L s z.abs){w:World}{rb:Nat}(I:kC w rb D' e own Pa D)(x:ByteArray):bAh D' z/\aV1 D' z x (fil e x (s x).by_):=by
 obtain⟨X,hX⟩:=I.ext.pts;obtain⟨Y,hY⟩:=I.ext.files;have K:z.came.length=D.files.length:=h.l1;have U:∀{j:Nat},z.came[j]?=some true->D'.aft j=D.aft j:=λJ=>I.ext.aft I.rel (by rw[<- K];exact(aB.1 J).1);have nm:∀{j:Nat},z.came[j]?=some true->(D'.files[j]?.map (·.1))=some x->∃k,D.files[j]?=some (x,k):=λ{j} J hn=>by
  obtain⟨⟨y,k⟩,E⟩:∃p,D.files[j]?=some p:=⟨_,aC (by rw[<- K];exact(aB.1 J).1)⟩;rw[hY,kV E] at hn
  cases hn
  exact⟨k,E⟩
 refine⟨⟨by rw[K,hY];simp,h.l2.trans h.l1.symm,by have:=h.l3;simp only[RS.abs,aT] at this;rw[this,K],λj y p J E=>?_,I.chs,I.few,h.gt⟩,?_⟩
 ·obtain⟨⟨y2,k⟩,W⟩:∃p,D.files[j]?=some p:=⟨_,aC (by rw[<- K];exact J)⟩;rw[hY,kV W] at E
  cases E
  obtain⟨P,hP,-⟩:=I.rel.back j p y W;have:=(aB.1 hP).1;rw[hX,aJ,I.rel.len];omega
 by_cases hz:(s x).by_=lF
 ·have e1:fil e x (s x).by_=-1:=by unfold fil;rw[if_pos hz]
  rw[e1];refine⟨by omega,by omega,λi hi=>absurd hi (by omega),λi hi V E=>?_⟩;obtain⟨k,hk⟩:=nm V E;exact absurd V (h.no x hz i k hk)
 ·have e1:fil e x (s x).by_=(e.fi x (s x).by_:Nat):=by unfold fil;rw[if_neg hz]
  rw[e1];obtain⟨⟨k0,f0⟩,f1,f2,f3⟩:=h.yes x hz;have a0:=(aB.1 f1).1;refine⟨by omega,Int.ofNat_lt.2 a0,λi hi=>?_,λi hi V E=>?_⟩
  ·obtain rfl:i=e.fi x (s x).by_:=by omega
   refine⟨f1,by rw[hY,kV f0];rfl,λj J Z=>?_⟩;rw[U J] at Z;obtain⟨q1,q2⟩:=I.rel.afn j _ Z;rw[f0] at q2;obtain⟨⟨y,k⟩,E⟩:∃p,D.files[j]?=some p:=⟨_,aC (by rw[<- K];exact(aB.1 J).1)⟩;rw[E] at q2
   cases q2
   have:=(h.oth _ j k E J (by omega)).2.1;omega
  ·obtain⟨k,hk⟩:=nm V E;obtain⟨q1,q2,i',q3,q4⟩:=h.oth x i k hk V (by omega);exact⟨q1,by omega,i',q3,by rw[U q3];exact q4⟩
def yC(e:iA)(s:ByteArray->PL)(x:ByteArray):List Nat:=if (s x).alive=true then (cA (s x).S).map (fI e) else []
theorem iE.row{z:RS}(h:iE e own Pa D L s z.abs){x:ByteArray}(J:(s x).by_≠lF):∃v,z.rows[e.fi x (s x).by_]?=some (v,(s x).S.map (fI e))/\z.gone[e.fi x (s x).by_]?=some (!(s x).alive)/\e.fi x (s x).by_<z.gone.length/\e.fi x (s x).by_<z.rows.length:=by
 obtain⟨-,f1,f2,E⟩:=h.yes x J;simp only[RS.abs,aP] at E
 cases I:z.rows[e.fi x (s x).by_]? with
 | none=>rw[I] at E;cases E
 | some p=>
  rw[I] at E;obtain⟨v,l⟩:=p;simp only[jH,cJ] at E;subst E;exact⟨v,rfl,f2,(aB.1 f2).1,(aB.1 I).1⟩
def pO(e:iA)(S:List aU)(k:Nat):List Nat:=(cA (S.take k)).map (fI e)
theorem aJf(e:iA){S:List aU}{k:Nat}{t:aU}(h:S[k]?=some t):pO e S (k+1)=pO e S k++(if t.alive=true then [fI e t] else []):=by
 obtain⟨z,rfl⟩:=aB.1 h;unfold pO cA;rw[aF z,iM,bF];congr 1;by_cases h:S[k].alive=true
 ·simp[h]
 ·simp[h]
theorem aOw(e:iA)(S:List aU)(k:Nat):(pO e S k).length<=k:=by
 unfold pO cA;rw[aT];exact aR (dZ _ _) (by rw[bR];omega)
theorem aIb(x:ByteArray)(rb sb:Nat)(z:RS)(w:World)(hK:kC w rb D' e own Pa D)(hs:sE w sb z)(W:iE e own Pa D L s z.abs)(hl:(s x).S.length<=40000):
  Calls Tryz.prog 203 #[.pointer (some ⟨rb,0,none⟩),.pointer (some ⟨sb,0,none⟩),.string x] w λr w'=>∃v,r=.returned (.tuple #[v,.bool (s x).alive])/\w'.ownsRow w.heap.size 3 1 v (yC e s x).length (oO (yC e s x))/\Below w.heap.size w w':=by
 obtain⟨hf,a5⟩:=W.last hK x;have HL:=aO (rI x _ rb sb D' z w hK.wv hs hf a5);have HS:=aO hs;have HI:=aO W;clear a5 hf hs;by_cases hz:(s x).by_=lF
 ·have U:=W.zr x hz;have e1:fil e x (s x).by_=-1:=by unfold fil;rw[if_pos hz]
  rw[e1] at HL;have HN:Hid (yC e s x=[]):=by unfold yC Hid;rw[U];simp
  rw[HN.out,U];clear hz e1 U W hK;go_enter Tryz.func203,Tryz.ntmps203
  go_wp2_with (go_at_call 239;refine HL.out.mono ?_;rintro r w1 ⟨rfl,E⟩)
  go_ret2;exact⟨_,rfl,aK _ _ _ _,E⟩
 ·have e1:fil e x (s x).by_=(e.fi x (s x).by_:Nat):=by unfold fil;rw[if_neg hz]
  rw[e1] at HL;obtain⟨rv,r1,r2,r3,r4⟩:=W.row hz;have a1:=aO r1;generalize e.fi x (s x).by_=f at *
  cases U:(s x).alive
  ·have Z:Hid (z.gone[f]?=some true):=by unfold Hid;rw[r2,U];rfl
   have HN:Hid (yC e s x=[]):=by unfold yC Hid;rw[U];simp
   rw[HN.out];clear hz e1 U W hK r1 r2 a1;go_enter Tryz.func203,Tryz.ntmps203
   go_wp2_with (go_at_call 239;refine HL.out.mono ?_;rintro r w1 ⟨rfl,E⟩;obtain⟨ga,gc,g0,J⟩:=(HS.out.below E).gone_;obtain⟨gb,go,rfl,g1⟩:=J _ _ Z.out;clear J)
   go_ret2;exact⟨_,rfl,aK _ _ _ _,E⟩
  ·have Z:Hid (z.gone[f]?=some false):=by unfold Hid;rw[r2,U];rfl
   have HN:Hid (yC e s x=pO e (s x).S (s x).S.length):=by unfold yC pO Hid;rw[U,bD];simp
   rw[HN.out];have HD:Hid (∀(k:Nat) (t:aU),(s x).S[k]?=some t->z.dead[fI e t]?=some (!t.alive)/\fI e t<z.dead.length):=λk t ht=>by
    have:=(W.cell x t (aD ht)).2.2;exact⟨this,(aB.1 this).1⟩
   clear hz e1 U W hK r1 r2 HN HI;generalize a9:(s x).S=S at *;clear a9;obtain⟨i0,hi,b7,b8,b9⟩:=info_parts Tryz.info3;go_enter Tryz.func203,Tryz.ntmps203
   go_wp2_with (go_at_call 239;refine HL.out.mono ?_;rintro r w1 ⟨rfl,E⟩;obtain⟨ga,gc,g0,J⟩:=(HS.out.below E).gone_;obtain⟨gb,go,rfl,g1⟩:=J _ _ Z.out;clear J)
   have a2:=E;clear E g0 g1
   go_loopw [9,10] (λv i wr=>∃k:Nat,k<=S.length/\i=.int .i64 k/\wr.ownsRow w.heap.size 3 1 v (pO e S k).length (oO (pO e S k))/\Below w.heap.size w wr) (λ_ i _=>S.length - (intOf i).toNat)
   case atStart=>exact⟨0,aE _,rfl,by simpa[pO,cA] using aK _ _ _ _,a2⟩
   case round=>
    clear a2;obtain⟨k,hk,rfl,I,E⟩:=hrel;have b6:=E.size;have b5:=aOw e S k;obtain⟨ra,rc,q0,a7⟩:=(HS.out.below E).rows_;obtain⟨b1,o1,rfl,q1,a6⟩:=a7 _ _ _ a1.out;obtain⟨ia,ic,rfl,-,a4⟩:=RI.each a6;rw[aT] at q1;clear a7;by_cases b4:k<S.length
    ·obtain⟨t,ht⟩:∃t,S[k]?=some t:=⟨_,aC b4⟩;obtain⟨b2,o2,rfl,-,q2⟩:=a4 k (fI e t) (by rw[aP,ht];rfl);obtain⟨d1,d2⟩:=HD.out k t ht;obtain⟨da,dc,q3,a3⟩:=(HS.out.below E).dead_;obtain⟨b3,o3,rfl,q4⟩:=a3 _ _ d1;have HT:=aO (aJf e ht);clear a4 a3 ht d1 a6;generalize fI e t=c at *;generalize z.dead.length=nd at *;generalize z.rows.length=nr at *;generalize S.length=n at *
     cases V:t.alive
     ·rw[V] at q4 HT;have a0:Hid (pO e S (k+1)=pO e S k):=by unfold Hid;rw[HT.out];simp
      clear V HT
      go_wp2_with fail
      go_quiet (fail)
      go_wp2
      go_roundw
      case rel=>exact⟨k+1,by omega,by go_num,by rw[a0.out];exact zY I _,below_drewN E _⟩
      case measure=>simp[intOf];omega
     ·rw[V] at q4 HT;have a0:Hid (pO e S (k+1)=pO e S k++[c]):=by unfold Hid;rw[HT.out];simp
      clear V HT;generalize pO e S k=M at *
      go_wp2_with fail
      go_quiet (fail)
      go_wp2_with (at_builtin;refine jL ei3 _ rfl _ _ rfl w.heap.size _ _ _ rfl (zY I _) #[.int .i64 c] rfl rfl (kW [c]) (by omega) (by decide) (by simp;omega) ?_)
      intro v' w2 K hg Y;have b0:=Y _ _ (below_drewN E _) (aA _);have a8:Hid (w2.ownsRow w.heap.size 3 1 v' (M++[c]).length (oO (M++[c]))):=by unfold Hid;simpa[oO] using K
      clear K hg Y I E q0 q1 q2 q3 q4;go_wp2
      go_roundw
      case rel=>exact⟨k+1,by omega,by go_num,by rw[a0.out];exact a8.out,b0⟩
      case measure=>simp[intOf];omega
    ·obtain rfl:k=S.length:=by omega
     generalize z.rows.length=nr at *;go_wp2;go_ret2;exact⟨_,rfl,I,E⟩
theorem aUi{e:iA}{s:ByteArray->PL}{x:ByteArray}{k c:Nat}(h:(yC e s x)[k]?=some c):∃t,(s x).alive=true/\(cA (s x).S)[k]?=some t/\c=fI e t:=by
 unfold yC at h;by_cases z:(s x).alive=true
 ·rw[if_pos z,aP] at h
  cases E:(cA (s x).S)[k]? with
  | none=>rw[E] at h;cases h
  | some t=>rw[E] at h;cases h;exact⟨t,z,rfl,rfl⟩
 ·rw[if_neg z] at h;cases h
theorem nE(S:List aU):aL S=(cA S).map (·.line):=by
 unfold aL living cA;have:=rL S S.length (aA _);rwa[bD] at this
def aSb(s:ByteArray->PL)(x:ByteArray)(k:Nat):ByteArray:=jI (((dR s x).elim [] λ_=>aL (s x).S).take k)
theorem aBt(A:List ByteArray)(l:ByteArray):jI (A++[l])=jI A++l:=by
 apply gL;simp[jI,kK]
theorem lL(x:ByteArray)(rb sb:Nat)(z:RS)(w:World)(K:kC w rb D' e own Pa D)(hs:sE w sb z)(hS:iE e own Pa D L s z.abs)(hl:(s x).S.length<=40000):
  Calls Tryz.prog 142 #[.pointer (some ⟨rb,0,none⟩),.pointer (some ⟨sb,0,none⟩),.string x] w λr w'=>r=.returned (.tuple #[.string ((dR s x).getD ⟨#[]⟩),.bool (dR s x).isSome])/\Below w.heap.size w w':=by
 have HL:=aO (aIb x rb sb z w K hs hS hl);have HK:=aO K;have Y:(yC e s x).length<=40000:=by
  unfold yC;split
  ·rw[aT];exact aR (dZ _ _) hl
  ·simp
 have e0:(dR s x).isSome=(s x).alive:=by unfold dR;cases (s x).alive<;>rfl
 have e9:(dR s x).getD ⟨#[]⟩=aSb s x (yC e s x).length:=by
  unfold aSb yC dR
  cases (s x).alive with
  | false=>rfl
  | true=>
   simp only[if_true,jZ,Option.elim_some];rw[mU (by rw[nE];simp)];rfl
 have HC:Hid (∀(k c:Nat),(yC e s x)[k]?=some c->∃l p,D'.cells[c]?=some (l,p)/\aSb s x (k+1)=aSb s x k++l/\l.size<=1000):=λk c h=>by
  obtain⟨t,ha,ht,rfl⟩:=aUi h;obtain⟨-,-,k2,P,h2,-,-⟩:=(hS.cell x t (cT.1 (aD ht)).1).1;obtain⟨X,hX⟩:=K.ext.cells;have h3:D'.cells[fI e t]?=some (t.line,k2):=by rw[hX];exact kV h2
  refine⟨t.line,k2,h3,?_,(K.ln _ _ _ h3).2⟩;unfold aSb;have e1:dR s x=some (dM (s x).S):=by unfold dR;rw[if_pos ha]
  rw[e1];show jI ((aL (s x).S).take (k+1))=jI ((aL (s x).S).take k)++_;rw[nE];obtain⟨hk,a1⟩:=aB.1 ht;rw[aF (by simpa using hk),aV4,a1,aBt]
 rw[e0,e9];have U:Hid (aSb s x 0=⟨#[]⟩):=rfl;clear e0 e9 hS hs hl;have a0:=aO K.wv;clear K HK;generalize yC e s x=N at *;generalize aSb s x=T at *;generalize (s x).alive=al at *;obtain⟨n,hn⟩:∃n,N.length=n:=⟨_,rfl⟩;rw[hn] at Y HL;rw[hn];have HN:=aO hn;clear hn;go_enter Tryz.func142,Tryz.ntmps142
 go_wp2_with (go_at_call 203;refine HL.out.mono ?_;rintro r w1 ⟨v,rfl,E,J⟩;obtain⟨va,vc,rfl⟩:=bC E)
 have HO:=aO E;have I:=J;clear E J
 go_loopw [10,11] (λtv i wr=>∃k:Nat,k<=n/\i=.int .i64 k/\tv=.string (T k)/\(T k).size<=k * 1000/\Below w1.heap.size w1 wr) (λ_ i _=>n - (intOf i).toNat)
 case atStart=>exact⟨0,aE _,rfl,by rw[U.out],by rw[U.out];decide,Below.refl _ _⟩
 case round=>
  obtain⟨k,hk,rfl,rfl,a6,J⟩:=hrel;by_cases a2:k<n
  ·obtain⟨c,hc⟩:∃c,N[k]?=some c:=⟨_,aC (by rw[HN.out];exact a2)⟩;obtain⟨l,p,hd,ht,a5⟩:=HC.out k c hc;have Z:RI w1 (.slice va n vc) N:=by have:=eJ.own HO.out;rw[<- HN.out] at this ⊢;exact this
   obtain⟨_,_,e1,-,V⟩:=RI.each (eJ.below Z J);rw[HN.out] at e1
   cases e1
   obtain⟨b,o,rfl,-,c1⟩:=V k c hc;obtain⟨da,dc,c2,W⟩:=(a0.out.below (I.trans (J.mono I.size))).cells_;obtain⟨b2,o2,rfl,c3⟩:=W c l p hd;have a4:c<D'.cells.length:=(aB.1 hd).1;have HT:=aO ht;have a3:(T k++l).size<=(k+1) * 1000:=by rw[aN];omega
   clear V W hc hd ht Z;generalize D'.cells.length=nc at *;generalize T k=tk at *
   go_wp2_with fail
   go_quiet (fail)
   go_wp2
   go_roundw
   case rel=>exact⟨k+1,by omega,by go_num,by rw[HT.out],by rw[HT.out];exact a3,below_drewN J _⟩
   case measure=>simp[intOf];omega
  ·obtain rfl:k=n:=by omega
   go_wp2;go_ret2;exact⟨rfl,I.trans (J.mono I.size)⟩
end
end Go.Proofs.YtgdfipmdmgkidaaGreatDoor
