import Derived.Test.YtgdfipmdmgkidaaGreatDoorTdo
import Derived.Test.YtgdfipmdmgkidaaGreatDoorHfil
import Derived.Deep.RegionWith
import Derived.Deep.RegionHeld3
import Derived.Test.YtgdfipmdmgkidaaGreatDoorAl
set_option linter.all false
set_option maxHeartbeats 6400000
set_option maxRecDepth 100000
namespace Go.Proofs.YtgdfipmdmgkidaaGreatDoor
open Go.RowKit
section
variable {w w1 w2 w':World} {B:Nat} {t:Tw} {p:vG} {G:List cL} {D:RD} {e:iA} {own:List ByteArray} {Pa:List PM} {R:iD} {s:ByteArray->PL} {k:Nat}
theorem aZy{r fn:Nat}{z:Value}{E:List PM}{f:ByteArray->Option ByteArray}{n:Nat}(I:∀g,z.ownBlock=some g->(p.rp r).pv.ownBlock=some g\/n<=g){j:Nat}(h:(p.put r ⟨z,E,(p.rp r).fb,fn,f⟩).ft j):p.ft j\/n<=j:=by
 rcases h with h|h|⟨i,hi,h⟩
 ·exact .inl (.inl h)
 ·exact .inl (.inr (.inl h))
 ·by_cases e:i=r
  ·subst e;have h:(p.rp i).fb=j\/z.ownBlock=some j:=by simpa[vG.put] using h
   rcases h with h|h
   ·exact .inl (.inr (.inr ⟨i,hi,.inl h⟩))
   ·exact(I j h).imp (λq=>.inr (.inr ⟨i,hi,.inr q⟩)) id
  ·have h:(p.rp i).fb=j\/(p.rp i).pv.ownBlock=some j:=by simpa[vG.put,e] using h
   exact .inl (.inr (.inr ⟨i,hi,h⟩))
def bBq(G:List cL)(R:iD)(s:ByteArray->PL)(i:cL)(L:List ByteArray)(T:ByteArray)(n:Int):Prop:=∃K,pG K/\(∀x,x∈K↔(if L=[] then (aX R.F x).isSome=true\/(s x).alive=true else x∈L))/\(aTi G (aX R.F) s i L K n\/(n=0/\∃Cs m tt,T=⟨(dK tt Cs.length).toArray⟩/\dG s i (cO (aX R.F) s K) Cs m/\∀k c,Cs[k]?=some c->fU c.2 c.1 (s c.1) (tt k)))
theorem aDx(h:yJ w B t p G e own Pa D k R s)(c:ByteArray)(hc:c.size<=10000000)(hw:dY c=true)(a b c' d:UInt8)(hz:nM a b c' d≠lF)(L:List ByteArray)(hL:∀x∈L,dJ x=true)(hl:bY c=mS::⟨#[a,b,c',d]⟩::L):Calls Tryz.prog 17 #[.pointer (some ⟨t.pb,0,none⟩),.int .i64 k,.string c] w λq w1=>∃T n,q=.returned (.tuple #[.string T,.int .i64 n])/\(0<=n/\n<=1000)/\iG w w1 B t 54 #[.pointer (some ⟨t.rb,0,none⟩),.int .i64 k,.string c] (.tuple #[.string T,.int .i64 n])/\bBq G R s (nM a b c' d) L T n:=by
 have d0:=h.len;have E:=h.ri.rs;have d2:L.length<=240:=by
  have:=aVj hw;rw[hl] at this;simp at this;omega
 obtain⟨K,I,V,b8⟩:∃K,pG K/\(∀x,x∈K↔(if L=[] then (aX R.F x).isSome=true\/(s x).alive=true else x∈L))/\K.length<=300:=by
  by_cases e0:L=[]
  ·obtain⟨K,k1,k2⟩:=E.names;refine⟨K,k1,λx=>by rw[if_pos e0];exact k2 x,?_⟩;have:=E.nlen k1 λx J=>(k2 x).1 J;omega
  ·refine⟨yG L,(mR L).1,λx=>by rw[if_neg e0];exact(mR L).2 x,?_⟩;have:=(tD (mR L).1).length_le_of_subset λx J=>((mR L).2 x).1 J;omega
 have b9:∀x∈K,x.size<=480:=λx J=>by
  have:=(V x).1 J;split at this
  ·exact gR (E.mem this)
  ·exact gR (hL x this)
 have b7:∀x∈K.filter (λx=>(aX R.F x).isSome || (s x).alive),(aX R.F x).isSome=true\/(s x).alive=true:=λx J=>by
  have:=(cT.1 J).2;rwa[vI] at this
 have hi:=aGw a b c' d;have e4:=zZ a b c' d;generalize aO:nM a b c' d=i at *;obtain⟨st,d1,h1,h2,-,-,-⟩:=E.hs.stands;have c7:∀x,(s x).S.length<=1000000/\(dM (s x).S).size<=1000000000:=λx=>by
  obtain⟨z1,z2,z3,z4⟩:=E.sizes x;exact⟨by omega,by omega⟩
 have b5:=aNp h.one h1 h.len h.fn a b c' d L K (by omega) (λx J=>by rw[h2];exact⟨by have:=gR (hL x J);omega,c7 x⟩) I (by rw[h2];exact V) b8 (λx J=>by rw[h2];exact E.name (by have:=b9 x J;omega))
  (by
   rw[h2,aO];intro Cs m Z;rw[aTy] at Z
   exact E.tells Z b7) c hw hl
 rw[h2,aO] at b5;have hG:=h.m.given hi;have a7:=h.m.glen;have d3:=h.m.plen;have d4:=h.pn;have a9:∀(e':iA) (Cs:List (ByteArray×fM)) (m:Nat->Int) (tt:Nat->ByteArray) (w2:World),WO w2 B t.rb D->TwM e' own Pa D G p.nr p.rp->((∀P∈D.pts,P.id≠dT i)->D.pts.length<40->oH (aX R.F) s L->(∃x∈K,cZ (aX R.F) s x=true)->aTk e' D s R K i Cs m tt)->
   Calls Tryz.prog 54 #[.pointer (some ⟨t.rb,0,none⟩),.int .i64 k,.string c] w2 λq w'=>∃T n,q=.returned (.tuple #[.string T,.int .i64 n])/\((T=⟨#[]⟩/\Below w2.heap.size w2 w'/\aE6 D (aX R.F) s (dT i) L K n)\/
   (n=0/\T=⟨(dK tt Cs.length).toArray⟩/\(∀P∈D.pts,P.id≠dT i)/\D.pts.length<40/\oH (aX R.F) s L/\(∃x∈K,cZ (aX R.F) s x=true)/\∃P R',P.id=dT i/\P.chs.length=Cs.length/\(∀(j:Nat) (c:ByteArray×fM) (rc:vH),Cs[j]?=some c->P.chs[j]?=some rc->tN e' c rc)/\R'.F=R.F/\R'.L=R.L++[D.pts.length]/\WO w' B t.rb ((D.plus P Cs).setR k R')/\hJ w2 w' t.rb)):=λe' Cs m tt w2 a5 W c4=>by
  refine aNs k c hc t.rb w2 a5.view h.has hw ⟨#[a,b,c',d]⟩ L hl _ λu v hu hv=>?_;have a6:=a5.below hu;rw[<- e4]
  refine(aL7 i (dT i) L K Cs m tt k B t.rb R (p.rp k).Ps v u a6 (W.seen a6) h.ri.rpo hv (by omega) I V (by omega) (by omega) h.cl h.fl (by rw[e4];show 4<=1000;decide) (λx J=>by
   obtain⟨z1,z2,z3,z4⟩:=E.sizes x;obtain⟨y1,y2,y3⟩:=E.fl x
   exact⟨by omega,by omega,by omega⟩) c4).mono ?_
  rintro q w' ⟨T,n,rfl,⟨rfl,g1,g2⟩|⟨rfl,rfl,g1,g2,g3,g4,P,R',g5,g6,g7,g8,g9,hW,hF⟩⟩
  ·exact⟨_,_,rfl,.inl ⟨rfl,hu.trans (g1.mono hu.size),g2⟩,bU.of_below g1⟩
  ·exact⟨_,_,rfl,.inr ⟨rfl,rfl,g1,g2,g3,g4,P,R',g5,g6,g7,g8,g9,hW,(hJ.ofBelow hu a5.wr.lt).trans hF⟩,(hF.held a6.wr).mono λt ht=>by subst ht;simp[cE]⟩
 refine b5.mono ?_;rintro q w1 ⟨x,n,rfl,⟨rfl,hb,U⟩|⟨rfl,b3,c6,Cs,m,tt,c9,cv,rfl,Z,ht,c8,c1,a2,b2⟩⟩
 ·have U:aTi G (aX R.F) s i L K n:=U;refine⟨_,_,rfl,U.bd,iG.below h.at_ hb λw2 a1=>?_,K,I,V,.inl U⟩;refine(a9 e [] (λ_=>0) (λ_=>⟨#[]⟩) w2 (h.wo.below a1) h.m λq1 q2 q3 q4=>(aJh U hG a7 q1 q2 q3 q4).elim).mono ?_;rintro q w' ⟨T,n',rfl,⟨rfl,g1,g2⟩|⟨rfl,rfl,g1,g2,g3,g4,-⟩⟩
  ·rw[aUs U hG a7 g2];exact⟨rfl,g1⟩
  ·exact(aJh U hG a7 g1 g2 g3 g4).elim
 ·obtain⟨a8,b6,b0⟩:=b3.zero;have a0:∀x∈K,(aX R.F x).isSome=true\/(s x).alive=true:=λx J=>by
   have:=(V x).1 J;split at this
   ·exact this
   ·exact b0 x this
  have a4:i∉Pa.map (·.id):=by rw[h.m.ids];exact a8
  have a3:i∉(p.rp k).Ps.map (·.id):=λq=>by
   obtain⟨P,hP,e1⟩:=aI.1 q;exact a4 (aI.2 ⟨P,tC h.ri.pk hP,e1⟩)
  have b4:=gM.nd I Z;have hE:aCx (e.put D i Cs) D i Cs:=iA.put_at b4;have b1:=E.recB a3 hz I a0 Z hE ht c8;have W:=h.m.env (iA.put_eqOn (e:=e) (D:=D) (Cs:=Cs) a4);generalize e.put D i Cs=e' at *;have hT:Tn p.ft w w1:=⟨a2.os,a2.tape,a2.output,a2.size,λj hj hn=>b2.keep j hj (λq=>hn (.inl q)) (λq=>hn (.inr (.inl q))) λq=>hn (.inr (.inr ⟨k,h.lt,.inr q⟩))⟩;refine⟨_,_,rfl,by omega,⟨hT.mono λj hj=>(h.mm j).2 (.inl hj),λw2 a1=>?_⟩,K,I,V,.inr ⟨rfl,Cs,m,tt,rfl,Z,ht⟩⟩;refine(a9 e' Cs m tt w2 (h.wo.mid h.pw hT a1) W λ_ _ _ _=>b1).mono ?_;rintro q w' ⟨T,n',rfl,⟨rfl,g1,g2⟩|⟨rfl,rfl,g1,g2,g3,g4,Q,R',g5,g6,g7,g8,g9,hW,hF⟩⟩
  ·exfalso;rcases g2 with ⟨_,q⟩|⟨_,⟨_,q⟩|⟨_,⟨_,x,J,q1,q2⟩|⟨_,_,q⟩⟩⟩
   ·exact a8 (hG.2 q)
   ·omega
   ·rcases b0 x J with q|q
    ·rw[q1] at q;cases q
    ·rw[q2] at q;cases q
   ·exact c6 (aSx.2 q)
  ·refine⟨rfl,iO.of (e':=e') (own':=own++(eK Cs).map (·.1)) (Pa':=Pa++[⟨i,cv,Cs⟩]) h.pw h.wo h.mm (nW.of (R:=⟨c9,(p.rp k).Ps++[⟨i,cv,Cs⟩],(p.rp k).fb,(fO R.F).length,aX R.F⟩) h.lt c1) hT (λj hj=>aZy b2.at_ hj) a1 hW hF ?_⟩;obtain⟨l1,l2,l3⟩:=E.lens a3 hz I a0 Z;have d5:=h.ri.len
   have Y:∀c∈Cs,aMr ((Pa++[(⟨i,cv,Cs⟩:PM)]).map (·.id)) c.2/\(∀t∈jS c.2,mM t=i)/\∀j l v S,c.2=.add j l v S->j=i/\(l=lF\/l=(s c.1).by_):=λc hc=>E.chIn a3 hz a0 Z (λj hj=>by
    obtain⟨P,hP,e1⟩:=aI.1 hj;rw[bF]
    exact aG.2 (.inl (aI.2 ⟨P,tC h.ri.pk hP,e1⟩))) (by simp) hc
   refine TwM.plus (P:=⟨i,cv,Cs⟩) (q:=Q) W h.lt h.ri rfl rfl a8 ⟨hi,hz⟩ b6 g8 g9 (E.record (by omega) a3 hz I a0 Z cv) ?_ (h.m.ain.snoc λc hc=>⟨(Y c hc).1,(Y c hc).2.1,λj l v S e9=>((Y c hc).2.2 j l v S e9).1⟩) l2 l3 (by show Cs.length<=205;omega) g6 b1.br;refine W.rel.plus (P:=⟨i,cv,Cs⟩) h.m.ol g5 g6 g7 hE (λj x u hu=>Z.br hu) b4 λc hc j l v S e9=>⟨((Y c hc).2.2 j l v S e9).1,?_⟩;rcases((Y c hc).2.2 j l v S e9).2 with q|q
   ·exact .inl q
   ·rcases qE.by_add _ rfl E.hs.hist c.1 with z|⟨P0,c2,c0,c3,z1,z2,i0,l0,v0,S0,z3⟩
    ·exact .inl (q.trans z)
    ·right;obtain⟨n0,c5⟩:=bI.1 (tC h.ri.pk c2);have:=(W.rel.file n0 P0 c5 c0 c3 i0 l0 v0 S0 z3).1;rw[z1,z2,<- q] at this;exact⟨n0,this⟩
theorem aVc(h:yJ w B t p G e own Pa D k R s)(c:ByteArray)(I:c.size<=10000000)(K:dY c=true)(a b z d:UInt8)(U:nM a b z d≠lF)(L:List ByteArray)(E:∀x∈L,dJ x=true)(J:bY c=mS::⟨#[a,b,z,d]⟩::L):aMs w B t k c:=
 (aDx h c I K a b z d U L E J).mono λq w1 ⟨T,n,g1,g2,g3,_⟩=>⟨T,n,g1,g2,g3⟩
end
def oL:ByteArray:=⟨#[97]⟩
def uZ:ByteArray:=⟨#[120,10,121,10,122,10]⟩
def aIq:ByteArray:=⟨#[97,100,100,32,97,10,43,120,10,43,121,10,43,122,10]⟩
def aTm:ByteArray:=⟨#[114,101,99,111,114,100,32,48,48,48,49]⟩
def uY(x:ByteArray):Option ByteArray:=if x=oL then some uZ else none
theorem aMx:dJ oL=true:=by decide +kernel
theorem aWc:dH uZ=true:=by decide +kernel
theorem aY6:dY aTm=true:=by decide +kernel
theorem aY5:bY aTm=[mS,⟨#[48,48,48,49]⟩]:=by decide +kernel
theorem aWd:pM oL++⟨(eQ ⟨#[43]⟩ (bM uZ)).toArray⟩=aIq:=by decide +kernel
theorem bA6{F:jN}(h:aX F=λ_=>none):F.length=0:=by
 cases F with
 | nil=>rfl
 | cons p F=>
  have:(aX (p::F) p.1).isSome=true:=iQ.2 (by simp[fO]);rw[h] at this
  cases this
theorem bBt{F:jN}(h:aX F=λ_=>none):gZ F oL uZ=0:=by
 unfold gZ;rw[aMx,aWc,bA6 h];simp
theorem aW8{s:ByteArray->PL}(h:qE [] s):s=λ_=>pl0:=by have:=h.chain;first|exact this|exact this.symm
theorem aT1:cZ uY (λ_=>pl0) oL=true:=by decide +kernel
theorem aQ5{R:iD}{s:ByteArray->PL}{i:cL}{T:ByteArray}{n:Int}(h:bBq [] R s i [] T n)(hf:aX R.F=uY)(hs:s=λ_=>pl0):T=aIq/\n=0:=by
 obtain⟨K,h1,h2,V⟩:=h;rw[hf,hs] at h2 V;have Z:K=[oL]:=by
  refine pG.ext h1 (List.pairwise_singleton _ _) λx=>?_;rw[h2 x,if_pos rfl,bE];constructor
  ·rintro(q|q)
   ·unfold uY at q;by_cases e:x=oL
    ·exact e
    ·rw[if_neg e] at q;cases q
   ·cases q
  ·rintro rfl;exact .inl (by unfold uY;rw[if_pos rfl];rfl)
 subst Z;have z:cO uY (λ_=>pl0) [oL]=[⟨oL,true,uZ⟩]:=by
  unfold cO;rw[aD4 aT1];rfl
 rcases V with (⟨q0,q⟩|⟨-,-,q⟩)|⟨rfl,Cs,m,U,rfl,I,ht⟩
 ·rcases q with ⟨q,_⟩|⟨_,q,_⟩|⟨_,_,⟨x,hx,_⟩,_⟩|⟨_,_,_,q⟩
  ·cases q
  ·simp at q
  ·cases hx
  ·exact absurd q q0
 ·rw[z] at q;cases q
 ·refine⟨?_,rfl⟩;rw[z] at I;have hl:=I.len
  match Cs,hl with
  | [c],_=>
   obtain⟨W,J⟩:=I.at_ 0 _ c rfl rfl;have hT:=ht 0 c rfl;obtain⟨x,d⟩:=c
   cases d with
   | add i' l v S=>
    obtain⟨_,_,_,rfl,_⟩:=J;have E:U 0=pM x++gI ⟨#[43]⟩ _:=hT.2;have Y:x=oL:=W;unfold gI at E;rw[iS,Y,aWd] at E;show (⟨(dK U 0++(U 0).data.toList).toArray⟩:ByteArray)=aIq;rw[E];rfl
   | remove i' v S=>cases J.1
   | alter i' v Hs=>cases J.1
def aJe(st:Int)(t:ByteArray):Bool:=if t=aCu\/t=wS\/t=aYm\/t=aSd then decide (st<3) else if t=yW then decide (st<4) else false
def sT(st:Int)(c:ByteArray):Bool:=match bY c with|[]=>false|t::_=>aJe st t
theorem dX.from{w w1 w':World}{B I:Nat}{K:List mX}{T:List Tw}(h:dX w1 B I K T w')(W:Below B w w1):dX w B I K T w':=by
 obtain⟨J,E,z,U,V,a,b,c,d⟩:=h;exact⟨J,E,z,U,V,a,b,c,W.trans d⟩
theorem uE{w w':World}{B I:Nat}{K:List mX}{T:List Tw}(h:dX w B I K T w'):
  Calls Tryz.prog 60 #[.pointer (some ⟨I,1,none⟩)] w' λe U=>e=.returned (.bool true)/\dX w B I K T U:=by
 obtain⟨V,E,z,Y,J,a,b,c,d⟩:=h;refine(aGg B I _ V E z w' J.book (λg Z=>Z)).mono ?_;rintro e w2 ⟨rfl,W⟩;exact⟨rfl,V,E,z,Y,J.below W,a,b,c,d.trans (W.mono J.lo)⟩
theorem aRk(s:ByteArray){B E:Nat}{K:List mX}{lv V:Value}{T:List Tw}{w:World}(h:WA w B E K lv V T)(W:K.length+1<=10000000)(w1:World)(U:Below w.heap.size w w1):
  Calls Tryz.prog 56 #[.pointer (some ⟨E,1,none⟩),.string s] w1 λe w'=>e=.returned (.bool true)/\dX w B E K T w':=by
 have h1:=h.below U;refine(aRj s B E _ K lv V w1 h1.book (λg Z=>Z) h1.lo W).mono ?_;rintro e w2 ⟨rfl,x,J,I,z,Y⟩;exact⟨rfl,_,lv,J,T,h1.booked I (aR h1.lo z.size) z.size Y,by simp,aA _,by omega,(U.mono h.lo).trans z⟩
theorem aP3(s:ByteArray)(hs:s.size<=10000000){B E:Nat}{K:List mX}{lv V:Value}{T:List Tw}{w:World}(h:WA w B E K lv V T)(W:K.length+1<=10000000)(w1:World)(U:Below w.heap.size w w1):
  Calls Tryz.prog 57 #[.pointer (some ⟨E,1,none⟩),.string s] w1 λe w'=>e=.returned (.bool true)/\dX w B E K T w':=by
 have h1:=h.below U;refine(aMm s (by unfold maxLen;omega) B E _ K lv V w1 h1.book (λg Z=>Z) h1.lo W).mono ?_;rintro e w2 ⟨rfl,x,J,I,z,Y⟩;exact⟨rfl,_,lv,J,T,h1.booked I (aR h1.lo z.size) z.size Y,by simp,aA _,by omega,(U.mono h.lo).trans z⟩
theorem aM8(r:Int){B z:Nat}{K:List mX}{lv J:Value}{T:List Tw}{w:World}(h:WA w B z K lv J T)(V:T.length+1<=10000000)(w1:World)(E:Below w.heap.size w w1):
  Calls Tryz.prog 52 #[.pointer (some ⟨z,0,none⟩),.int .i64 r] w1 λe w'=>e=.returned (.bool true)/\dX w B z K T w':=by
 have h1:=h.below E;by_cases Y:r<1\/3<r
 ·refine(aM7 r Y z w1).mono ?_;rintro e w2 ⟨rfl,rfl⟩;exact⟨rfl,dX.below h E⟩
 ·obtain⟨n,rfl,Z,n3⟩:∃n:Nat,r=(n:Int)/\1<=n/\n<=3:=⟨r.toNat,by omega,by omega,by omega⟩;refine(aAo n Z n3 B z K lv J T w1 h1 V).mono ?_;rintro e w2 ⟨rfl,U,t,W,_,I⟩;exact⟨rfl,K,U,J,_,W,by omega,by simp,by simp,(E.mono h.lo).trans I⟩
def aVw(stage:Int):Prop:=∀(w:World) (B:Nat) (t:Tw),lI w B t->∀(r:Int) (c:ByteArray),c.size<=10000000->sT stage c=false->aMs w B t r c
theorem aSh{I:Int}(V:aVw I)(kind on r:Int)(hk:4<=kind/\kind<=9)(s u:ByteArray)(hs:s.size<=10000000)(hl:kind=9->sT I s=false){j:Nat}{t:Tw}{B z:Nat}{K:List mX}{lv kv:Value}{T:List Tw}{w:World}(h:WA w B z K lv kv T)(hK:K.length+1<=10000000)(Y:T[j]?=some t)(w1:World)(Z:Below w.heap.size w w1):
  Calls Tryz.prog 58 #[.pointer (some ⟨z,0,none⟩),twV t,vF kind on r s u] w1 λe w'=>e=.returned (.bool true)/\dX w B z K T w'/\nV w1 w' z:=by
 have h1:=h.below Z;have J:=h1.tw t (aD Y);have one:∀{e:Ending} {w':World},(e=.returned (.bool true)/\∃E,Below w1.heap.size w1 E/\iO E w' B t)->e=.returned (.bool true)/\dX w1 B z K T w'/\nV w1 w' z:=λ{e w'} ⟨e1,E,q1,q2⟩=>⟨e1,dX.done h1 Y q1 q2⟩;have go:Calls Tryz.prog 58 #[.pointer (some ⟨z,0,none⟩),twV t,vF kind on r s u] w1 λe w'=>e=.returned (.bool true)/\dX w1 B z K T w'/\nV w1 w' z:=by
  obtain rfl|rfl|rfl|rfl|rfl|rfl:kind=4\/kind=5\/kind=6\/kind=7\/kind=8\/kind=9:=by omega
  ·exact(yX t on r s u B z w1 J (λE w'=>iO E w' B t) λE U=>aYi (J.below U) r s u hs).mono λe w' q=>one q
  ·exact(aIm t on r s u B z w1 J (λE w'=>iO E w' B t) λE U=>aYg (J.below U) r s hs).mono λe w' q=>one q
  ·exact aIn j t on r s u B z K lv kv T w1 h1 hK Y
  ·exact(aMo t on r s u B z w1 J λE U=>bAa (J.below U) r s hs).mono λe w' q=>one q
  ·exact(aMn t on r s u B z w1 J λE U=>aZ8 (J.below U) r s hs).mono λe w' q=>one q
  ·exact(aSg t on r s u B z w1 J λE U=>V E B t (J.below U) r s hs (hl rfl)).mono λe w' q=>one q
 refine go.mono ?_;rintro e w2 ⟨rfl,hS,W⟩;exact⟨rfl,hS.from (Z.mono h.lo),W⟩
theorem aA4(w:World)(kind on r:Int)(s u:ByteArray):(w.alloc (.cells #[.int .i64 kind,.int .i64 on,.int .i64 r,.string s,.string u] 76)).heap[w.heap.size]?=some (.cells #[.int .i64 kind,.int .i64 on,.int .i64 r,.string s,.string u] 76 (0,0)):=by
 show (w.heap.push _)[w.heap.size]?=_;rw[gF,if_pos rfl]
theorem sY{w:World}{g:Nat}{kind on r:Int}{s u:ByteArray}(h:w.heap[g]?=some (.cells #[.int .i64 kind,.int .i64 on,.int .i64 r,.string s,.string u] 76 (0,0))):
  w.cell? ⟨g,0,none⟩=some (.int .i64 kind)/\w.cell? ⟨g,1,none⟩=some (.int .i64 on)/\w.cell? ⟨g,2,none⟩=some (.int .i64 r)/\w.cell? ⟨g,3,none⟩=some (.string s)/\w.cell? ⟨g,4,none⟩=some (.string u):=by
 simp[World.cell?,h]
theorem aPf(on r:Int)(s u:ByteArray)(B E:Nat)(K:List mX)(lv kv:Value)(T:List Tw)(w:World)(h:WA w B E K lv kv T)(Y:K.length+1<=10000000):
  Calls Tryz.prog 38 #[.pointer (some ⟨E,0,none⟩),vF 1 on r s u] w λe w'=>e=.returned (.bool true)/\dX w B E K T w':=by
 unfold vF;obtain⟨U,z⟩:∃U,U=w.alloc (.cells #[.int .i64 1,.int .i64 on,.int .i64 r,.string s,.string u] 76):=⟨_,rfl⟩;have Z:Hid (Below w.heap.size w U.drew):=by show Below _ _ _;rw[z];exact((Below.refl _ _).alloc (aA _) _).drew
 obtain⟨d0,d1,d2,d3,d4⟩:=sY (by rw[z];exact aA4 w 1 on r s u:U.heap[w.heap.size]?=_);have HS:Hid (∀w1,Below w.heap.size w w1->Calls Tryz.prog 56 #[.pointer (some ⟨E,1,none⟩),.string s] w1 λe w'=>e=.returned (.bool true)/\dX w B E K T w'):=aRk s h Y;clear h Y;go_enter Tryz.func38,Tryz.ntmps38
 go_wp2_with fail
 rw[<- z];clear z
 go_region_with (first|(go_at_call 56;refine(HS.out _ Z.out).mono ?_;rintro e w1 ⟨rfl,I⟩))
 have V:Hid (dX w B E K T w1):=I;clear I d0 d1 d2 d3 d4
 go_wp2_with fail
 refine(uE V.out).mono ?_;rintro e w2 ⟨rfl,J⟩;have W:Hid (dX w B E K T w2):=J;clear J;go_wp2;go_ret;exact⟨cB (by simp),W.out⟩
theorem aL3(on r:Int)(s u:ByteArray)(hs:s.size<=10000000)(B E:Nat)(K:List mX)(lv kv:Value)(T:List Tw)(w:World)(h:WA w B E K lv kv T)(Y:K.length+1<=10000000):
  Calls Tryz.prog 38 #[.pointer (some ⟨E,0,none⟩),vF 2 on r s u] w λe w'=>e=.returned (.bool true)/\dX w B E K T w':=by
 unfold vF;obtain⟨U,z⟩:∃U,U=w.alloc (.cells #[.int .i64 2,.int .i64 on,.int .i64 r,.string s,.string u] 76):=⟨_,rfl⟩;have Z:Hid (Below w.heap.size w U.drew):=by show Below _ _ _;rw[z];exact((Below.refl _ _).alloc (aA _) _).drew
 obtain⟨d0,d1,d2,d3,d4⟩:=sY (by rw[z];exact aA4 w 2 on r s u:U.heap[w.heap.size]?=_);have HS:Hid (∀w1,Below w.heap.size w w1->Calls Tryz.prog 57 #[.pointer (some ⟨E,1,none⟩),.string s] w1 λe w'=>e=.returned (.bool true)/\dX w B E K T w'):=aP3 s hs h Y;clear h Y;go_enter Tryz.func38,Tryz.ntmps38
 go_wp2_with fail
 rw[<- z];clear z
 go_region_with (first|(go_at_call 57;refine(HS.out _ Z.out).mono ?_;rintro e w1 ⟨rfl,I⟩))
 have V:Hid (dX w B E K T w1):=I;clear I d0 d1 d2 d3 d4
 go_wp2_with fail
 refine(uE V.out).mono ?_;rintro e w2 ⟨rfl,J⟩;have W:Hid (dX w B E K T w2):=J;clear J;go_wp2;go_ret;exact⟨cB (by simp),W.out⟩
theorem aL2(on r:Int)(s u:ByteArray)(B E:Nat)(K:List mX)(lv kv:Value)(T:List Tw)(w:World)(h:WA w B E K lv kv T)(Y:T.length+1<=10000000):
  Calls Tryz.prog 38 #[.pointer (some ⟨E,0,none⟩),vF 3 on r s u] w λe w'=>e=.returned (.bool true)/\dX w B E K T w':=by
 unfold vF;obtain⟨U,z⟩:∃U,U=w.alloc (.cells #[.int .i64 3,.int .i64 on,.int .i64 r,.string s,.string u] 76):=⟨_,rfl⟩;have Z:Hid (Below w.heap.size w U):=by show Below _ _ _;rw[z];exact(Below.refl _ _).alloc (aA _) _
 obtain⟨d0,d1,d2,d3,d4⟩:=sY (by rw[z];exact aA4 w 3 on r s u:U.heap[w.heap.size]?=_);have HS:Hid (∀w1,Below w.heap.size w w1->Calls Tryz.prog 52 #[.pointer (some ⟨E,0,none⟩),.int .i64 r] w1 λe w'=>e=.returned (.bool true)/\dX w B E K T w'):=aM8 r h Y;clear h Y;go_enter Tryz.func38,Tryz.ntmps38
 go_wp2_with fail
 rw[<- z];clear z;refine(HS.out _ Z.out).mono ?_;rintro e w1 ⟨rfl,I⟩;have V:Hid (dX w B E K T w1):=I;clear I d0 d1 d2 d3 d4
 go_wp2_with fail
 refine(uE V.out).mono ?_;rintro e w2 ⟨rfl,J⟩;have W:Hid (dX w B E K T w2):=J;clear J;go_wp2;go_ret;exact⟨cB (by simp),W.out⟩
theorem aJt(c:Int)(n:Nat)(z:1<=n):∃k:Nat,k<n/\c % (n:Int)=(k:Int):=by
 have h1:=Int.emod_nonneg c (b:=(n:Int)) (by omega);have h2:=Int.emod_lt_of_pos c (b:=(n:Int)) (by omega);exact⟨(c % (n:Int)).toNat,by omega,by omega⟩
theorem aR0(c:Int)(n:Nat)(J:1<=n)(U:n<=10000000)(Y:-9223372036854775808<=c)(h1:c<=9223372036854775807):
  ∃k:Nat,k<n/\∀w,Calls Tryz.prog 59 #[.int .i64 c,.int .i64 n] w λe w'=>e=.returned (.int .i64 k)/\w'=w:=by
 have W:((n:Nat):Int)≠0:=by omega
 have V:(((n:Nat):Int) == 0)=false:=by simp;omega
 by_cases K:c<0
 ·obtain⟨k,z,e⟩:=aJt (-(c+1)) n J;have I:-((c+1).tmod (n:Int))=(-(c+1)) % (n:Int):=by rw[<- Int.neg_tmod,Int.tmod_eq_emod_of_nonneg (by omega)]
  have E:Hid (-((c+1).tmod (n:Int))=(k:Int)):=I.trans e;clear e I;refine⟨k,z,λw=>?_⟩;clear z;go_enter Tryz.func59,Tryz.ntmps59;go_wp2;go_ret;exact⟨fW E.out,rfl⟩
 ·obtain⟨k,z,e⟩:=aJt c n J;have E:Hid (c % (n:Int)=(k:Int)):=e;clear e;refine⟨k,z,λw=>?_⟩;clear z;go_enter Tryz.func59,Tryz.ntmps59;go_wp2;go_ret;exact⟨fW E.out,rfl⟩
theorem bAb{T:List Tw}{k:Nat}{t:Tw}(z:T[k]?=some t)(j:Nat)(E:j<2):(T.flatMap Tw.cells)[k * 2+j]?=t.cells[j]?:=by
 induction T generalizing k with
 | nil=>simp at z
 | cons a K ih=>
  rw[bL]
  cases k with
  | zero=>
   simp at z;subst z;rw[aZ (by simp[Tw.cells];omega)];simp
  | succ k=>
   rw[bH (by simp[Tw.cells];omega)];have e:(k+1) * 2+j - a.cells.length=k * 2+j:=by simp[Tw.cells];omega
   rw[e];exact ih (by simpa using z)
theorem aAf{w:World}{B:Nat}{v:Value}{T:List Tw}(h:w.ownsRow B 99 2 v T.length (T.flatMap Tw.cells))(h1:1<=T.length):
  ∃g cap,v=.slice (some ⟨g,0,none⟩) T.length cap/\∀j t,T[j]?=some t->w.cell? ⟨g,j * 2,none⟩=some (.pointer (some ⟨t.pb,0,none⟩))/\w.cell? ⟨g,j * 2+1,none⟩=some (.pointer (some ⟨t.rb,0,none⟩)):=by
 rcases h.2 with ⟨_,Y⟩|⟨g,cap,E,rfl,J,V,W,K,U,z⟩
 ·omega
 ·refine⟨g,cap,rfl,λj t I=>?_⟩;have Z:=(aB.1 I).1;have c:∀i,i<2->w.cell? ⟨g,j * 2+i,none⟩=t.cells[i]?:=λi hi=>by
   have e:(E.toList.take (T.length * 2))[j * 2+i]?=t.cells[i]?:=by rw[z];exact bAb I i hi
   rw[aQb,if_pos (by omega),tE] at e;simp[World.cell?,V,e]
  exact⟨c 0 (by omega),c 1 (by omega)⟩
theorem aJv(kind on r:Int)(hk:4<=kind/\kind<=9)(ho:-9223372036854775808<=on/\on<=9223372036854775807)(s u:ByteArray)(B z:Nat)(K:List mX)(lv kv:Value)(T:List Tw)(w:World)(h:WA w B z K lv kv T)(hT:1<=T.length)
  (Q:World->Prop) (hQ:∀(j:Nat) (t:Tw),T[j]?=some t->∀w1,Below w.heap.size w w1->Calls Tryz.prog 58 #[.pointer (some ⟨z,0,none⟩),twV t,vF kind on r s u] w1 λe w'=>e=.returned (.bool true)/\Q w'/\nV w1 w' z)
  (hL:∀w',Q w'->Calls Tryz.prog 60 #[.pointer (some ⟨z,1,none⟩)] w' λe a1=>e=.returned (.bool true)/\Q a1) :
  Calls Tryz.prog 38 #[.pointer (some ⟨z,0,none⟩),vF kind on r s u] w λe w'=>e=.returned (.bool true)/\Q w':=by
 unfold vF;obtain⟨V,U⟩:∃V,V=w.alloc (.cells #[.int .i64 kind,.int .i64 on,.int .i64 r,.string s,.string u] 76):=⟨_,rfl⟩;have HB:Hid (Below w.heap.size w V):=by show Below _ _ _;rw[U];exact(Below.refl _ _).alloc (aA _) _
 have a0:V.heap[w.heap.size]?=some (.cells #[.int .i64 kind,.int .i64 on,.int .i64 r,.string s,.string u] 76 (0,0)):=by rw[U];exact aA4 w kind on r s u
 have a2:Hid (V.heap[w.heap.size]?=some (.cells #[.int .i64 kind,.int .i64 on,.int .i64 r,.string s,.string u] 76 (0,0))):=a0;obtain⟨d0,d1,d2,d3,d4⟩:=sY a0;have a5:=h.few;have Y:=h.below HB.out;have Z:V.cell? ⟨z,0,none⟩=some lv:=(gW Y.book.cell).1;have J:=Y.row;obtain⟨g,lc,rfl,a4⟩:=aAf J hT;obtain⟨k,a6,I⟩:=aR0 on T.length hT a5 ho.1 ho.2;have W:T[k]?=some T[k]:=aC a6;obtain⟨q1,q2⟩:=a4 k _ W;have HG:Hid (vJ V (λt=>t=76\/t=99) g):=qN (S:=λt=>t=76\/t=99) J (Or.inr rfl) rfl;have HS:Hid (∀w1,Below w.heap.size w w1->Calls Tryz.prog 58 #[.pointer (some ⟨z,0,none⟩),twV T[k],vF kind on r s u] w1 λe w'=>e=.returned (.bool true)/\Q w'/\nV w1 w' z):=hQ k _ W;have HP:Hid (∀w,Calls Tryz.prog 59 #[.int .i64 on,.int .i64 T.length] w λe w'=>e=.returned (.int .i64 k)/\w'=w):=I;have HL:Hid (∀w',Q w'->Calls Tryz.prog 60 #[.pointer (some ⟨z,1,none⟩)] w' λe a1=>e=.returned (.bool true)/\Q a1):=hL;have a7:Hid (Below w.heap.size w V.drew):=HB.out.drew;generalize T[k]=t at *;clear h Y J a4 W hQ hL I a0;have b0:(0:Int)<=(k:Int):=Int.natCast_nonneg _;have b1:(k:Int)<(T.length:Int):=Int.ofNat_lt.2 a6;have e1:¬ (kind=1):=by omega
 have e2:¬ (kind=2):=by omega
 have e3:¬ (kind=3):=by omega
 have f1:(kind == 1)=false:=by simpa using e1
 have f2:(kind == 2)=false:=by simpa using e2
 have f3:(kind == 3)=false:=by simpa using e3
 generalize T.length=n at *;go_enter Tryz.func38,Tryz.ntmps38
 go_wp2_with fail
 rw[<- U];clear U
 go_region_held3 (λw'=>w'.cell? ⟨z,0,none⟩=some (.slice (some ⟨g,0,none⟩) n lc)/\w'.cell? ⟨g,k * 2,none⟩=some (.pointer (some ⟨t.pb,0,none⟩))/\w'.cell? ⟨g,k * 2+1,none⟩=some (.pointer (some ⟨t.rb,0,none⟩))/\w'.cell? ⟨w.heap.size,0,none⟩=some (.int .i64 kind)/\w'.cell? ⟨w.heap.size,1,none⟩=some (.int .i64 on)/\w'.cell? ⟨w.heap.size,2,none⟩=some (.int .i64 r)/\w'.cell? ⟨w.heap.size,3,none⟩=some (.string s)/\w'.cell? ⟨w.heap.size,4,none⟩=some (.string u))
  (first|exact KP.out|exact⟨Z,q1,q2,d0,d1,d2,d3,d4⟩|go_keep)
  (first
   | (go_at_call 59;refine(HP.out _).mono ?_;rintro e w1 ⟨rfl,rfl⟩)
   | (go_at_call 58;refine(HS.out _ a7.out).mono ?_;rintro e w1 ⟨rfl,a3,E⟩;have KP:Hid (w1.cell? ⟨z,0,none⟩=some (.slice (some ⟨g,0,none⟩) n lc)/\w1.cell? ⟨g,k * 2,none⟩=some (.pointer (some ⟨t.pb,0,none⟩))/\w1.cell? ⟨g,k * 2+1,none⟩=some (.pointer (some ⟨t.rb,0,none⟩))/\w1.cell? ⟨w.heap.size,0,none⟩=some (.int .i64 kind)/\w1.cell? ⟨w.heap.size,1,none⟩=some (.int .i64 on)/\w1.cell? ⟨w.heap.size,2,none⟩=some (.int .i64 r)/\w1.cell? ⟨w.heap.size,3,none⟩=some (.string s)/\w1.cell? ⟨w.heap.size,4,none⟩=some (.string u)):=⟨E.2.trans Z,(nX (E.1 g HG.out)).trans q1,(nX (E.1 g HG.out)).trans q2,sY ((E.1 w.heap.size ⟨_,76,a2.out,Or.inl rfl⟩).trans a2.out)⟩))
 have a8:Hid (Q w1):=a3;clear a3 E KP d0 d1 d2 d3 d4 q1 q2 Z
 go_wp2_with fail
 refine(HL.out _ a8.out).mono ?_;rintro e w2 ⟨rfl,a9⟩;go_wp2;go_ret;exact⟨cB (by simp),a9⟩
theorem aPg{z:Int}(I:aVw z)(kind on r:Int)(J:4<=kind/\kind<=9)(ho:-9223372036854775808<=on/\on<=9223372036854775807)(s u:ByteArray)(hs:s.size<=10000000)(hl:kind=9->sT z s=false)(B E:Nat)(K:List mX)(lv U:Value)(T:List Tw)(w:World)(h:WA w B E K lv U T)(Y:1<=T.length)(V:K.length+1<=10000000):
  Calls Tryz.prog 38 #[.pointer (some ⟨E,0,none⟩),vF kind on r s u] w λe w'=>e=.returned (.bool true)/\dX w B E K T w':=
 aJv kind on r J ho s u B E K lv U T w h Y _ (λ_ _ hj w1 Z=>aSh I kind on r J s u hs hl h V hj w1 Z) (λ_ W=>uE W)
structure aY3 (kind on r:Int) (s u:ByteArray):Prop where
 on1:-9223372036854775808<=on
 on2:on<=9223372036854775807
 s1:s.size<=10000000
 kind1:-9223372036854775808<=kind
 kind2:kind<=9223372036854775807
theorem aJu{z:Int}(U:aVw z)(kind on r:Int)(hk:1<=kind/\kind<=9)(s u:ByteArray)(J:aY3 kind on r s u)(hl:kind=9->sT z s=false)(B E:Nat)(K:List mX)(lv I:Value)(T:List Tw)(w:World)(h:WA w B E K lv I T)(Z:1<=T.length)(W:T.length+1<=10000000)(V:K.length+1<=10000000):
  Calls Tryz.prog 38 #[.pointer (some ⟨E,0,none⟩),vF kind on r s u] w λe w'=>e=.returned (.bool true)/\dX w B E K T w':=by
 by_cases Y:4<=kind
 ·exact aPg U kind on r ⟨Y,hk.2⟩ ⟨J.on1,J.on2⟩ s u J.s1 hl B E K lv I T w h Z V
 ·obtain rfl|rfl|rfl:kind=1\/kind=2\/kind=3:=by omega
  ·exact aPf on r s u B E K lv I T w h V
  ·exact aL3 on r s u J.s1 B E K lv I T w h V
  ·exact aL2 on r s u B E K lv I T w h W
def aSq(w:World)(B bb:Nat)(K:List mX)(lv kv:Value)(t:Tw)(w':World):Prop:=∃M',WA w' B bb K lv kv [⟨t.pb,t.rb,M'⟩]/\TwF w' B ⟨t.pb,t.rb,M'⟩ uY/\Below B w w'/\nV w w' bb
theorem aP2{w w':World}{B E:Nat}{K:List mX}{lv J:Value}{t:Tw}(h:aSq w B E K lv J t w'):
  Calls Tryz.prog 60 #[.pointer (some ⟨E,1,none⟩)] w' λe U=>e=.returned (.bool true)/\aSq w B E K lv J t U:=by
 obtain⟨V,I,W,Y,hk⟩:=h;refine(aGg B E _ K lv J w' I.book (λg Z=>Z)).mono ?_;rintro e w2 ⟨rfl,z⟩;exact⟨rfl,V,I.below z,W.below z,Y.trans (z.mono I.lo),hk.trans (nV.below z I.bbl)⟩
theorem aL1(t:Tw)(B z:Nat)(K:List mX)(lv V:Value)(w:World)(h:WA w B z K lv V [t])(hF:TwF w B t (λ_=>none)):
  Calls Tryz.prog 38 #[.pointer (some ⟨z,0,none⟩),vF 4 0 0 oL uZ] w λe w'=>e=.returned (.bool true)/\aSq w B z K lv V t w':=by
 refine aJv 4 0 0 (by omega) (by omega) oL uZ B z K lv V [t] w h (by simp) (aSq w B z K lv V t) ?_ (λw' hw=>aP2 hw);intro j u hj w1 U;obtain⟨hl,e⟩:=aB.1 hj;have Z:j=0:=by simp at hl;exact hl
 subst Z;simp at e;subst e;have h1:=h.below U;refine(yX t 0 0 oL uZ B z w1 (h1.tw t (by simp)) (λW w'=>∃E,TwF w' B ⟨t.pb,t.rb,E⟩ uY/\Tn t.M W w'/\∀j,E j->t.M j\/W.heap.size<=j) λW I=>?_).mono ?_
 ·obtain⟨p,e,own,D,R,s,hT,e1⟩:=(hF.below U).below I;refine(aHk hT oL uZ (by decide) (bBt e1)).mono ?_;rintro q w2 ⟨rfl,g1,g2⟩;refine⟨0,rfl,by omega,g1,λw3 h3=>(g2 w3 h3).mono ?_⟩;rintro q w4 ⟨rfl,E,p',D',R',Y,J,z3,z4⟩;refine⟨rfl,E,⟨p',e,own,D',R',s,Y,?_⟩,z3,z4⟩;rw[J,e1];rfl
 ·rintro e w2 ⟨rfl,W,I,E,Y,J,z3⟩;have h2:=h1.below I;have ht:=h2.tw t (by simp);have hk:nV w1 w2 z:=(nV.below I h1.bbl).trans (nV.tn ht J h2.book.cell);exact⟨rfl,⟨E,h2.doneM (j:=0) rfl Y.at_ J z3,Y,((U.mono h.lo).trans (I.mono h1.lo)).trans (J.below (λk q=>(ht.hot q).1) h2.lo),(nV.below U h.bbl).trans hk⟩,hk⟩
theorem aIl{w:World}{B:Nat}{t:Tw}(h:TwF w B t uY):Calls Tryz.prog 50 #[.pointer (some ⟨t.pb,0,none⟩),.int .i64 0,.string oL] w λq w'=>q=.returned (.tuple #[.string uZ,.int .i64 0])/\Below w.heap.size w w':=by
 obtain⟨p,e,own,D,R,s,z,I⟩:=h;have E:=z.pw.2 0 z.lt;rw[z.ri.f,I] at E;have:=aHe E oL;have J:mN uY oL=(uZ,0):=by
  unfold mN;rw[aMx];rfl
 rw[J] at this;exact this
theorem aM6(B U:Nat)(lv kv:Value)(w:World)(h:WA w B U [] lv kv []):
  Calls Tryz.prog 35 #[.pointer (some ⟨U,0,none⟩)] w λe w'=>e=.returned (.bool true)/\∃b6 b5 t,WA w' B U [] b6 b5 [t]/\TwF w' B t uY/\Below B w w':=by
 have HW:=aO h;clear h;go_enter Tryz.func35,Tryz.ntmps35
 go_wp2_with fail
 refine(aAo 2 (by omega) (by omega) B U [] lv kv [] _ HW.out (by simp)).mono ?_;rintro e w1 ⟨rfl,b7,t,a2,a0,a4⟩;have z:WA w1 B U [] b7 kv [t]:=a2;obtain⟨g,lc,rfl,a6⟩:=aAf z.row (by simp);obtain⟨q1,q2⟩:=a6 0 t rfl;have b4:w1.cell? ⟨U,0,none⟩=some (.slice (some ⟨g,0,none⟩) 1 lc):=(gW z.book.cell).1;have Y:=aO z;have a8:=aO a4;have b1:=aO a0;have p1:w1.cell? ⟨g,0,none⟩=some (.pointer (some ⟨t.pb,0,none⟩)):=q1;have p2:w1.cell? ⟨g,1,none⟩=some (.pointer (some ⟨t.rb,0,none⟩)):=q2;clear a2 z a4 a0 a6 q1 q2;obtain⟨wb,I⟩:∃wb,wb=w1.alloc (.cells #[.pointer (some ⟨t.pb,0,none⟩),.pointer (some ⟨t.rb,0,none⟩)] 99):=⟨_,rfl⟩;have K:Hid (Below w1.heap.size w1 wb):=by show Below _ _ _;rw[I];exact(Below.refl _ _).alloc (aA _) _
 have V:Hid (wb.heap[w1.heap.size]?=some (.cells #[.pointer (some ⟨t.pb,0,none⟩),.pointer (some ⟨t.rb,0,none⟩)] 99 (0,0))):=by
  show _=_;rw[I];show (w1.heap.push _)[w1.heap.size]?=_;rw[gF,if_pos rfl]
 go_wp2_with fail
 rw[<- I];clear I;refine(aL1 t B U [] _ kv wb (Y.out.below K.out) (b1.out.below K.out)).mono ?_;rintro e w2 ⟨rfl,M',a3,a1,a5,a7⟩;have J:w2.heap[w1.heap.size]?=some (.cells #[.pointer (some ⟨t.pb,0,none⟩),.pointer (some ⟨t.rb,0,none⟩)] 99 (0,0)):=(a7.1 _ ⟨_,99,V.out,Or.inr rfl⟩).trans V.out;have z0:w2.cell? ⟨w1.heap.size,0,none⟩=some (.pointer (some ⟨t.pb,0,none⟩)):=(gW J).1;have Z:=aO a3;have W:=aO a1;have a9:Hid (Below B w w2):=(a8.out.trans (K.out.mono Y.out.lo)).trans a5;clear a3 a1 a5 a7 J b4 p1 p2
 go_wp2_with fail
 refine(aIl W.out).mono ?_;rintro e w3 ⟨rfl,E⟩;have b3:=aO (Z.out.below E);have b2:=aO (W.out.below E);have b0:Hid (Below B w w3):=a9.out.trans (E.mono Z.out.lo);clear E z0;unfold uZ
 go_wp2_with (go_at_call 53;refine(kN _ _ (by omega) (by omega)).mono ?_;rintro e w' ⟨rfl,rfl⟩)
 go_ret;exact⟨cB (by simp),_,_,_,b3.out,b2.out,b0.out⟩
theorem aKy{w:World}{B:Nat}{t:Tw}(h:TwF w B t uY):Calls Tryz.prog 17 #[.pointer (some ⟨t.pb,0,none⟩),.int .i64 0,.string aTm] w λq w1=>q=.returned (.tuple #[.string aIq,.int .i64 0])/\iG w w1 B t 54 #[.pointer (some ⟨t.rb,0,none⟩),.int .i64 0,.string aTm] (.tuple #[.string aIq,.int .i64 0]):=by
 obtain⟨p,e,own,D,R,s,E,I⟩:=h;have J:=E.ri.len;have z:(p.rp 0).Ps=[]:=aS (by simpa using J);have hs:s=λ_=>pl0:=by
  have:=E.ri.rs.hs.hist;rw[z] at this;exact aW8 this
 refine(aDx E aTm (by decide) aY6 48 48 48 49 (by decide) [] (λx V=>by cases V) aY5).mono ?_;rintro q w1 ⟨T,n,rfl,-,K,U⟩;obtain⟨rfl,rfl⟩:=aQ5 U I hs;exact⟨rfl,K⟩
theorem aGy(B z:Nat)(lv W:Value)(t:Tw)(w:World)(h:WA w B z [] lv W [t])(hF:TwF w B t uY):
  Calls Tryz.prog 36 #[.pointer (some ⟨z,0,none⟩)] w λe w'=>e=.returned (.bool true)/\∃T,WA w' B z [] lv W T/\T.length=1/\Below B w w':=by
 obtain⟨g,Y,rfl,I⟩:=aAf h.row (by simp);obtain⟨q1,q2⟩:=I 0 t rfl;have E:w.cell? ⟨z,0,none⟩=some (.slice (some ⟨g,0,none⟩) 1 Y):=(gW h.book.cell).1;have p1:w.cell? ⟨g,0,none⟩=some (.pointer (some ⟨t.pb,0,none⟩)):=q1;have p2:w.cell? ⟨g,1,none⟩=some (.pointer (some ⟨t.rb,0,none⟩)):=q2;have ht:=h.tw t (by simp);have Z:Hid (vJ w (λx=>x=76\/x=99) g):=qN (S:=λx=>x=76\/x=99) h.row (.inr rfl) rfl;have K:=aO (aKy hF);unfold aTm at K;have HW:=aO h;have HT:=aO ht;clear h hF I q1 q2 ht;go_enter Tryz.func36,Tryz.ntmps36
 go_wp2_with fail
 refine K.out.mono ?_;rintro e w1 ⟨rfl,V⟩;have J:nV w w1 z:=nV.tn HT.out V.1 HW.out.book.cell;have c1:w1.cell? ⟨z,0,none⟩=some (.slice (some ⟨g,0,none⟩) 1 Y):=J.2.trans E;have r1:w1.cell? ⟨g,0,none⟩=some (.pointer (some ⟨t.pb,0,none⟩)):=(nX (J.1 g Z.out)).trans p1;have r2:w1.cell? ⟨g,1,none⟩=some (.pointer (some ⟨t.rb,0,none⟩)):=(nX (J.1 g Z.out)).trans p2;have HM:=aO (V.2 w1 (Below.refl _ _));clear V J E p1 p2 K
 go_wp2_with fail
 refine HM.out.mono ?_;rintro e w2 ⟨rfl,U⟩;have HE:Hid (∃T,WA w2 B z [] (.slice (some ⟨g,0,none⟩) 1 Y) W T/\T.length=1/\Below B w w2):=by
  obtain⟨T',e1,h1⟩:=HW.out.done (j:=0) rfl U;obtain⟨M',-,hT,-⟩:=U;exact⟨T',h1,e1,hT.below (λk q=>(HT.out.hot q).1) HW.out.lo⟩
 clear U HM c1 r1 r2;unfold aIq
 go_wp2_with (go_at_call 53;refine(kN _ _ (by omega) (by omega)).mono ?_;rintro e w' ⟨rfl,rfl⟩)
 go_ret;exact⟨cB (by simp),HE.out⟩
def aBn(s t:ByteArray):Prop:=(bY s=[]/\t=⟨#[]⟩)\/∃l,bY s=t::l
theorem bA1(s:ByteArray)(k:Nat):s.extract k k=⟨#[]⟩:=by
 apply gL;simp
theorem aN2{s:ByteArray}{k m:Nat}(J:k<=m)(K:m<=s.size)(h1:∀i,i<k->gb s i=32)(h2:∀i,k<=i->i<m->gb s i≠32)(z:m<s.size->gb s m=32)(I:k<s.size->gb s k≠32):aBn s (s.extract k m):=by
 by_cases e:k=m
 ·subst e;by_cases E:k<s.size
  ·exact absurd (z E) (I E)
  ·left;rw[bA1];exact⟨aS8 s λi hi=>h1 i (by omega),rfl⟩
 ·exact .inr (aQ6 s k m (by omega) K h1 h2 z)
theorem aSf(s:ByteArray)(hs:s.size<=10000000)(w:World):
  Calls Tryz.prog 55 #[.string s] w λe w'=>∃t,e=.returned (.string t)/\aBn s t/\w'=w:=by
 go_enter Tryz.func55,Tryz.ntmps55;go_wp2
 go_loop [3] (λi=>∃k:Nat,k<=s.size/\Hid (∀i,i<k->gb s i=32)/\i=.int .i64 k) (λi=>s.size - (intOf i).toNat)
 case atStart=>exact⟨0,aE _,λi hi=>by omega,rfl⟩
 case round=>
  obtain⟨k,hk,K,rfl⟩:=hrel;by_cases J:k<s.size
  ·cases W:((s[k].toNat:Int) == 32)
   ·have Y:Hid (k<s.size->gb s k≠32):=λ_ e=>by
     rw[<- gT s k J] at e;rw[e] at W
     cases W
    go_wp2
    go_loop [4] (λi=>∃m:Nat,k<=m/\m<=s.size/\Hid (∀i,k<=i->i<m->gb s i≠32)/\i=.int .i64 m) (λi=>s.size - (intOf i).toNat)
    case atStart=>exact⟨k,aA _,hk,λi h1 h2=>by omega,rfl⟩
    case round=>
     obtain⟨m,E,Z,U,rfl⟩:=hrel;by_cases z:m<s.size
     ·cases I:((s[m].toNat:Int) != 32)
      ·have H5:Hid (gb s m=32):=by
        show _=_;rw[<- gT s m z];have:(s[m].toNat:Int)=32:=by simpa using I
        omega
       go_wp2;go_ret;exact⟨_,rfl,aN2 E Z K.out U.out (λ_=>H5.out) Y.out,rfl⟩
      ·have V:Hid (gb s m≠32):=λe=>by
        rw[<- gT s m z] at e;rw[e] at I
        cases I
       go_wp2
       go_round
       case rel=>exact⟨m+1,by omega,by omega,λi h1 h2=>by
        by_cases e:i=m
        ·subst e;exact V.out
        ·exact U.out i h1 (by omega),by go_num⟩
       case measure=>simp[intOf];omega
     ·go_wp2;go_ret;exact⟨_,rfl,aN2 E Z K.out U.out (λq=>absurd q z) Y.out,rfl⟩
   ·have V:Hid (gb s k=32):=by
     show _=_;rw[<- gT s k J];have:(s[k].toNat:Int)=32:=by simpa using W
     omega
    go_wp2
    go_round
    case rel=>exact⟨k+1,by omega,λi h1=>by
     by_cases e:i=k
     ·subst e;exact V.out
     ·exact K.out i (by omega),by go_num⟩
    case measure=>simp[intOf];omega
  ·go_wp2
   go_loop [4] (λi=>∃m:Nat,k=m/\i=.int .i64 m) (λi=>s.size - (intOf i).toNat)
   case atStart=>exact⟨k,rfl,rfl⟩
   case round=>
    obtain⟨m,E,rfl⟩:=hrel;subst E;have HF:Hid (aBn s ByteArray.empty):=.inl ⟨aS8 s λi hi=>K.out i (by omega),rfl⟩;go_wp2;go_ret;exact⟨_,rfl,HF.out,rfl⟩
theorem aXh{s t:ByteArray}(z:Int)(h:aBn s t):aJe z t=sT z s:=by
 unfold sT;rcases h with ⟨h1,h2⟩|⟨l,h1⟩
 ·rw[h1,h2];unfold aJe;rw[if_neg (by decide),if_neg (by decide)]
 ·rw[h1]
theorem aRg(s:ByteArray)(hs:s.size<=10000000)(z:Int)(w:World):
  Calls Tryz.prog 37 #[.string s,.int .i64 z] w λe w'=>e=.returned (.bool (sT z s))/\w'=w:=by
 have U:Hid (∀w,Calls Tryz.prog 55 #[.string s] w λe w'=>∃t,e=.returned (.string t)/\aBn s t/\w'=w):=λw=>aSf s hs w;have V:Hid (∀t,aBn s t->aJe z t=sT z s):=λt ht=>aXh z ht;generalize sT z s=b at *;clear hs;go_enter Tryz.func37,Tryz.ntmps37
 go_wp2_with fail
 refine(U.out _).mono ?_;rintro e w1 ⟨t,rfl,J,rfl⟩;have I:=aO (V.out t J);clear J U V;have K:t=mS\/aIg t\/t=yW\/yR t\/aGt t:=aCv t;have h3:decide (z<3)=true\/decide (z<3)=false:=by cases decide (z<3)<;>simp
 have h4:decide (z<4)=true\/decide (z<4)=false:=by cases decide (z<4)<;>simp
 rcases K with rfl|(rfl|rfl|rfl|rfl)|rfl|(rfl|rfl|rfl|rfl)|⟨ha,W,Y,hd,Z,J,hg,hh,hi,hj⟩
 ·have E:Hid (b=false):=by rw[<- I.out];rfl
  go_wp2;go_ret;exact⟨cB E.out.symm,rfl⟩
 ·have E:Hid (b=decide (z<3)):=by rw[<- I.out];rfl
  go_wp2;go_ret;exact⟨cB E.out.symm,rfl⟩
 ·have E:Hid (b=decide (z<3)):=by rw[<- I.out];rfl
  go_wp2;go_ret;exact⟨cB E.out.symm,rfl⟩
 ·have E:Hid (b=false):=by rw[<- I.out];rfl
  go_wp2;go_ret;exact⟨cB E.out.symm,rfl⟩
 ·have E:Hid (b=decide (z<3)):=by rw[<- I.out];rfl
  go_wp2;go_ret;exact⟨cB E.out.symm,rfl⟩
 ·have E:Hid (b=decide (z<4)):=by rw[<- I.out];rfl
  go_wp2;go_ret;exact⟨cB E.out.symm,rfl⟩
 ·have E:Hid (b=false):=by rw[<- I.out];rfl
  go_wp2;go_ret;exact⟨cB E.out.symm,rfl⟩
 ·have E:Hid (b=false):=by rw[<- I.out];rfl
  go_wp2;go_ret;exact⟨cB E.out.symm,rfl⟩
 ·have E:Hid (b=false):=by rw[<- I.out];rfl
  go_wp2;go_ret;exact⟨cB E.out.symm,rfl⟩
 ·have E:Hid (b=decide (z<3)):=by rw[<- I.out];rfl
  go_wp2;go_ret;exact⟨cB E.out.symm,rfl⟩
 ·have E:Hid (b=false):=by
   show _=_;rw[<- I.out];have n:∀{l:List UInt8},(t.toList == l)=false->t≠⟨l.toArray⟩:=λh=>aPc h;unfold aJe;rw[if_neg (λq=>q.elim (n W) λq=>q.elim (n Y) λq=>q.elim (n Z) (n hj)),if_neg (n J)]
  go_wp2;go_ret;exact⟨cB E.out.symm,rfl⟩
structure Stp where
 kind:Int
 on:Int
 r:Int
 s:ByteArray
 u:ByteArray
def aQe(W:World)(so:Option Addr)(L:List Stp):Prop:=
 L=[]\/∃b o,so=some ⟨b,o,none⟩/\b<W.heap.size/\∀(i:Nat) (p:Stp),L[i]?=some p->W.cell? ⟨b,o+i * 5,none⟩=some (.int .i64 p.kind)/\W.cell? ⟨b,o+i * 5+1,none⟩=some (.int .i64 p.on)/\W.cell? ⟨b,o+i * 5+2,none⟩=some (.int .i64 p.r)/\W.cell? ⟨b,o+i * 5+3,none⟩=some (.string p.s)/\W.cell? ⟨b,o+i * 5+4,none⟩=some (.string p.u)
theorem WA.start(W:World):WA (W.alloc (.cells #[.slice none 0 0,.slice none 0 0] 73)) W.heap.size W.heap.size [] (.slice none 0 0) (.slice none 0 0) [] where
 book:=⟨aA _,by show W.heap.size<_;simp,(by show (W.heap.push _)[W.heap.size]?=_;rw[gF,if_pos rfl]),aK _ _ _ _,(λg E=>by cases E),(λe z=>by simp at z),by simp⟩
 row:=aK _ _ _ _
 tw:=by simp
 apart:=List.Pairwise.nil
 few:=by simp
 lo:=by simp
structure Inv (W wr:World) (k:Nat) (K:List mX) (lv kv:Value) (T:List Tw):Prop where
 at_:WA wr W.heap.size W.heap.size K lv kv T
 kl:K.length<=k
 t1:1<=T.length
 t2:T.length<=k+1
 bel:Below W.heap.size W wr
theorem Inv.pass{W wr w':World}{k:Nat}{K:List mX}{lv E:Value}{T:List Tw}(h:Inv W wr k K lv E T)(z:Below wr.heap.size wr w'):Inv W w' (k+1) K lv E T:=
 ⟨h.at_.below z,aTj h.kl,h.t1,aTj h.t2,h.bel.trans (z.mono h.bel.size)⟩
theorem Inv.step{W wr wb w':World}{k:Nat}{K:List mX}{lv Z:Value}{T:List Tw}(h:Inv W wr k K lv Z T)(Y:Below wr.heap.size wr wb)(U:dX wb W.heap.size W.heap.size K T w'):∃I E z J,Inv W w' (k+1) I E z J:=by
 obtain⟨I,E,z,J,V,a,b,c,d⟩:=U;have:=h.kl;have:=h.t1;have:=h.t2;exact⟨I,E,z,J,V,by omega,by omega,by omega,(h.bel.trans (Y.mono h.bel.size)).trans d⟩
theorem aSc{z:Int}(h2:2<=z)(h4:z<=4)(a6:aVw z)(W:World)(so:Option Addr)(cap:Nat)(L:List Stp)(hL:L.length<=1048576)(hS:aQe W so L)(b4:∀p∈L,aY3 p.kind p.on p.r p.s p.u):
  Calls Tryz.prog 13 #[.slice so L.length cap,.int .i64 z] W λe w'=>e=.returned (.bool true)/\Below W.heap.size W w':=by
 obtain⟨w0,Z⟩:∃w0,w0=W.alloc (.cells #[.slice none 0 0,.slice none 0 0] 73):=⟨_,rfl⟩;have c8:Hid (WA w0 W.heap.size W.heap.size [] (.slice none 0 0) (.slice none 0 0) []):=by show WA _ _ _ _ _ _ _;rw[Z];exact WA.start W
 have b7:Hid (Below W.heap.size W w0):=by show Below _ _ _;rw[Z];exact(Below.refl _ _).alloc (aA _) _
 have c6:=aO b4;have HS:=aO hS;have a4:=aO a6;have d8:(1:Int)<z:=by omega
 have d9:(z == 1)=false:=by simp;omega
 have e0:¬ (z=1):=by omega
 clear b4 hS a6 h2 h4;go_enter Tryz.func13,Tryz.ntmps13
 go_wp2_with fail
 rw[<- Z];clear Z;refine(aM6 W.heap.size W.heap.size _ _ w0 c8.out).mono ?_;rintro e w1 ⟨rfl,lv,kv,t,a9,a7,b1⟩;have c9:=aO a9;have c5:=aO a7;have b8:Hid (Below W.heap.size W w1):=b7.out.trans b1;clear a9 b1 a7
 go_wp2_with fail
 refine(aGy W.heap.size W.heap.size lv kv t w1 c9.out c5.out).mono ?_;rintro e w2 ⟨rfl,T,b0,a8,b2⟩;have d5:=aO b0;have a5:=aO a8;have b9:Hid (Below W.heap.size W w2):=b8.out.trans b2;clear b0 b2 a8;go_wp2
 go_loopw [6,7] (λok i wr=>∃k:Nat,k<=L.length/\ok=.bool true/\i=.int .i64 k/\Hid (∃K lv kv T,Inv W wr k K lv kv T)) (λ_ i _=>L.length - (intOf i).toNat)
 case atStart=>exact⟨0,aE _,rfl,rfl,[],lv,kv,T,d5.out,aA _,by have:=a5.out;omega,by have:=a5.out;omega,b9.out⟩
 case round=>
  obtain⟨k,hk,rfl,rfl,HI⟩:=hrel;obtain⟨K',b6,b5,T',hI⟩:=HI.out;have HV:=aO hI;clear hI;by_cases a3:k<L.length
  ·obtain⟨p,hp⟩:∃p,L[k]?=some p:=⟨_,aC a3⟩;have a1:=aO (c6.out p (aD hp));rcases HS.out with hnil|⟨b,o,rfl,Y,b3⟩
   ·rw[hnil] at a3;simp at a3
   obtain⟨c0,c1,c2,c3,c4⟩:=b3 k p hp;have J:=HV.out.bel;have d0:=(J.cell (p:=⟨b,o+k * 5,none⟩) Y).trans c0;have d1:=(J.cell (p:=⟨b,o+k * 5+1,none⟩) Y).trans c1;have d2:=(J.cell (p:=⟨b,o+k * 5+2,none⟩) Y).trans c2;have d3:=(J.cell (p:=⟨b,o+k * 5+3,none⟩) Y).trans c3;have d4:=(J.cell (p:=⟨b,o+k * 5+4,none⟩) Y).trans c4;clear c0 c1 c2 c3 c4 b3 J hp;obtain⟨kind,on,r,s,u⟩:=p;simp only at d0 d1 d2 d3 d4;obtain⟨wb,E⟩:∃wb,wb=wr.alloc (.cells #[.int .i64 kind,.int .i64 on,.int .i64 r,.string s,.string u] 76):=⟨_,rfl⟩;have I:Hid (Below wr.heap.size wr wb):=by show Below _ _ _;rw[E];exact(Below.refl _ _).alloc (aA _) _
   by_cases h9:kind=9
   ·subst h9;have c7:Hid (s.size<=10000000):=a1.out.s1;have U:=aO (λhl:sT z s=false=>aJu a4.out 9 on r (by omega) s u a1.out (λ_=>hl) _ _ K' b6 b5 T' wb (HV.out.at_.below I.out) HV.out.t1 (by have:=HV.out.t2;omega) (by have:=HV.out.kl;omega));obtain⟨x0,x1,x2,x3,x4⟩:=sY (by rw[E];exact aA4 wr 9 on r s u:wb.heap[wr.heap.size]?=_)
    go_wp2_with fail
    rw[<- E];clear E;refine(aRg s c7.out z _).mono ?_;rintro e w2 ⟨rfl,rfl⟩;clear d0 d1 d2 d3 d4
    cases hl:sT z s
    ·have a0:=aO (U.out hl);clear U hl
     go_wp2_with fail
     refine a0.out.mono ?_;rintro e w3 ⟨rfl,V⟩;have HE:Hid (∃K lv kv T,Inv W w3 (k+1) K lv kv T):=HV.out.step I.out V;clear V a0;go_wp2
     go_roundw
     case rel=>exact⟨k+1,by omega,rfl,by go_num,HE⟩
     case measure=>simp[intOf];omega
    ·clear hl U;go_wp2
     go_roundw
     case rel=>exact⟨k+1,by omega,rfl,by go_num,_,_,_,_,HV.out.pass I.out⟩
     case measure=>simp[intOf];omega
   ·have d6:(kind == 9)=false:=by simpa using h9
    by_cases a2:1<=kind/\kind<=9
    ·have g1:¬ (kind<1):=by omega
     have g2:¬ (9<kind):=by omega
     have U:=aO (aJu a4.out kind on r a2 s u a1.out (λq=>absurd q h9) _ _ K' b6 b5 T' wb (HV.out.at_.below I.out) HV.out.t1 (by have:=HV.out.t2;omega) (by have:=HV.out.kl;omega));clear a2 h9
     go_wp2_with fail
     rw[<- E];clear E d0 d1 d2 d3 d4;refine U.out.mono ?_;rintro e w2 ⟨rfl,V⟩;have HE:Hid (∃K lv kv T,Inv W w2 (k+1) K lv kv T):=HV.out.step I.out V;clear V U;go_wp2
     go_roundw
     case rel=>exact⟨k+1,by omega,rfl,by go_num,HE⟩
     case measure=>simp[intOf];omega
    ·by_cases g1:kind<1
     ·go_wp2;rw[<- E]
      go_roundw
      case rel=>exact⟨k+1,by omega,rfl,by go_num,_,_,_,_,HV.out.pass I.out⟩
      case measure=>simp[intOf];omega
     ·have g2:9<kind:=by omega
      clear a2;go_wp2;rw[<- E]
      go_roundw
      case rel=>exact⟨k+1,by omega,rfl,by go_num,_,_,_,_,HV.out.pass I.out⟩
      case measure=>simp[intOf];omega
  ·have d7:k=L.length:=by omega
   have HB:Hid (Below W.heap.size W wr):=HV.out.bel;go_wp2;go_ret;exact⟨rfl,HB.out⟩
theorem aB6{z:Int}{c x:ByteArray}{l:List ByteArray}(h:sT z c=false)(E:bY c=x::l):aJe z x=false:=by
 unfold sT at h;rw[E] at h;exact h
theorem bBx:aVw 2:=λw B t h r c K W=>by
 obtain⟨p,G,e,own,Pa,D,hP,Z,V,hk⟩:=h
 cases hr:lE r p.nr
 ·exact aVb hP Z V hk r c hr
 ·obtain⟨k,rfl,U⟩:=aB2 hr;obtain⟨R,s,hR⟩:=V.rps k U;have J:yJ w B t p G e own Pa D k R s:=⟨hP,Z,V,hk,U,hR⟩
  cases I:dY c
  ·exact bBg J c K I
  ·have z:=bAz I;generalize E:bY c=l at z
   cases z with
   | record a b c' d L hz hL=>exact aVc J c K I a b c' d hz L hL E
   | one x Y a b c' d hz=>
    have:=aB6 W E;rcases Y with rfl|rfl|rfl|rfl
    ·cases this
    ·cases this
    ·exact aZ9 J c K I a b c' d E
    ·cases this
   | none x Y=>
    have:=aB6 W E;rcases Y with rfl|rfl|rfl|rfl
    ·exact aVd J c K I E
    ·exact bBi J c K I E
    ·exact bBh J c K I E
    ·cases this
   | pull R h9=>
    have:=aB6 W E
    cases this
theorem aL8(W:World)(E:Option Addr)(cap:Nat)(L:List Stp)(I:L.length<=1048576)(J:aQe W E L)(z:∀p∈L,aY3 p.kind p.on p.r p.s p.u):
  Calls Tryz.prog 4 #[.slice E L.length cap] W λe w'=>e=.returned (.bool true)/\Below W.heap.size W w':=by
 have K:=aO (aSc (by omega) (by omega) bBx W E cap L I J z);clear I J z;go_enter Tryz.func4,Tryz.ntmps4
 go_wp2_with fail
 refine K.out.mono ?_;rintro e w1 ⟨rfl,U⟩;go_wp2;go_ret;exact⟨rfl,U⟩
end Go.Proofs.YtgdfipmdmgkidaaGreatDoor
