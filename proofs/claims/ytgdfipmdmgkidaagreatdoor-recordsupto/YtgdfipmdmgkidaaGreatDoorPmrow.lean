import Derived.Test.YtgdfipmdmgkidaaGreatDoorProw
import Derived.Test.YtgdfipmdmgkidaaGreatDoorPalter
import Derived.Test.YtgdfipmdmgkidaaGreatDoorProwc
import Derived.Test.YtgdfipmdmgkidaaGreatDoorPtell
import Derived.Test.YtgdfipmdmgkidaaGreatDoorAl
set_option linter.all false
namespace Go.Proofs.YtgdfipmdmgkidaaGreatDoor
open Go.RowKit
theorem zV(S:List aU)(a:Nat):∀d,∃t,fC S (a+d)=fC S a++t/\∀x∈t,a<=x
 | 0=>⟨[],by simp,by simp⟩
 | d+1=>by
  obtain⟨t,h1,h2⟩:=zV S a d;have hs:fC S (a+(d+1))=if (S[a+d]?).any (·.alive) then fC S (a+d)++[a+d] else fC S (a+d):=rfl;rw[hs];split
  ·refine⟨t++[a+d],by rw[h1,bG],λx z=>?_⟩;rcases aG.1 z with z|z
   ·exact h2 x z
   ·simp at z;omega
  ·exact⟨t,h1,h2⟩
theorem aOx(S:List aU){x:Nat}(I:x<(living S).length):fC S (living S)[x]=(living S).take x:=by
 have U:=iK S I;obtain⟨p,z⟩:∃p,(living S)[x]=p:=⟨_,rfl⟩;rw[z] at U ⊢;obtain⟨t,h1,h2⟩:=zV S p (S.length - p);rw[show p+(S.length - p)=S.length by omega] at h1;change living S=_ at h1;have K:(fC S p).length=x:=by
  rcases aBl (fC S p).length x with h|h|h
  ·have J:=kQ S h I;rw[z] at J;have E:(living S)[(fC S p).length]'(by omega)∈t:=by
    have:(living S)[(fC S p).length]?=t[0]?:=by rw[h1,bH (aA _)];simp
    rw[aC (by omega)] at this;exact aD this.symm
   have:=h2 _ E;omega
  ·exact h
  ·have E:p∈fC S p:=by
    have:(living S)[x]?=(fC S p)[x]?:=by rw[h1,aZ h]
    rw[aC I,z] at this;exact aD this.symm
   have:=(sU E).1;omega
 rw[h1,<- K,vM];rfl
theorem aM0(S T:List aU):cA (S++T)=cA S++cA T:=by simp[cA]
theorem lU(S T:List aU):aL (S++T)=aL S++aL T:=by simp[gX,aM0]
theorem aIj(S:List aU):aL (cD S)=[]:=by
 rw[gX];unfold cA cD;rw[List.map_eq_nil_iff,aE5];intro a z;obtain⟨s,_,rfl⟩:=aI.1 z;simp[lY]
theorem aC3(i:cL)(n:Int)(L:List ByteArray):∀s∈eD i n L,s.alive=true:=by
 intro s hs;unfold eD qT at hs;obtain⟨k,_,rfl⟩:=aI.1 hs;rfl
theorem iS(i:cL)(n:Int)(L:List ByteArray):aL (eD i n L)=L:=by
 rw[gX];unfold cA;rw[List.filter_eq_self.2 (aC3 i n L)];unfold eD qT;rw[fG];apply aD3
 ·simp
 ·intro k h1 h2;simp[brS,aQ,h2]
theorem uD(S:List aU){x:Nat}(z:x<(living S).length):aL (S.take (living S)[x])=(aL S).take x:=by
 have E:=iK S z;have h1:=rL S (living S)[x] (by omega);rw[aOx S z] at h1;rw[gX];unfold cA;rw[<- h1];unfold aL;rw[List.map_take]
theorem aRm(S:List aU){x:Nat}(z:x<(living S).length):aL (S.drop (living S)[x])=(aL S).drop x:=by
 have h1:=lU (S.take (living S)[x]) (S.drop (living S)[x]);rw[bV,uD S z] at h1;have h2:=bV x (aL S);exact(List.append_cancel_left (h2.trans h1)).symm
theorem wH(S:List aU){x:Nat}(z:x<(living S).length):aL (S.take ((living S)[x]+1))=(aL S).take (x+1):=by
 have I:=iK S z;obtain⟨_,s,hs,K⟩:=sU (bZ z);obtain⟨U,rfl⟩:=aB.1 hs;rw[aF I,lU,uD S z];have E:x<(aL S).length:=by unfold aL;simpa using z
 rw[aF E];congr 1;rw[gX];unfold cA;simp only[List.filter_cons,K,if_true,aY2,cU,lA];have J:(aL S)[x]'E=oA S (living S)[x]:=by simp[aL]
 rw[J];unfold oA;rw[aC I];rfl
theorem aGe{S:List aU}{c d x y:Nat}(h1:aL (S.take c)=(aL S).take x)(h2:aL (S.take d)=(aL S).take y)(z:c<=d)(E:x<=y):aL ((S.take d).drop c)=((aL S).take y).drop x:=by
 have I:=lU ((S.take d).take c) ((S.take d).drop c);rw[bV,zD,pV z,h1,h2] at I;have J:=bV x ((aL S).take y);rw[zD,pV E] at J;exact(List.append_cancel_left (J.trans I)).symm
theorem aJn{F:List aU}(z:F.Nodup){i j:Nat}{hi:i<F.length}{E:j<F.length}(h:F[i]=F[j]):i=j:=by
 rcases aBl i j with g|g|g
 ·exact absurd h (cW.1 z i j hi E g)
 ·exact g
 ·exact absurd h.symm (cW.1 z j i E hi g)
def qD(m:Nat):Nat->List dL->Prop
 | _,[]=>True
 | x,q::R=>x<=q.i/\q.i<=q.k/\q.k+1<m/\qD m (q.k+1) R
theorem qD.less{m x y:Nat}{R:List dL}(h:qD m x R)(z:y<=x):qD m y R:=by
 cases R with
 | nil=>trivial
 | cons q R=>exact⟨aR z h.1,h.2⟩
theorem dS.ord{O N:List ByteArray}{i j:Nat}{Q:List dL}(h:dS O N i j Q)(hi:i<=O.length)(z:j<=N.length):qD (O.length+2) i Q:=by
 induction h with
 | stop h1 h2=>
  have p:=uG hi z h1;unfold fA;split
  ·exact⟨aA _,p.1,by simp;omega,trivial⟩
  ·trivial
 | go h1 h2 h3 ih=>
  have p:=uG hi z h1;have E:=p.2.2.2.2;have q:=ih (by omega) (by rcases E with h|h;exact h.2.1;omega);unfold fA;split
  ·exact⟨aA _,p.1,by simp;omega,q⟩
  ·exact q.less (by omega)
def av(F:List aU)(q:dL):Nat:=(living F).getD q.i 0
def bv(F:List aU)(q:dL):Nat:=(living F).getD (q.k+1) 0
def gH(F:List aU):Nat->List (dL×List aU)->List aU
 | c,[]=>F.drop c
 | c,(q,B)::R=>(F.take (av F q+1)).drop c++(cD ((F.take (bv F q)).drop (av F q+1))++(B++gH F (bv F q) R))
theorem qD.at{F:List aU}{x:Nat}{q:dL}{R:List dL}(h:qD (living F).length x (q::R)):(living F).getD x 0<=av F q/\av F q<bv F q/\bv F q<F.length/\av F q=(living F)[q.i]'(by have:=h.2.1;have:=h.2.2.1;omega)/\bv F q=(living F)[q.k+1]'(h.2.2.1):=by
 have h1:=h.1;have h2:=h.2.1;have z:=h.2.2.1;unfold av bv;rw[fS F (show q.i<(living F).length by omega),fS F z,fS F (show x<(living F).length by omega)];refine⟨?_,kQ F (by omega) z,iK F z,rfl,rfl⟩;by_cases e:x=q.i
 ·subst e;exact aA _
 ·exact iT (kQ F (by omega) (by omega))
theorem aCb{F:List aU}{a b:Nat}(z:a<b)(I:b<F.length):cV ((F.take (b+1)).drop a)=(F.take b).drop (a+1):=by
 unfold cV;have E:((F.take (b+1)).drop a).length=b+1 - a:=by simp;omega
 rw[E,List.take_drop,aKa,zD,show min (a+(b+1 - a - 1)) (b+1)=b by omega]
theorem aM2{F P B:List aU}{a b c:Nat}(I:c<=a)(z:a<b)(E:b<F.length):
  mV (P++F.drop c) ((F.take (b+1)).drop a) B (P.length+(a - c))=(P++((F.take (a+1)).drop c++(cD ((F.take b).drop (a+1))++B)))++F.drop b:=by
 unfold mV;rw[aCb z E];have J:((F.take (b+1)).drop a).length=b+1 - a:=by simp;omega
 rw[J];have h1:(P++F.drop c).take (P.length+(a - c)+1)=P++(F.take (a+1)).drop c:=by
  rw[dB,List.take_length_add_append,List.take_drop,show c+(a - c+1)=a+1 by omega]
 have h2:(P++F.drop c).drop (P.length+(a - c)+(b+1 - a) - 1)=F.drop b:=by
  rw[show P.length+(a - c)+(b+1 - a) - 1=P.length+(b - c) by omega,List.drop_length_add_append,aKa,show c+(b - c)=b by omega]
 rw[h1,h2];simp[bG]
theorem aRb{F P:List aU}{a c:Nat}(I:F.Nodup)(K:c<=a)(U:a<F.length)(J:∀s∈P,s≠F[a]):rY (P++F.drop c) F[a]=some (P.length+(a - c)):=by
 have E:P.length+(a - c)<(P++F.drop c).length:=by simp;omega
 refine aS4 E ?_ ?_
 ·rw[oX (by omega)];simp[show c+(a - c)=a by omega]
 ·intro i hi z;by_cases h:i<P.length
  ·rw[aBo h] at z;exact J _ (bZ h) z.symm
  ·rw[oX (by omega),aBh] at z;have:=aJn I z;omega
def kS(F:List aU)(QB:List (dL×List aU)):Nat->List aU
 | 0=>F
 | k+1=>match QB[k]? with
  | some (q,B)=>mV (kS F QB k) (dA F q) B ((rY (kS F QB k) (F.getD (av F q) jR)).getD 0)
  | none=>kS F QB k
structure oI (F:List aU) (QB:List (dL×List aU)) (k:Nat):Prop where
 ex:∃P x,x<(living F).length/\kS F QB k=P++F.drop ((living F).getD x 0)/\P++gH F ((living F).getD x 0) (QB.drop k)=gH F 0 QB/\qD (living F).length x ((QB.drop k).map (·.1))/\(∀s∈P,∀y (hy:y<F.length),(living F).getD x 0<=y->F[y].alive=true->s≠F[y])
theorem sG{F:List aU}{x:Nat}(z:x<(living F).length):(F[(living F)[x]]'(iK F z)).alive=true:=by
 obtain⟨_,s,hs,E⟩:=sU (bZ z);rw[aC (iK F z)] at hs
 cases hs
 exact E
theorem oI.start{F:List aU}{E:List (dL×List aU)}(I:(living F).getD 0 0=0)(z:0<(living F).length)(J:qD (living F).length 0 (E.map (·.1))):oI F E 0:=
 ⟨[],0,z,by rw[I];simp[kS],by rw[I];simp,by simpa using J,by simp⟩
theorem oI.step{F:List aU}{E:List (dL×List aU)}{k:Nat}{q:dL}{B:List aU}(h:oI F E k)(hF:F.Nodup)(hk:E[k]?=some (q,B))(hB:∀s∈B,s∉F):
  oI F E (k+1)/\∃p,(dA F q)[0]?=some (F.getD (av F q) jR)/\rY (kS F E k) (F.getD (av F q) jR)=some p/\p+(dA F q).length<=(kS F E k).length/\2<=(dA F q).length/\(dA F q).length<=F.length/\kS F E (k+1)=mV (kS F E k) (dA F q) B p/\(kS F E (k+1)).length=(kS F E k).length+B.length:=by
 obtain⟨P,x,hx,e1,e2,U,e4⟩:=h.ex;obtain⟨b0,a9⟩:=aB.1 hk;have hd:E.drop k=(q,B)::E.drop (k+1):=by rw[bO b0,a9]
 rw[hd] at e2 U;simp only[cU] at U;obtain⟨a1,a2,a3,a4,a5⟩:=U.at
 have a6:(F[av F q]'(by omega)).alive=true:=by
  have h9:=sG (F:=F) (x:=q.i) (by have:=U.2.1;have:=U.2.2.1;omega);simp only[<- a4] at h9;exact h9
 have a7:q.k+1<(living F).length:=U.2.2.1;have W:dA F q=(F.take (bv F q+1)).drop (av F q):=rfl;have I:F.getD (av F q) jR=F[av F q]'(by omega):=by
  rw[aQ,aC (by omega)];rfl
 have J:rY (kS F E k) (F.getD (av F q) jR)=some (P.length+(av F q - (living F).getD x 0)):=by
  rw[e1,I];exact aRb hF a1 (by omega) (λs hs=>e4 s hs _ (by omega) a1 a6)
 have b2:(dA F q).length=bv F q+1 - av F q:=by rw[W];simp;omega
 have a0:kS F E (k+1)=mV (kS F E k) (dA F q) B (P.length+(av F q - (living F).getD x 0)):=by
  rw[kS,hk];simp only;rw[J];rfl
 have a8:(kS F E k).length=P.length+(F.length - (living F).getD x 0):=by rw[e1];simp
 have K:kS F E (k+1)=(P++((F.take (av F q+1)).drop ((living F).getD x 0)++(cD ((F.take (bv F q)).drop (av F q+1))++B)))++F.drop (bv F q):=by
  rw[a0,e1,W];exact aM2 a1 a2 a3
 have V:bv F q=(living F).getD (q.k+1) 0:=rfl;refine⟨⟨P++((F.take (av F q+1)).drop ((living F).getD x 0)++(cD ((F.take (bv F q)).drop (av F q+1))++B)),q.k+1,a7,by rw[K,V],?_,U.2.2.2,?_⟩,_,?_,J,by omega,by omega,by omega,a0,?_⟩
 ·rw[<- e2,<- V];simp[gH,bG]
 ·intro s hs y hy b1 Y;rw[<- V] at b1;rcases aG.1 hs with hs|hs
  ·exact e4 s hs y hy (by omega) Y
  ·rcases aG.1 hs with hs|hs
   ·obtain⟨z,hz,rfl⟩:=lB.1 hs;rw[aBh,kZ];intro Z;have:=aJn hF Z;simp only[mB,bR] at hz;omega
   ·rcases aG.1 hs with hs|hs
    ·unfold cD at hs;obtain⟨s',_,rfl⟩:=aI.1 hs;intro Z;rw[<- Z] at Y;simp[lY] at Y
    ·intro Z;exact hB s hs (Z▸bZ hy)
 ·rw[W,zC,dN (by omega),I];simp
 ·rw[K,a8];simp only[cD,aJ,mB,bR,aT];omega
theorem oI.all{F:List aU}{z:List (dL×List aU)}(J:F.Nodup)(I:∀r∈z,∀s∈r.2,s∉F)(E:oI F z 0):∀k,k<=z.length->oI F z k
 | 0,_=>E
 | k+1,hk=>by
  have h:=oI.all J I E k (by omega);have K:z[k]?=some (z[k].1,z[k].2):=aC (by omega);exact(h.step J K (I (z[k]'(by omega)) (bZ _))).1
theorem oI.last{F:List aU}{z:List (dL×List aU)}(h:oI F z z.length):kS F z z.length=gH F 0 z:=by
 obtain⟨P,x,_,I,E,_⟩:=h.ex;rw[List.drop_length] at E;rw[I,<- E];rfl
theorem aNx{F:List aU}{z:List (dL×List aU)}(I:F.Nodup)(E:∀r∈z,∀s∈r.2,s∉F)(J:oI F z 0)(M:Nat)(K:∀r∈z,r.2.length<=M):∀k,k<=z.length->(kS F z k).length<=F.length+k * M/\F.length<=(kS F z k).length
 | 0,_=>by simp[kS]
 | k+1,hk=>by
  have h:=oI.all I E J k (by omega);have V:z[k]?=some (z[k].1,z[k].2):=aC (by omega);obtain⟨_,p,_,_,_,_,_,_,U⟩:=h.step I V (E (z[k]'(by omega)) (bZ _));have Y:=aNx I E J M K k (by omega);have W:=K z[k] (bZ _);rw[U,aBk];omega
def aDh(OF N:List ByteArray):Nat->List dL->List ByteArray
 | x,[]=>OF.drop x
 | x,q::R=>(OF.take (q.i+1)).drop x++(bX N q++aDh OF N (q.k+1) R)
theorem aHc(F:List aU)(N:List ByteArray):∀(z:List (dL×List aU)) (x:Nat),x<(living F).length->qD (living F).length x (z.map (·.1))->(∀r∈z,aL r.2=bX N r.1)->aL (gH F ((living F).getD x 0) z)=aDh (aL F) N x (z.map (·.1))
 | [],x,hx,_,_=>by
  rw[fS F hx];exact aRm F hx
 | (q,B)::R,x,hx,ho,hB=>by
  have ih:=aHc F N R (q.k+1) ho.2.2.1 ho.2.2.2 (λr Z=>hB r (by simp[Z]));obtain⟨K,U,V,I,W⟩:=qD.at ho;simp only at K U V I W;have E:q.i<(living F).length:=by have:=ho.2.1;have:=ho.2.2.1;simp at *;omega
  have J:=hB (q,B) (by simp);simp only at J;show aL ((F.take (av F q+1)).drop ((living F).getD x 0)++(cD ((F.take (bv F q)).drop (av F q+1))++(B++gH F (bv F q) R)))=_;rw[lU,lU,lU,aIj,J];have Y:aL ((F.take (av F q+1)).drop ((living F).getD x 0))=((aL F).take (q.i+1)).drop x:=by
   refine aGe ?_ ?_ (by omega) (by have:=ho.1;simp at this;omega)
   ·rw[fS F hx];exact uD F hx
   ·rw[I];exact wH F E
  rw[Y,cY];show _++(_++aL (gH F ((living F).getD (q.k+1) 0) R))=_;rw[ih];rfl
theorem aDi(O N:List ByteArray)(e:ByteArray):∀(Q:List dL) (y:Nat),y<=O.length->qD (O.length+2) y Q->aDh (e::(O++[e])) N (y+1) Q=zT O N y Q++[e]
 | [],y,hy,_=>by
  simp only[aDh,zT,oY];rw[dO hy]
 | q::Q,y,hy,ho=>by
  have h1:=ho.1;have h2:=ho.2.1;have E:=ho.2.2.1;have z:=aDi O N e Q q.k (by omega) (ho.2.2.2.less (by omega));simp only[aDh,zT,oZ,oY];rw[z,fD (by omega)];simp[bG]
theorem aOj(O N:List ByteArray)(e:ByteArray)(Q:List dL):aDh (e::(O++[e])) N 0 Q=e::aDh (e::(O++[e])) N 1 Q:=by
 cases Q with
 | nil=>rfl
 | cons q Q=>simp[aDh]
theorem aHa{G:List aU}:∀(z:List (dL×List aU)) (c x:Nat),c<(G++[lD]).length->qD (living (G++[lD])).length x (z.map (·.1))->∃Y,gH (G++[lD]) c z=Y++[lD]
 | [],c,x,hc,_=>⟨G.drop c,by simp only[gH];rw[dO (by simp at hc;omega)]⟩
 | (q,B)::R,c,x,hc,ho=>by
  obtain⟨J,K,E,U,V⟩:=qD.at ho;obtain⟨Y,I⟩:=aHa R (bv (G++[lD]) q) (q.k+1) E ho.2.2.2;simp only[gH];rw[I];exact⟨_,by rw[<- bG,<- bG,<- bG]⟩
theorem aHb{G:List aU}{s:aU}(z:List (dL×List aU)):∃Z,gH (s::G) 0 z=s::Z:=by
 cases z with
 | nil=>exact⟨G,rfl⟩
 | cons r R=>
  obtain⟨q,B⟩:=r;simp only[gH,rU,oZ,cI];exact⟨_,rfl⟩
theorem pE(S:List aU):aL (aM S)=ByteArray.empty::(aL S++[ByteArray.empty]):=by
 rw[gX,gX];simp[aM,cA,jR,lD,gE]
theorem nK(S:List aU):(living (aM S)).getD 0 0=0:=by
 have E:=fK S;have z:0<(living (aM S)).length:=by omega
 have h:=aOx (aM S) z;rw[zE] at h;rw[fS _ z];rcases aQd (living (aM S))[0] with e|e
 ·exact e
 ·exfalso;obtain⟨t,h1,_⟩:=zV (aM S) 1 ((living (aM S))[0] - 1);rw[show 1+((living (aM S))[0] - 1)=(living (aM S))[0] by omega,h] at h1;simp[fC,aM,jR,gE] at h1
theorem aUu{X:List aU}(h1:∃Z,X=jR::Z)(h2:∃Y,X=Y++[lD]):aL X=ByteArray.empty::(aL (cV X)++[ByteArray.empty]):=by
 obtain⟨Z,h1⟩:=h1;obtain⟨Y,h2⟩:=h2
 cases Y with
 | nil=>rw[h1] at h2;simp[jR,lD,gE] at h2
 | cons y Y=>
  rw[h1] at h2;simp only[cI,fY] at h2;obtain⟨rfl,rfl⟩:=h2;have:cV X=Y:=by rw[h1];unfold cV;simp
  rw[this,h1];exact pE Y
theorem aU3(S:List aU)(N:List ByteArray)(z:List (dL×List aU))(I:qD ((aL S).length+2) 0 (z.map (·.1)))(J:∀r∈z,aL r.2=bX N r.1):aL (cV (gH (aM S) 0 z))=zT (aL S) N 0 (z.map (·.1)):=by
 have K:=fK S;have E:=I;rw[<- K] at E;have h1:=aHc (aM S) N z 0 (by omega) E J;rw[nK,pE,aOj,aDi _ _ _ _ _ (aE _) I] at h1;have h2:=aUu (X:=gH (aM S) 0 z) (aHb z) (aHa (G:=jR::S) z 0 0 (by simp) E);rw[h1] at h2;simp only[fY,true_and] at h2;exact(List.append_cancel_right h2).symm
theorem aMz(S:List aU){x:Nat}(z:x<(living S).length):(living (S.take ((living S)[x]+1))).length=x+1:=by
 have h:=congrArg List.length (wH S z);have h2:∀T:List aU,(aL T).length=(living T).length:=λT=>by simp[aL]
 rw[h2,bR,h2] at h;omega
theorem aLf(S:List aU)(q:dL)(I:q.i<=q.k)(J:q.k<=(aL S).length):aL (cV (dA (aM S) q))=((aL S).take q.k).drop q.i:=by
 have K:=fK S;have E:q.i<(living (aM S)).length:=by omega
 have z:q.k+1<(living (aM S)).length:=by omega
 unfold dA;rw[fS _ E,fS _ z,aCb (kQ _ (by omega) z) (iK _ z)];rw[aGe (wH _ E) (uD _ z) (kQ _ (by omega) z) (by omega),pE];simp only[oZ,oY];rw[fD J]
def tlA(m:UInt8)(l:ByteArray):ByteArray:=⟨(tlB ⟨#[m]⟩ l).toArray⟩
def atA(n:Nat):ByteArray:=((⟨#[64]⟩:ByteArray)++⟨(Lib.decDigits n).toArray⟩)++⟨#[10]⟩
def nU(O N:List ByteArray)(q:dL):List ByteArray:=atA (q.i+1)::((aJi O q.i q.k).map (tlA 45)++(bX N q).map (tlA 43))
theorem aSv(m:UInt8)(L:List ByteArray):jI (L.map (tlA m))=⟨(eQ ⟨#[m]⟩ L).toArray⟩:=by
 unfold jI eQ;congr 2;rw[tL];rfl
theorem aUa{S N Br:List aU}{p:Nat}{O T:List ByteArray}{q:dL}(h1:(living (S.take (p+1))).length=q.i+1)(h2:aL (cV N)=aJi O q.i q.k)(z:aL Br=bX T q):aDc S N Br p=jI (nU O T q):=by
 unfold aDc nU gI;rw[h1,h2,z,aIw,vW,aSv,aSv,aIt];rfl
theorem aTr:∀n,n<100->3<=(atA n).size/\(atA n).size<=5/\gb (atA n) 0=64/\(∀i,i<((atA n).extract 1 ((atA n).size - 1)).size->48<=gb ((atA n).extract 1 ((atA n).size - 1)) i/\gb ((atA n).extract 1 ((atA n).size - 1)) i<=57)/\bBw ((atA n).extract 1 ((atA n).size - 1)) ((atA n).extract 1 ((atA n).size - 1)).size=n/\gb (atA n) ((atA n).size - 1)=10/\∀i,i<(atA n).size - 1->gb (atA n) i≠10:=by
 decide +kernel
theorem qD.len{m:Nat}:∀{Q:List dL} {x:Nat},qD m x Q->Q.length<=m - x
 | [],_,_=>aE _
 | q::Q,x,h=>by
  have h1:=h.1;have h2:=h.2.1;have z:=h.2.2.1;have:=qD.len h.2.2.2;simp only[aY];omega
def nF(Q:List dL)(Hs:List Hk):List (dL×List aU):=Q.zip (Hs.map (·.Br))
theorem kP(i:cL)(n:Int)(L:List ByteArray):(eD i n L).length=L.length:=aM9 i n L _
theorem vU{i:cL}{n:Int}{L:List ByteArray}{s:aU}(h:s∈eD i n L):s.a=i.a/\s.b=i.b/\s.c=i.c/\s.d=i.d:=by
 unfold eD qT at h;obtain⟨k,_,rfl⟩:=aI.1 h;exact⟨rfl,rfl,rfl,rfl⟩
theorem rK(N:List ByteArray)(q:dL):(bX N q).length<=N.length:=by unfold bX;simp;omega
section
variable {S:List aU} {N:List ByteArray} {i:cL} {n:Int} {Q:List dL} {Hs:List Hk}
theorem aAa(z:oJ (aM S) i n N Q Hs):(nF Q Hs).map (·.1)=Q:=by
 unfold nF;exact List.map_fst_zip (by simp[z.1])
theorem aL5(z:oJ (aM S) i n N Q Hs):(nF Q Hs).length=Hs.length:=by
 unfold nF;simp[z.1]
theorem aPi(I:oJ (aM S) i n N Q Hs){k:Nat}{h:Hk}(z:Hs[k]?=some h):∃q,Q[k]?=some q/\(nF Q Hs)[k]?=some (q,h.Br)/\h.N=dA (aM S) q/\h.Br=eD i (eO n N (Q.take k)) (bX N q):=by
 obtain⟨q,h1,h2,E⟩:=I.2 k h z;refine⟨q,h1,?_,h2,E⟩;unfold nF;rw[List.getElem?_zip_eq_some];exact⟨h1,by rw[aP,z];rfl⟩
theorem aGx(I:oJ (aM S) i n N Q Hs):∀r∈nF Q Hs,∃m,r.2=eD i m (bX N r.1):=by
 intro r K;obtain⟨k,E⟩:=bI.1 K;have z:k<Hs.length:=by have:=(aB.1 E).1;rw[aL5 I] at this;exact this
 obtain⟨q,_,h2,_,J⟩:=aPi I (aC z);rw[E] at h2;injection h2 with h2;rw[h2];exact⟨_,J⟩
def aN5(name:ByteArray)(O N:List ByteArray)(Q:List dL)(k:Nat):ByteArray:=kO name++jI ((Q.take k).flatMap (nU O N))
theorem aBf(m:UInt8)(l:ByteArray):(tlA m l).size<=l.size+3:=by
 show (tlB ⟨#[m]⟩ l).length<=l.data.toList.length+3;unfold tlB;simp only[aJ];split<;>simp<;>omega
theorem aM5{n:Nat}(h:n<100):(atA n).size<=5:=(aTr n h).2.1
theorem aUc{O N:List ByteArray}{q:dL}(K:∀l∈O,l.size<=1000)(I:∀l∈N,l.size<=1000)(U:O.length<=400)(J:N.length<=400)(V:q.i+1<100):(jI (nU O N q)).size<=1000000:=by
 have h:=aNc (nU O N q) 1003 (λl z=>by
  unfold nU at z;rcases cC.1 z with rfl|z
  ·have:=aM5 V;omega
  ·rcases aG.1 z with z|z
   ·obtain⟨x,E,rfl⟩:=aI.1 z;have:=aBf 45 x;have:=K x (cG (dU E));omega
   ·obtain⟨x,E,rfl⟩:=aI.1 z;have:=aBf 43 x;have:=I x (cG (dU E))
    omega)
 have h1:(nU O N q).length<=801:=by
  unfold nU;have:=rK N q;have:(aJi O q.i q.k).length<=O.length:=by unfold aJi;simp;omega
  simp;omega
 have:(nU O N q).length * 1003<=801 * 1003:=dV _ h1;omega
end
end Go.Proofs.YtgdfipmdmgkidaaGreatDoor
