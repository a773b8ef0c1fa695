import Derived.Test.YtgdfipmdmgkidaaGreatDoorPmrow
import Derived.Test.YtgdfipmdmgkidaaGreatDoorPgrow
import Derived.Test.YtgdfipmdmgkidaaGreatDoorProw
import Derived.Deep.RegionLaw
import Derived.Deep.AppendLies
import Derived.Test.YtgdfipmdmgkidaaGreatDoorAl
set_option linter.all false
set_option maxHeartbeats 6400000
set_option maxRecDepth 100000
namespace Go.Proofs.YtgdfipmdmgkidaaGreatDoor
open Go.RowKit
def mM(s:aU):cL:=⟨s.a,s.b,s.c,s.d⟩
def jO(s:aU):cL×Int:=(mM s,s.num)
theorem aNf(s:aU):jO (lY s)=jO s:=rfl
theorem xF(S:List aU):(cD S).map jO=S.map jO:=by
 unfold cD;rw[fG];rfl
theorem aPs{F:List aU}:∀(z:List (dL×List aU)) (c:Nat) (s:aU),s∈gH F c z->s∈F\/(∃t∈F,s=lY t)\/∃r∈z,s∈r.2
 | [],c,s,h=>.inl (dU h)
 | (q,B)::R,c,s,h=>by
  unfold gH at h;rcases aG.1 h with h|h
  ·exact .inl (cG (dU h))
  ·rcases aG.1 h with h|h
   ·obtain⟨t,I,rfl⟩:=aI.1 h;exact .inr (.inl ⟨t,cG (dU I),rfl⟩)
   ·rcases aG.1 h with h|h
    ·exact .inr (.inr ⟨(q,B),eT,h⟩)
    ·rcases aPs R _ s h with h|h|⟨r,E,h⟩
     ·exact .inl h
     ·exact .inr (.inl h)
     ·exact .inr (.inr ⟨r,dP _ E,h⟩)
theorem aDt(F:List aU){c a b:Nat}(E:c<=a)(z:a<=b):F.drop c=(F.take a).drop c++((F.take b).drop a++F.drop b):=by
 have h1:F.drop a=(F.take b).drop a++F.drop b:=by
  conv=>lhs;rw[<- bV b F]
  by_cases J:b<=F.length
  ·rw[dO (by simp;omega)]
  ·rw[fF (show F.length<=b by omega),cR,cR]
 have h2:F.drop c=(F.take a).drop c++F.drop a:=by
  conv=>lhs;rw[<- bV a F]
  by_cases I:a<=F.length
  ·rw[dO (by simp;omega)]
  ·rw[fF (show F.length<=a by omega),cR,cR]
 rw[h2,h1]
theorem aJ3{F:List aU}:∀(z:List (dL×List aU)) (x:Nat),qD (living F).length x (z.map (·.1))->
  ((gH F ((living F).getD x 0) z).map jO).Perm ((F.drop ((living F).getD x 0)).map jO++(z.flatMap (·.2)).map jO)
 | [],x,_=>by simp[gH]
 | (q,B)::R,x,h=>by
  have I:qD (living F).length x (q::R.map (·.1)):=h;obtain⟨h1,h2,J,K,U⟩:=qD.at I;have E:=aJ3 R (q.k+1) h.2.2.2;have e:(living F).getD (q.k+1) 0=bv F q:=rfl;rw[e] at E;unfold gH;rw[aDt F (show (living F).getD x 0<=av F q+1 by omega) (show av F q+1<=bv F q by omega)];simp only[bF,xF,bL,bG];refine gJ _ (gJ _ ?_);refine((gJ _ E).trans ?_);rw[<- bG,<- bG];exact rT _ aHu
def kL(i:cL)(N:List ByteArray):Int->List dL->List aU
 | _,[]=>[]
 | n,q::R=>eD i n (bX N q)++kL i N (n+(bX N q).length) R
theorem oJ.tail{F:List aU}{i:cL}{n:Int}{N:List ByteArray}{q:dL}{Q:List dL}{h:Hk}{Hs:List Hk}(J:oJ F i n N (q::Q) (h::Hs)):h.N=dA F q/\h.Br=eD i n (bX N q)/\oJ F i (n+(bX N q).length) N Q Hs:=by
 obtain⟨V,z,E,I⟩:=J.2 0 h rfl
 cases z
 refine⟨E,I,by have:=J.1;simpa using this,λk x K=>?_⟩;obtain⟨U,z,E,I⟩:=J.2 (k+1) x (by simpa using K);exact⟨U,by simpa using z,E,by simpa[eO] using I⟩
theorem oS{F:List aU}{i:cL}{N:List ByteArray}:∀(Q:List dL) (Hs:List Hk) (n:Int),oJ F i n N Q Hs->Hs.flatMap (·.Br)=kL i N n Q
 | [],Hs,n,h=>by
  have:Hs=[]:=aS (by simpa using h.1);subst this;rfl
 | q::Q,[],n,h=>by have:=h.1;simp at this
 | q::Q,h::Hs,n,hm=>by
  obtain⟨_,h2,z⟩:=hm.tail;simp only[bL,kL];rw[h2,oS Q Hs _ z]
theorem nY{i:cL}{N:List ByteArray}:∀(Q:List dL) (n:Int) (s:aU),s∈kL i N n Q->mM s=i/\n<=s.num/\s.num<eO n N Q/\s.alive=true
 | [],n,s,h=>by simp[kL] at h
 | q::Q,n,s,h=>by
  unfold kL at h;rcases aG.1 h with h|h
  ·unfold eD qT at h;obtain⟨k,z,rfl⟩:=aI.1 h;have z:=fL.1 z;have:=wL (n+(bX N q).length) N Q;refine⟨rfl,?_,?_,rfl⟩
   ·simp only[brS];omega
   ·simp only[brS,eO];omega
  ·obtain⟨h1,h2,E,I⟩:=nY Q _ s h;exact⟨h1,by omega,E,I⟩
theorem zO(i:cL)(n:Int)(L:List ByteArray):((eD i n L).map jO).Nodup:=by
 unfold eD qT;rw[fG,List.Nodup,jB];refine List.Pairwise.imp ?_ List.pairwise_lt_range;intro a b z e;simp only[Function.comp,jO,brS,Prod.mk.injEq] at e;omega
theorem vT{i:cL}{N:List ByteArray}:∀(Q:List dL) (n:Int),((kL i N n Q).map jO).Nodup
 | [],n=>by simp[kL]
 | q::Q,n=>by
  unfold kL;rw[bF,cP];refine⟨zO _ _ _,vT Q _,?_⟩;intro a E b I e;obtain⟨s,hs,rfl⟩:=aI.1 E;obtain⟨t,J,rfl⟩:=aI.1 I;obtain⟨_,h2,_⟩:=nY Q _ t J;unfold eD qT at hs;obtain⟨k,z,rfl⟩:=aI.1 hs;have z:=fL.1 z;simp only[jO,brS,Prod.mk.injEq] at e;omega
theorem aF0{X:List aU}(h1:∃Z,X=jR::Z)(h2:∃Y,X=Y++[lD]):X=aM (cV X):=by
 obtain⟨Z,rfl⟩:=h1;obtain⟨Y,z⟩:=h2;have E:∃W,Z=W++[lD]:=by
  cases Y with
  | nil=>simp[jR,lD,gE] at z
  | cons y Y=>
   simp only[cI,fY] at z;exact⟨Y,z.2⟩
 obtain⟨W,rfl⟩:=E;simp[aM,cV]
theorem aJx{F:List aU}{i:cL}{n:Int}{N:List ByteArray}{Q:List dL}{Hs:List Hk}(z:oJ F i n N Q Hs):(nF Q Hs).flatMap (·.2)=kL i N n Q:=by
 rw[<- oS Q Hs n z];unfold nF;have:(Q.zip (Hs.map (·.Br))).map (·.2)=Hs.map (·.Br):=List.map_snd_zip (by simp[z.1]);rw[tK,this,<- tK]
section
variable {S:List aU} {N:List ByteArray} {i:cL} {n:Int} {Q:List dL} {Hs:List Hk}
def vO(S:List aU)(Q:List dL)(Hs:List Hk):List aU:=cV (kS (aM S) (nF Q Hs) Hs.length)
theorem aM1(E:oJ (aM S) i n N Q Hs)(Y:dS (aL S) N 0 0 Q)(W:(aM S).Nodup)(aO:∀s∈aM S,¬ (s.a=i.a/\s.b=i.b/\s.c=i.c/\s.d=i.d)):gH (aM S) 0 (nF Q Hs)=aM (vO S Q Hs):=by
 have J:=Y.ord (aE _) (aE _);have z:=fK S;have V:∀r∈nF Q Hs,∀s∈r.2,s∉aM S:=λr hr s hs I=>by
  obtain⟨m,h⟩:=aGx E r hr;rw[h] at hs;exact aO s I (vU hs)
 have U:oI (aM S) (nF Q Hs) 0:=oI.start (nK S) (by omega) (by rw[aAa E,z];exact J);have Z:=(oI.all W V U _ (aA _)).last;have e:vO S Q Hs=cV (gH (aM S) 0 (nF Q Hs)):=by
  unfold vO;rw[<- aL5 E,Z]
 rw[e];refine aF0 ?_ ?_
 ·exact aHb _
 ·have:=aHa (G:=jR::S) (nF Q Hs) 0 0 (by simp) (by
   have K:(jR::S)++[lD]=aM S:=rfl;rw[K,aAa E,z]
   exact J)
  exact this
theorem aWe(E:oJ (aM S) i n N Q Hs)(I:dS (aL S) N 0 0 Q)(K:(aM S).Nodup)(aO:∀s∈aM S,¬ (s.a=i.a/\s.b=i.b/\s.c=i.c/\s.d=i.d)):((vO S Q Hs).map jO).Perm (S.map jO++(kL i N n Q).map jO):=by
 have U:=I.ord (aE _) (aE _);have z:=fK S;have h:=aJ3 (F:=aM S) (nF Q Hs) 0 (by rw[aAa E,z];exact U);rw[nK,rU,aM1 E I K aO,aJx E] at h;unfold aM at h;simp only[cU,bF,cI,lA,bG] at h;have h1:=(List.perm_cons _).1 h;have h2:(S.map jO++([jO lD]++(kL i N n Q).map jO)).Perm (S.map jO++(kL i N n Q).map jO++[jO lD]):=by
  rw[bG];exact gJ _ aHu
 have J:=h1.trans h2;exact(List.perm_append_right_iff _).1 J
theorem aY8(z:oJ (aM S) i n N Q Hs)(I:dS (aL S) N 0 0 Q)(E:(aM S).Nodup)(aO:∀s∈aM S,¬ (s.a=i.a/\s.b=i.b/\s.c=i.c/\s.d=i.d)){s:aU}(hs:s∈vO S Q Hs):(s∈aM S)\/(∃t∈aM S,s=lY t)\/s∈kL i N n Q:=by
 have h:s∈gH (aM S) 0 (nF Q Hs):=by
  rw[aM1 z I E aO];unfold aM;simp[hs]
 rcases aPs _ _ _ h with h|h|⟨r,J,h⟩
 ·exact .inl h
 ·exact .inr (.inl h)
 ·refine .inr (.inr ?_);rw[<- aJx z];exact dD.2 ⟨r,J,h⟩
end
structure Fl where
 name:ByteArray
 there:Bool
 text:ByteArray
def FV(w:World)(v:Value)(Fs:List Fl):Prop:=∃ao cap,v=.slice ao Fs.length cap/\∀(k:Nat) (f:Fl),Fs[k]?=some f->∃b o,ao=some ⟨b,o,none⟩/\b<w.heap.size/\w.cell? ⟨b,o+k * 3,none⟩=some (.string f.name)/\w.cell? ⟨b,o+k * 3+1,none⟩=some (.bool f.there)/\w.cell? ⟨b,o+k * 3+2,none⟩=some (.string f.text)
theorem FV.below{w w':World}{v:Value}{E:List Fl}(h:FV w v E){B:Nat}(z:Below B w w')(W:w.heap.size<=B):FV w' v E:=by
 obtain⟨I,cap,rfl,U⟩:=h;refine⟨I,cap,rfl,λk f V=>?_⟩;obtain⟨b,o,e,h1,h2,J,K⟩:=U k f V;exact⟨b,o,e,bJ h1 z.size,(z.cell (p:=⟨b,o+k * 3,none⟩) (by simp;omega)).trans h2,(z.cell (p:=⟨b,o+k * 3+1,none⟩) (by simp;omega)).trans J,(z.cell (p:=⟨b,o+k * 3+2,none⟩) (by simp;omega)).trans K⟩
structure aVx (st:ByteArray->PL) (f:Fl):Prop where
 name:f.name.size<=1000
 text:f.text.size<=10000
 lines:(bM f.text).length<=20
 row:(st f.name).S.length<=9000
 living:(aL (st f.name).S).length<=900
structure dG (st:ByteArray->PL) (i:cL) (Fs:List Fl) (Cs:List (ByteArray×fM)) (m:Nat->Int):Prop where
 len:Cs.length=Fs.length
 zero:m 0=0
 at_:∀k f c,Fs[k]?=some f->Cs[k]?=some c->c.1=f.name/\jE (st f.name) i (m k) f.there f.text c.2 (m (k+1))
theorem Tryz.info226:(Tryz.prog.info? 226).map (λi=>(i.zero,i.size,i.bytes))=some (some (.agg #[.string ⟨#[]⟩,.nilIface]),2,32):=by kernel_rfl
abbrev qW(Cs:List (ByteArray×fM)):List Value:=Cs.flatMap λc=>[.string c.1,chV c.2]
structure aV6 (w wr:World) (i:cL) (tb n:Nat) (st:ByteArray->PL) (Fs:List Fl) (k:Nat) (Cs:List (ByteArray×fM)) (m:Nat->Int) (cv:Value):Prop where
 bel:Below w.heap.size w wr
 tree:cK wr tb st n
 tbx:wr.heap[w.heap.size+1]?=some (.cells #[.map (some tb)] 121 (0,0))
 res:wr.heap[w.heap.size+1+1]?=some (.cells #[.int .u8 0,.int .u8 0,.int .u8 0,.int .u8 0,.slice none 0 0] 149 (0,0))
 mkr:pC wr (w.heap.size+1+1+1) i (m k)
 p:wr.heap[w.heap.size+1+1+1+1]?=some (.cells #[.int .u8 i.a,.int .u8 i.b,.int .u8 i.c,.int .u8 i.d,cv] 149 (0,0))
 row:wr.ownsRow (w.heap.size+5) 226 2 cv k (qW Cs)
 ok:∀c∈Cs,aBm wr c.2
 made:dG st i (Fs.take k) Cs m
 small:0<=m k/\m k<=k * 20
theorem lJ{w:World}{p:Addr}(o:Obj)(h:p.block<w.heap.size):(w.alloc o).cell? p=w.cell? p/\(w.alloc o).frozen? p=w.frozen? p:=
 ⟨((Below.refl w.heap.size w).alloc (aA _) o).cell h,((Below.refl w.heap.size w).alloc (aA _) o).frozen h⟩
theorem aN3(w:World){z:World}(a b c d e:Obj)(h:z=((((w.alloc a).alloc b).alloc c).alloc d).alloc e):Below w.heap.size w z/\z.heap.size=w.heap.size+5/\z.heap[w.heap.size+1]?=some b/\z.heap[w.heap.size+1+1]?=some c/\z.heap[w.heap.size+1+1+1]?=some d/\z.heap[w.heap.size+1+1+1+1]?=some e:=by
 obtain⟨I,E⟩:∃I,I=((w.alloc a).alloc b).alloc c:=⟨_,rfl⟩;rw[<- E] at h;obtain⟨h1,h2,W,U,V⟩:=yU w a b c E;obtain⟨g1,g2,g3,J⟩:=iI I d e h;have K:I.heap.size=w.heap.size+1+1+1:=by omega
 rw[K] at g3 J;refine⟨h1.trans (g1.mono (by omega)),by omega,?_,?_,g3,J⟩
 ·rw[g1.block _ (by omega)];exact U
 ·rw[g1.block _ (by omega)];exact V
theorem dG.step{K:ByteArray->PL}{i:cL}{E:List Fl}{k:Nat}{Cs:List (ByteArray×fM)}{m:Nat->Int}{f:Fl}{c:fM}{V:Int}(h:dG K i (E.take k) Cs m)(Y:E[k]?=some f)(Z:k<E.length)(W:jE (K f.name) i (m k) f.there f.text c V):dG K i (E.take (k+1)) (Cs++[(f.name,c)]) (λj=>if j=k+1 then V else m j):=by
 have U:Cs.length=k:=by rw[h.len,bR];omega
 refine⟨by simp[U];omega,by simp[h.zero],λj g d I z=>?_⟩;by_cases e:j=k
 ·subst e;rw[dN (by omega),Y] at I
  cases I
  rw[bH (by omega),U,jQ] at z
  cases z
  refine⟨rfl,?_⟩;simpa using W
 ·have J:j<k:=by
   have:=(aB.1 z).1;simp at this;omega
  rw[aZ (by omega)] at z;rw[dN (by omega)] at I;have:=h.at_ j g d (by rw[dN J];exact I) z;simp only[if_neg (show ¬ j=k+1 by omega),if_neg (show ¬ j+1=k+1 by omega)];exact this
theorem aV6.cells{w wr:World}{i:cL}{tb n:Nat}{E:ByteArray->PL}{z:List Fl}{k:Nat}{Cs:List (ByteArray×fM)}{m:Nat->Int}{cv:Value}(h:aV6 w wr i tb n E z k Cs m cv):w.heap.size+1+1+1+1<wr.heap.size:=(aV.1 h.p).1
theorem aW5{S:List aU}{N:List ByteArray}{Q:List dL}(h:dS (aL S) N 0 0 Q):Q.length<=(aL S).length+1:=by
 have:=h.len (aE _) (aE _);omega
theorem aJp(N:List ByteArray):∀(A B:List dL) (n:Int),eO n N (A++B)=eO (eO n N A) N B
 | [],B,n=>rfl
 | q::A,B,n=>by simp only[cI,eO];exact aJp N A B _
theorem aJq(N:List ByteArray)(n:Int)(i k j l:Nat)(z:j<=l)(E:l<=N.length):eO n N (fA i k j l)=n+(l - j:Nat):=by
 unfold fA;split
 ·simp only[eO,bX];simp;omega
 ·have:l=j:=by omega
  subst this;simp[eO]
theorem dS.num{O N:List ByteArray}{i j:Nat}{Q:List dL}(h:dS O N i j Q)(hi:i<=O.length)(z:j<=N.length)(n:Int):eO n N Q<=n+(N.length - j:Nat):=by
 induction h generalizing n with
 | stop h1 h2=>
  have p:=uG hi z h1;have J:=p.2.2.2.1;have I:=p.2.1;rw[aJq N n _ _ _ _ (by omega) (by omega)];omega
 | go h1 h2 h3 ih=>
  have p:=uG hi z h1;rcases p.2.2.2.2 with h|h
  ·have E:=h.2.1;have q:=ih (by omega) E;rw[aJp,aJq N n _ _ _ _ (by omega) (by omega)];refine Int.le_trans (q _) ?_;omega
  ·omega
theorem aRq{p:PL}{i:cL}{n z:Int}{there:Bool}{text:ByteArray}{c:fM}(h:jE p i n there text c z)(h1:(bM text).length<=20)(h2:(aL p.S).length<=900):n<=z/\z<=n+20:=by
 cases c with
 | add i' l rv S=>obtain⟨_,_,_,_,rfl⟩:=h;omega
 | remove i' rv S=>obtain⟨_,_,_,_,rfl⟩:=h;omega
 | alter i' hv Hs=>
  obtain⟨_,_,_,Q,E,_,rfl⟩:=h;have b:=E.num (aE _) (aE _) n;have c:=wL n (bM text) Q;omega
theorem aKr:∀(Cs:List (ByteArray×fM)) (k:Nat) (r:ByteArray×fM),Cs[k]?=some r->(qW Cs)[k * 2]?=some (.string r.1)/\(qW Cs)[k * 2+1]?=some (chV r.2)
 | [],k,r,h=>by simp at h
 | x::Cs,0,r,h=>by simp at h;subst h;simp
 | x::Cs,k+1,r,h=>by
  have z:=aKr Cs k r (by simpa using h);have e:(k+1) * 2=k * 2+2:=by omega
  rw[e];simp only[qW,bL,cI,cY,fB];exact z
theorem aZa{w:World}{B:Nat}{cv:Value}{Cs:List (ByteArray×fM)}(h:w.ownsRow B 226 2 cv Cs.length (qW Cs))(I:∀c∈Cs,aBm w c.2):CV w cv Cs:=by
 have J:=λg=>eZ h (g:=g);rcases h.2 with ⟨rfl,K⟩|⟨g,cp,E,rfl,_,V,U,_⟩
 ·have:Cs=[]:=aS K;subst this;exact⟨none,0,rfl,λk r z=>by simp at z⟩
 ·refine⟨some ⟨g,0,none⟩,cp,rfl,λk r z=>⟨g,0,rfl,⟨E,_,V⟩,?_,?_,I r (aD z)⟩⟩
  ·have:=J g rfl (k * 2) _ (aKr Cs k r z).1;rw[dC,<- this]
   cases k<;>simp[Addr.add]
  ·have:=J g rfl (k * 2+1) _ (aKr Cs k r z).2;rw[dC,<- this];simp[Addr.add]
theorem sJ{w:World}{g:Nat}{z E I J K:Value}{t:TypeId}{f:Nat×Nat}(h:w.heap[g]?=some (.cells #[z,E,I,J,K] t f)):w.cell? ⟨g,0,none⟩=some z/\w.cell? ⟨g,1,none⟩=some E/\w.cell? ⟨g,2,none⟩=some I/\w.cell? ⟨g,3,none⟩=some J/\w.cell? ⟨g,4,none⟩=some K:=by
 simp[World.cell?,h]
theorem aQo(w U V W Y w5 w9:World)(g:Nat)(t:TypeId)(c:Array Value)(hc:c.size=5)(z E I J K:Value)(hg:w.heap[g]?=some (.cells c t (0,0)))
  (e1:U=w.setCell ⟨g,0,none⟩ z) (e2:V=U.setCell ⟨g,1,none⟩ E) (e3:W=V.setCell ⟨g,2,none⟩ I) (e4:Y=W.setCell ⟨g,3,none⟩ J) (e5:w5=Y.setCell ⟨g,4,none⟩ K) (e9:w9=w5) :
  w9.heap[g]?=some (.cells #[z,E,I,J,K] t (0,0))/\iN g w w9:=by
 have g1:=heap_setCell_same w g 0 _ t z hg;have o1:=iN.set w g 0 z;rw[<- e1] at g1 o1;have g2:=heap_setCell_same U g 1 _ t E g1;have o2:=o1.trans (iN.set U g 1 E);rw[<- e2] at g2 o2;have g3:=heap_setCell_same V g 2 _ t I g2;have o3:=o2.trans (iN.set V g 2 I);rw[<- e3] at g3 o3;have g4:=heap_setCell_same W g 3 _ t J g3;have o4:=o3.trans (iN.set W g 3 J);rw[<- e4] at g4 o4;have Z:=heap_setCell_same Y g 4 _ t K g4;have o5:=o4.trans (iN.set Y g 4 K);rw[<- e5] at Z o5;have ha:((((c.setIfInBounds 0 z).setIfInBounds 1 E).setIfInBounds 2 I).setIfInBounds 3 J).setIfInBounds 4 K=#[z,E,I,J,K]:=by
  obtain⟨l⟩:=c
  match l,hc with
  | [y0,y1,y2,y3,y4],_=>simp
 rw[ha] at Z;rw[e9];exact⟨Z,o5⟩
structure MkS (w wr:World) (tb:Nat) (nm:ByteArray) (th:Bool) (tx:ByteArray) (cv:Value) (w':World):Prop where
 t:w'.cell? ⟨w.heap.size+1,0,none⟩=some (.map (some tb))
 f0:w'.cell? ⟨wr.heap.size,0,none⟩=some (.string nm)
 f1:w'.cell? ⟨wr.heap.size,1,none⟩=some (.bool th)
 f2:w'.cell? ⟨wr.heap.size,2,none⟩=some (.string tx)
 p:w'.cell? ⟨w.heap.size+1+1+1+1,4,none⟩=some cv
theorem MkS.of{w wr w':World}{i:cL}{tb:Nat}{nm:ByteArray}{z:Bool}{E:ByteArray}{cv:Value}(h1:w'.heap[w.heap.size+1]?=some (.cells #[.map (some tb)] 121 (0,0)))(h2:w'.heap[wr.heap.size]?=some (.cells #[.string nm,.bool z,.string E] 118 (0,0)))(I:w'.heap[w.heap.size+1+1+1+1]?=some (.cells #[.int .u8 i.a,.int .u8 i.b,.int .u8 i.c,.int .u8 i.d,cv] 149 (0,0))):MkS w wr tb nm z E cv w':=
 ⟨by simp[World.cell?,h1],(dW h2).1,(dW h2).2.1,(dW h2).2.2,by simp[World.cell?,I]⟩
theorem MkS.alloc{w wr w':World}{tb:Nat}{nm:ByteArray}{z:Bool}{E:ByteArray}{cv:Value}(h:MkS w wr tb nm z E cv w')(o:Obj)(h1:w.heap.size+1+1+1+1<w'.heap.size)(h2:wr.heap.size<w'.heap.size):MkS w wr tb nm z E cv (w'.alloc o):=
 ⟨(lJ o (by show w.heap.size+1<_;omega)).1.trans h.t,(lJ o h2).1.trans h.f0,(lJ o h2).1.trans h.f1,(lJ o h2).1.trans h.f2,(lJ o h1).1.trans h.p⟩
theorem aGh(i:cL)(tb n:Nat)(st:ByteArray->PL)(Fs:List Fl)(fv:Value)(w:World)(hT:cK w tb st n)(j3:n<=100000)(hF:FV w fv Fs)(j4:Fs.length<=300)(f7:∀f∈Fs,aVx st f):
  Calls Tryz.prog 110 #[.agg #[.int .u8 i.a,.int .u8 i.b,.int .u8 i.c,.int .u8 i.d],.agg #[.map (some tb)],fv] w λe w'=>∃cv Cs m,e=.returned (.agg #[.int .u8 i.a,.int .u8 i.b,.int .u8 i.c,.int .u8 i.d,cv])/\CV w' cv Cs/\dG st i Fs Cs m/\Below w.heap.size w w':=by
 obtain⟨i0,hi,i6,i7,i8⟩:=info_parts Tryz.info226;have f9:=aO hF;obtain⟨fa,fc,rfl,h7⟩:=hF;clear h7;have j9:=hT.lt;obtain⟨w5,d2⟩:∃w5,w5=((((w.alloc (.cells #[.int .u8 i.a,.int .u8 i.b,.int .u8 i.c,.int .u8 i.d] 113)).alloc (.cells #[.map (some tb)] 121)).alloc (.cells #[.int .u8 0,.int .u8 0,.int .u8 0,.int .u8 0,.slice none 0 0] 149)).alloc (.cells #[.int .u8 i.a,.int .u8 i.b,.int .u8 i.c,.int .u8 i.d,.int .i64 0] 221)).alloc (.cells #[.int .u8 i.a,.int .u8 i.b,.int .u8 i.c,.int .u8 i.d,.slice none 0 0] 149):=⟨_,rfl⟩;obtain⟨b1,b2,b3,b4,b5,b6⟩:=aN3 w _ _ _ _ _ d2;have E:Hid (aV6 w w5 i tb n st Fs 0 [] (λ_=>0) (.slice none 0 0)):=⟨b1,hT.below b1 (aA _),b3,b4,b5,b6,aK _ _ _ _,by simp,⟨by simp,rfl,by simp⟩,by simp⟩;have g4:=aO f7;clear b1 b2 b3 b4 b5 b6 hT f7;go_enter Tryz.func110,Tryz.ntmps110;go_wp2;rw[<- d2];clear d2
 go_loopw [17] (λx wr=>∃(k:Nat) (Cs:List (ByteArray×fM)) (m:Nat->Int) (cv:Value),k<=Fs.length/\x=.int .i64 k/\Hid (aV6 w wr i tb n st Fs k Cs m cv)) (λx _=>Fs.length - (intOf x).toNat)
 case atStart=>exact⟨0,[],λ_=>0,.slice none 0 0,aE _,rfl,E⟩
 case round=>
  clear E;obtain⟨k,Cs,m,cv,j5,rfl,E⟩:=hrel;by_cases f6:k<Fs.length
  ·obtain⟨f,b9⟩:∃f,Fs[k]?=some f:=⟨_,aC f6⟩;obtain⟨_,_,e1,e5⟩:=f9.out.below E.out.bel (aA _)
   cases e1
   obtain⟨b,o,rfl,hb,c0,c1,c2⟩:=e5 k f b9;have f8:=aO b9;have a0:=g4.out f (aD b9);have c5:=aO a0;have h9:=a0.name;obtain⟨nm,th,tx⟩:=f;simp only at c0 c1 c2 h9;obtain⟨w6,b0⟩:∃w6,w6=wr.alloc (.cells #[.string nm,.bool th,.string tx] 118):=⟨_,rfl⟩;have U:Below wr.heap.size wr w6:=by rw[b0];exact(Below.refl _ _).alloc (aA _) _
   have d0:w6.heap[wr.heap.size]?=some (.cells #[.string nm,.bool th,.string tx] 118 (0,0)):=by rw[b0];exact(aH wr _).1
   have i4:wr.heap.size<w6.heap.size:=by rw[b0];simp
   have h8:=E.out.cells;clear e5 b9 a0
   go_wp2_with fail
   rw[<- b0];clear b0 c0 c1 c2;have c3:cK w6.drew tb st n:=(E.out.tree.below U (aA _)).below ((Below.refl _ _).drew) (aA _);obtain⟨l,f5,e8,f3⟩:=c3.look nm (by omega);have d4:=(U.block (w.heap.size+1) (by omega)).trans E.out.tbx;have d1:=(U.block (w.heap.size+1+1+1+1) (by omega)).trans E.out.p;have J:Hid (MkS w wr tb nm th tx cv w6.drew):=MkS.of d4 d0 d1;have e3:pC w6.drew (w.heap.size+1+1+1) i (m k):=(U.block (w.heap.size+1+1+1) (by omega)).trans E.out.mkr;have i5:=E.out.small;have HC:Hid (Calls Tryz.prog 175 #[.pointer (some ⟨w.heap.size+1+1+1,0,none⟩),kT l,.agg #[.string nm,.bool th,.string tx]] w6.drew λe W=>∃c n',e=.returned (.iface (chT c) (aAq c))/\jE (st nm) i (m k) th tx c n'/\aBm W c/\pC W (w.heap.size+1+1+1) i n'/\lZ w6 W (w.heap.size+1+1+1)):=by
    have a0:=c5.out;refine(aHz (st nm) l i (m k) (w.heap.size+1+1+1) nm tx th w6.drew e8 f3 e3 a0.text (by have:=a0.lines;simp only at this;omega) a0.row i5.1 (by omega) (λQ hg j=>?_)).mono ?_
    ·have h1:=aW5 hg;have h2:=a0.living;have h3:=a0.lines;simp only at h2 h3;have h4:(Q.take j).length<=901:=by rw[bR];omega
     have h5:=aO8 (bM tx) (Q.take j) (m k) 20 (λq _=>by unfold bX;simp;omega);have h6:=wL (m k) (bM tx) (Q.take j);have:((Q.take j).length:Int) * (20:Nat)<=901 * 20:=by omega
     omega
    ·rintro e W ⟨c,n',rfl,h1,h2,h3,h4⟩;exact⟨c,n',rfl,h1,h2,h3,⟨h4.os,h4.tape,h4.output,h4.size,h4.block⟩⟩
   obtain⟨lc,f4⟩:∃lc,kT l=lc:=⟨_,rfl⟩;rw[f4] at f5 HC;have V:w6.ownsRow (w.heap.size+5) 226 2 cv k (qW Cs):=bQ E.out.row U (aA _);have e0:=aO V;have g5:=aO d1;have d7:=aO d0;have g7:=aO d4;have Y:Hid (∀j,cv.ownBlock=some j->w.heap.size+5<=j/\j<w6.heap.size/\TB w6 j 226):=λj hj=>⟨(V.lt j hj).1,(V.lt j hj).2,dI V hj⟩;clear c3 e8 f3 f4 d0 d4 d1 e3 V hb;refine dF (MkS w wr tb nm th tx cv) 15 (by kernel_rfl) ?_;refine zt 0 (v:=?v0) J.out (λw0 z=>?hy) ?_
   case hy=>obtain⟨s1,s2,s3,s4,s5⟩:=z;go_simp;with_reducible rfl
   simp only[Act.put,aW];refine zt 1 (v:=?v1) J.out (λw0 z=>?hy) ?_
   case hy=>obtain⟨s1,s2,s3,s4,s5⟩:=z;go_simp;with_reducible rfl
   simp only[Act.put];refine zt 2 (v:=?v2) J.out (λw0 z=>?hy) ?_
   case hy=>obtain⟨s1,s2,s3,s4,s5⟩:=z;go_simp;with_reducible rfl
   simp only[Act.put];refine zt 3 (v:=?v3) J.out (λw0 z=>?hy) ?_
   case hy=>obtain⟨s1,s2,s3,s4,s5⟩:=z;go_simp;with_reducible rfl
   simp only[Act.put];refine zt 4 (v:=?v4) J.out (λw0 z=>?hy) ?_
   case hy=>obtain⟨s1,s2,s3,s4,s5⟩:=z;go_simp;with_reducible rfl
   simp only[Act.put];refine zt 5 (v:=?v5) J.out (λw0 z=>?hy) ?_
   case hy=>obtain⟨s1,s2,s3,s4,s5⟩:=z;go_simp;with_reducible rfl
   simp only[Act.put];refine zt 6 (v:=?v6) J.out (λw0 z=>?hy) ?_
   case hy=>obtain⟨s1,s2,s3,s4,s5⟩:=z;go_simp;with_reducible rfl
   simp only[Act.put];refine zt 7 (v:=?v7) J.out (λw0 z=>?hy) ?_
   case hy=>obtain⟨s1,s2,s3,s4,s5⟩:=z;go_simp;with_reducible rfl
   simp only[Act.put];refine zt 9 (v:=?v9) J.out (λw0 z=>?hy) ?_
   case hy=>obtain⟨s1,s2,s3,s4,s5⟩:=z;go_simp;with_reducible rfl
   simp only[Act.put];refine bT 8 _ rfl (by kernel_rfl) (λK Z=>?_);go_simp;refine Z.out _ _ (λ_=>J.out) ?_;clear Z;refine bT 10 _ rfl (by kernel_rfl) (λK Z=>?_);go_simp;refine HC.out.mono ?_;rintro e W ⟨c,n',rfl,e6,e7,e4,a7⟩;have d5:=aO a7;have j7:w6.heap.size<=W.heap.size:=a7.size;have c8:Hid (W.heap[w.heap.size+1]?=some (.cells #[.map (some tb)] 121 (0,0))):=(a7.block _ (by omega) (by omega)).trans g7.out;have c6:Hid (W.heap[wr.heap.size]?=some (.cells #[.string nm,.bool th,.string tx] 118 (0,0))):=(a7.block _ i4 (by omega)).trans d7.out;have c7:Hid (W.heap[w.heap.size+1+1+1+1]?=some (.cells #[.int .u8 i.a,.int .u8 i.b,.int .u8 i.c,.int .u8 i.d,cv] 149 (0,0))):=(a7.block _ (by omega) (by omega)).trans g5.out;have b7:=aO (MkS.of c8.out c6.out c7.out);have c4:=aO e6;have d6:=aO e7;have d9:=aO e4;clear e6 e7 e4 a7 HC f5 J;dsimp only;refine Z.out _ _ (λ_=>b7.out) ?_;clear Z;refine bT 11 _ rfl (by kernel_rfl) (λK Z=>?_);go_simp;refine Z.out _ _ (λ_=>b7.out) ?_;clear Z;refine bT 12 _ rfl (by kernel_rfl) (λK Z=>?_);go_simp;refine Z.out _ _ (λ_=>b7.out.alloc _ (by omega) (by omega)) ?_;clear Z;refine bT 13 _ rfl (by kernel_rfl) (λK Z=>?_);refine step_append_lies _ (by rfl) _ _ _ (by rfl) (w.heap.size+5) 226 i0 _ 2 32 Tryz.underlying147 hi i6 i7 i8 rfl (by omega) cv k (qW Cs) (by rfl) (((pT e0.out d5.out (by omega)).alloc _)) ⟨W.heap.size,0,none⟩ 1 1 [.string nm,.iface (chT c) (aAq c)] (by rfl) (by rfl) (World.news_of_block (cs:=#[.string nm,.iface (chT c) (aAq c)]) (t:=226) (fr:=(0,0)) (heap_alloc_new W _)) (by simp[Value.oneCell']) (by omega) (by unfold maxLen;omega) (by omega) (by simp;omega) (W.heap.size+1) (by simp) ?_;intro g cap w8 a9 a2 g8 i9;have a5:∀j,j<W.heap.size->(∀q,cv.ownBlock=some q->j≠q)->w8.heap[j]?=W.heap[j]?:=λj hj a8=>(a2.block j (by simp;omega) (λe=>a8 j e.symm rfl)).trans (Below.heap_alloc W _ _ hj);have a6:Hid (w8.heap[w.heap.size+1+1+1+1]?=some (.cells #[.int .u8 i.a,.int .u8 i.b,.int .u8 i.c,.int .u8 i.d,cv] 149 (0,0))):=(a5 _ (by omega) (λq hq=>by have:=(Y.out q hq).1;omega)).trans c7.out;have e2:Hid (w8.heap[w.heap.size+1]?=some (.cells #[.map (some tb)] 121 (0,0))):=(a5 _ (by omega) (λq hq=>by have:=(Y.out q hq).1;omega)).trans c8.out;have d8:Hid (w8.heap[wr.heap.size]?=some (.cells #[.string nm,.bool th,.string tx] 118 (0,0))):=(a5 _ (by omega) (λq hq e=>by obtain⟨_,_,A,fz,h⟩:=Y.out q hq;rw[<- e,d7.out] at h;simp at h)).trans c6.out;have b8:=aO (MkS.of e2.out d8.out a6.out);have p8:w8.cell? ⟨w.heap.size+1+1+1+1,4,none⟩=some cv:=b8.out.p;have z8:w8.frozen? ⟨w.heap.size+1+1+1+1,4,none⟩=false:=eG a6.out 4;have H8:=aO a9;have a1:=aO a2;clear a9 a2 g8;refine Z.out _ _ (λ_=>b8.out) ?_;clear Z;simp only[Act.put,aW];refine bT 14 _ rfl (by kernel_rfl) (λK Z=>?_);go_simp;refine Z.out _ _ (λ_=>b8.out) ?_;clear Z;refine bT 15 _ rfl (by kernel_rfl) (λK Z=>?_);go_simp;refine Z.out _ _ (λh=>absurd rfl h) ?_;clear Z;refine fJ (by kernel_rfl) ?_ _;have HN:Hid (aV6 w (w8.setCell ⟨w.heap.size+1+1+1+1,4,none⟩ (.slice (some ⟨g,0,none⟩) (k+1) cap)) i tb n st Fs (k+1) (Cs++[(nm,c)]) (λj=>if j=k+1 then n' else m j) (.slice (some ⟨g,0,none⟩) (k+1) cap)):=by
    have I:=E.out;have a3:=d5.out;have held:aE4 wr (w8.setCell ⟨w.heap.size+1+1+1+1,4,none⟩ (.slice (some ⟨g,0,none⟩) (k+1) cap)):=by
     refine(((bU.of_below U).trans (bU.of_but a3 ⟨_,_,(U.block _ (by omega)).trans I.mkr⟩ (by simp[rows]))).trans (bU.alloc W _)).trans ((bU.of_grown a1.out (λq hq=>⟨226,?_,by simp[rows]⟩)).trans (bU.set ⟨_,_,a6.out⟩ (by simp[rows]) _));obtain⟨h1,h2,h3⟩:=Y.out q hq;refine h3.same ?_;rw[Below.heap_alloc W _ _ (by omega)];exact a3.block q h2 (by omega)
    have c9:aE4 W (w8.setCell ⟨w.heap.size+1+1+1+1,4,none⟩ (.slice (some ⟨g,0,none⟩) (k+1) cap)):=by
     refine(bU.alloc W _).trans ((bU.of_grown a1.out (λq hq=>⟨226,?_,by simp[rows]⟩)).trans (bU.set ⟨_,_,a6.out⟩ (by simp[rows]) _));obtain⟨h1,h2,h3⟩:=Y.out q hq;refine h3.same ?_;rw[Below.heap_alloc W _ _ (by omega)];exact a3.block q h2 (by omega)
    have far:∀j,j<w.heap.size+5->j≠w.heap.size+1+1+1+1->(w8.setCell ⟨w.heap.size+1+1+1+1,4,none⟩ (.slice (some ⟨g,0,none⟩) (k+1) cap)).heap[j]?=W.heap[j]?:=λj hj a8=>(Below.heap_setCell _ _ _ _ a8).trans (a5 j (by omega) (λq hq=>by have:=(Y.out q hq).1;omega));have a4:∀j,j<w.heap.size+5->j≠w.heap.size+1+1+1+1->j≠w.heap.size+1+1+1->(w8.setCell ⟨w.heap.size+1+1+1+1,4,none⟩ (.slice (some ⟨g,0,none⟩) (k+1) cap)).heap[j]?=wr.heap[j]?:=λj hj h1 h2=>(far j hj h1).trans ((a3.block j (by omega) h2).trans (U.block j (by omega)));have j8:W.heap.size<=w8.heap.size:=by have:=a1.out.size;simp at this;omega
    have j0:=I.bel.size;have e9:(w8.setCell ⟨w.heap.size+1+1+1+1,4,none⟩ (.slice (some ⟨g,0,none⟩) (k+1) cap)).heap.size=w8.heap.size:=by simp[World.setCell]
    have j6:=aRq c4.out c5.out.lines c5.out.living;refine⟨⟨?_,?_,?_,?_,λj hj=>?_⟩,I.tree.held held (a4 tb (by omega) (by omega) (by omega)),(a4 _ (by omega) (by omega) (by omega)).trans I.tbx,(a4 _ (by omega) (by omega) (by omega)).trans I.res,?_,heap_setCell_same w8 _ 4 _ 149 _ a6.out,?_,?_,I.made.step f8.out f6 c4.out,?_⟩
    ·exact a1.out.os.trans (a3.os.trans (U.os.trans I.bel.os))
    ·exact a1.out.tape.trans (a3.tape.trans (U.tape.trans I.bel.tape))
    ·exact a1.out.output.trans (a3.output.trans (U.output.trans I.bel.output))
    ·omega
    ·exact(a4 j (by omega) (by omega) (by omega)).trans (I.bel.block j hj)
    ·show pC _ _ _ (if k+1=k+1 then n' else m (k+1));rw[if_pos rfl];exact(far _ (by omega) (by omega)).trans d9.out
    ·rw[qW,eE];exact ownsRow_setCell_below H8.out (a:=⟨w.heap.size+1+1+1+1,4,none⟩) (by show w.heap.size+1+1+1+1<_;omega) _
    ·intro x hx;rcases aG.1 hx with hx|hx
     ·exact(I.ok x hx).held held
     ·rw[bE] at hx;subst hx;exact d6.out.held c9
    ·simp only;have:=I.small
     push_cast
     omega
   clear a1 H8 a6 e2 d8 b8 c7 c8 c6 b7 d6 d9 c4 E p8 z8;go_wp2
   go_roundw
   case rel=>exact⟨k+1,_,_,_,by omega,by go_num,HN⟩
   case measure=>simp[intOf];omega
  ·obtain rfl:k=Fs.length:=by omega
   have h8:=E.out.cells;obtain⟨ca,cc,h0⟩:=bC E.out.row;subst h0;obtain⟨q0,q1,q2,q3,q4⟩:=sJ E.out.p;obtain⟨r0,r1,r2,r3,r4⟩:=sJ E.out.res;have z0:=eG E.out.res 0;have z1:=eG E.out.res 1;have z2:=eG E.out.res 2;have z3:=eG E.out.res 3;have z4:=eG E.out.res 4;obtain⟨w9,d3⟩:∃w9,w9=((((wr.setCell ⟨w.heap.size+1+1,0,none⟩ (.int .u8 i.a)).setCell ⟨w.heap.size+1+1,1,none⟩ (.int .u8 i.b)).setCell ⟨w.heap.size+1+1,2,none⟩ (.int .u8 i.c)).setCell ⟨w.heap.size+1+1,3,none⟩ (.int .u8 i.d)).setCell ⟨w.heap.size+1+1,4,none⟩ (.slice ca Fs.length cc):=⟨_,rfl⟩;obtain⟨s1,s2⟩:=aQo wr _ _ _ _ _ w9 (w.heap.size+1+1) 149 _ rfl _ _ _ _ _ E.out.res rfl rfl rfl rfl rfl d3;have g9:Below w.heap.size w w9:=⟨s2.os.trans E.out.bel.os,s2.tape.trans E.out.bel.tape,s2.output.trans E.out.bel.output,by rw[s2.size];exact E.out.bel.size,λj hj=>(s2.block j (by omega)).trans (E.out.bel.block j hj)⟩;have g6:Hid (CV w9 (.slice ca Fs.length cc) Cs):=by
    have hl:Cs.length=Fs.length:=by rw[E.out.made.len,bR];omega
    have h1:=E.out.row;rw[<- hl] at h1;have h2:=(aZa h1 E.out.ok).held (bU.of_but ⟨s2.os,s2.tape,s2.output,by rw[s2.size];exact aA _,λj _ a8=>s2.block j a8⟩ ⟨_,_,E.out.res⟩ (by simp[aBe]));rw[hl] at h2;exact h2
   have g0:Hid (dG st i Fs Cs m):=by
    have:=E.out.made;rw[bD] at this;exact this
   clear E s2;go_wp2;rw[<- d3];clear d3;refine bodyPost_ret (results_cell_row (p:=6) (ty:=149) (by kernel_rfl) _ _ (w.heap.size+1+1) 149 _ (0,0) _ rfl s1 Tryz.underlying149 rfl (by kernel_rfl)) rfl ?_;exact⟨_,Cs,m,rfl,g6.out,g0.out,g9⟩
abbrev lF:cL:=⟨0,0,0,0⟩
def wW(i:cL)(al:Bool):aU:=⟨i.a,i.b,i.c,i.d,-3,ByteArray.empty,al⟩
def aLe(S:List aU):List aU:=cD (cA S)
def pR:fM->List aU
 | .add _ l _ _=>[wW l false]
 | .remove i _ S=>wW i true::S
 | .alter i _ Hs=>wW i true::Hs.flatMap (·.N)
def rH:fM->List aU
 | .add ..=>[]
 | .remove i _ S=>aLe (wW i true::S)
 | .alter _ _ Hs=>Hs.flatMap λh=>aLe (cV h.N)
def xK(N:List aU)(i:cL)(K:List aU):Prop:=∃s∈N,mM s=i\/s∈K
theorem aGb{S:List aU}{s:aU}(h:s∈aLe S):∃t∈S,t.alive=true/\s=lY t:=by
 obtain⟨t,z,rfl⟩:=aI.1 h;obtain⟨h1,h2⟩:=cT.1 z;exact⟨t,h1,h2,rfl⟩
def pH(p:PL):List (cL×Int):=if p.alive=true then (p.by_,-3)::(cA p.S).map jO else []
theorem aA0{p:PL}{s:aU}(z:p.alive=true)(hs:s∈p.S)(h:s.alive=true):jO s∈pH p:=by
 unfold pH;rw[if_pos z];exact dP _ (aI.2 ⟨s,cT.2 ⟨hs,h⟩,rfl⟩)
theorem nJ{p:PL}{c:cL×Int}(h:c∈pH p):p.alive=true/\(c=(p.by_,-3)\/∃s∈p.S,s.alive=true/\c=jO s):=by
 unfold pH at h;split at h
 ·rename_i z
  rcases cC.1 h with h|h
  ·exact⟨z,.inl h⟩
  ·obtain⟨s,hs,rfl⟩:=aI.1 h;obtain⟨h1,h2⟩:=cT.1 hs;exact⟨z,.inr ⟨s,h1,h2,rfl⟩⟩
 ·simp at h
structure fV (ids:List cL) (p:PL):Prop where
 nd:(p.S.map jO).Nodup
 own:∀s∈p.S,mM s∈ids/\0<=s.num
 byA:p.alive=true->p.by_∈ids
 byZ:p.by_∈ids\/p.by_=lF
 dead:p.alive=false->∀s∈p.S,s.alive=false
def aKd(ids:List cL)(c:fM)(p:PL):Prop:=∀t∈pR c,(mM t∈ids\/mM t=lF)/\(t.alive=false->jO t∉pH p)
theorem aO6{S:List aU}(h:(S.map jO).Nodup){s t:aU}(hs:s∈S)(z:t∈S)(e:jO s=jO t):s=t:=by
 induction S with
 | nil=>simp at hs
 | cons x S ih=>
  rw[cU,iC] at h;rcases cC.1 hs with e1|hs'<;>rcases cC.1 z with e2|ht'
  ·rw[e1,e2]
  ·exact absurd (aI.2 ⟨t,ht',by rw[<- e,e1]⟩) h.1
  ·exact absurd (aI.2 ⟨s,hs',by rw[e,e2]⟩) h.1
  ·exact ih h.2 hs' ht'
theorem aJl{F:List aU}{q:dL}{s:aU}(h:s∈dA F q):s∈F:=cG (dU h)
theorem kE{S:List aU}{s:aU}(h:s∈aM S):s=jR\/s∈S\/s=lD:=by
 unfold aM at h;rcases cC.1 h with h|h
 ·exact .inl h
 ·rcases aG.1 h with h|h
  ·exact .inr (.inl h)
  ·exact .inr (.inr (bE.1 h))
theorem mZ{ids:List cL}{p:PL}(h:fV ids p)(J:lF∉ids):((aM p.S).map jO).Nodup:=by
 unfold aM;rw[cU,bF,iC,cP];have E:∀c∈p.S.map jO,0<=c.2:=λc U=>by
  obtain⟨s,hs,rfl⟩:=aI.1 U;exact(h.own s hs).2
 refine⟨λz=>?_,h.nd,by simp,λa K b I e=>?_⟩
 ·rcases aG.1 z with z|z
  ·have:=E _ z;simp[jO,jR,gE] at this
  ·simp[jO,jR,lD,gE] at z
 ·subst e;have:=E _ K;simp only[cU,lA,bE] at I;rw[I] at this;simp[jO,lD,gE] at this
theorem nL{S:List aU}(h:(S.map jO).Nodup):S.Nodup:=by
 rw[List.Nodup,jB] at h;exact h.imp λz e=>z (by rw[e])
theorem pN{ids:List cL}{p:PL}(h:fV ids p){i:cL}(hi:i∉ids)(z:i≠lF):∀s∈aM p.S,¬ (s.a=i.a/\s.b=i.b/\s.c=i.c/\s.d=i.d):=by
 rintro s hs ⟨h1,h2,E,I⟩;have e:mM s=i:=by unfold mM;rw[h1,h2,E,I]
 rcases kE hs with rfl|hs|rfl
 ·exact z (by rw[<- e];rfl)
 ·exact hi (e▸(h.own s hs).1)
 ·exact z (by rw[<- e];rfl)
theorem aRp{ids:List cL}{p:PL}(h:fV ids p){i:cL}{n n':Int}{there:Bool}{text:ByteArray}{c:fM}(U:jE p i n there text c n'):∀t∈pR c,(mM t∈ids\/mM t=lF)/\(t.alive=false->jO t∉pH p):=by
 have E:p.alive=true->∀t,t∈p.S->(mM t∈ids\/mM t=lF)/\(t.alive=false->jO t∉pH p):=λV t z=>by
  refine⟨.inl (h.own t z).1,λI J=>?_⟩;obtain⟨_,J⟩:=nJ J;rcases J with J|⟨s,hs,h2,W⟩
  ·have:=(h.own t z).2;have e2:t.num=-3:=congrArg Prod.snd J;omega
  ·have:=aO6 h.nd z hs W;subst this;rw[I] at h2
   cases h2
 have K:∀al,p.alive=true->al=true->(mM (wW p.by_ al)∈ids\/mM (wW p.by_ al)=lF)/\((wW p.by_ al).alive=false->jO (wW p.by_ al)∉pH p):=λal V e=>by
  subst e;exact⟨.inl (h.byA V),λI=>by cases I⟩
 cases c with
 | add i' l rv S=>
  obtain⟨h1,_,rfl,_⟩:=U;intro t z;rw[bE.1 z];refine⟨h.byZ,λ_ J=>?_⟩;have:=(nJ J).1;rw[h1] at this
  cases this
 | remove i' rv S=>
  obtain⟨h1,_,rfl,rfl,_⟩:=U;intro t z;rcases cC.1 z with rfl|z
  ·exact K true h1 rfl
  ·exact E h1 t z
 | alter i' hv Hs=>
  obtain⟨h1,_,rfl,Q,hg,Z,_⟩:=U;intro t z;rcases cC.1 z with rfl|z
  ·exact K true h1 rfl
  ·obtain⟨x,hx,z⟩:=dD.1 z;obtain⟨k,Y⟩:=bI.1 hx;obtain⟨q,_,e,_⟩:=Z.2 k x Y;rw[e] at z;rcases kE (aJl z) with rfl|hs|rfl
   ·exact⟨.inr rfl,λI=>by cases I⟩
   ·exact E h1 t hs
   ·exact⟨.inr rfl,λI=>by cases I⟩
theorem aJk{S:List aU}{q:dL}(E:q.i<=q.k)(U:q.k+1<(living (aM S)).length){s:aU}(h:s∈cV (dA (aM S) q)):s∈S:=by
 have h1:av (aM S) q<bv (aM S) q/\bv (aM S) q<(aM S).length:=by
  have:=qD.at (F:=aM S) (x:=0) (q:=q) (R:=[]) ⟨aE _,E,U,trivial⟩;exact⟨this.2.1,this.2.2.1⟩
 have e:cV (dA (aM S) q)=((aM S).take (bv (aM S) q)).drop (av (aM S) q+1):=aCb h1.1 h1.2;rw[e] at h;have V:(aM S).length=S.length+2:=by simp[aM]
 have K:bv (aM S) q<=(jR::S).length:=by
  have:=h1.2;rw[V] at this;rw[aY];omega
 have J:(aM S).take (bv (aM S) q)=(jR::S).take (bv (aM S) q):=by
  show ((jR::S)++[lD]).take _=_;rw[fD K]
 obtain⟨I,z⟩:∃I,bv (aM S) q=I+1:=⟨bv (aM S) q - 1,by have:=h1.1;omega⟩;rw[J,z,oZ,oY] at h;exact cG (dU h)
theorem aRn{ids:List cL}{p:PL}(_h:fV ids p){i:cL}{n n':Int}{there:Bool}{text:ByteArray}{c:fM}(K:jE p i n there text c n'):∀s∈rH c,s.alive=false/\jO s∈pH p:=by
 cases c with
 | add i' l rv S=>intro s hs;simp[rH] at hs
 | remove i' rv S=>
  obtain⟨h1,_,rfl,rfl,_⟩:=K;intro s hs;obtain⟨t,E,I,rfl⟩:=aGb hs;refine⟨rfl,?_⟩;rw[aNf];rcases cC.1 E with rfl|E
  ·unfold pH;rw[if_pos h1];exact eT
  ·exact aA0 h1 E I
 | alter i' hv Hs=>
  obtain⟨h1,_,rfl,Q,U,Y,_⟩:=K;intro s hs;obtain⟨x,hx,hs⟩:=dD.1 hs;obtain⟨t,E,I,rfl⟩:=aGb hs;refine⟨rfl,?_⟩;rw[aNf];obtain⟨k,V⟩:=bI.1 hx;obtain⟨q,z,e,_⟩:=Y.2 k x V;rw[e] at E;have Z:=U.ord (aE _) (aE _);have J:=gord_mem Z (aD z);have W:=fK p.S;exact aA0 h1 (aJk J.1 (by omega) E) I
where
 gord_mem {m:Nat}:∀{x:Nat} {Q:List dL},qD m x Q->∀{q:dL},q∈Q->q.i<=q.k/\q.k+1<m
  | _,[],_,_,z=>by simp at z
  | _,q'::R,h,q,z=>by
   rcases cC.1 z with rfl|z
   ·exact⟨h.2.1,h.2.2.1⟩
   ·exact gord_mem h.2.2.2 z
theorem aF8(Ps:List PM)(pv:Value)(st:Nat->Nat->ByteArray->PL)(a0:Nat->Nat)(rb:Nat)(ro:Nat)(w:World)(hp:PV w pv Ps)(hg:∀u,Below w.heap.size w u->aMt u Ps st a0)(a2:Ps.length<=10000)(hr:w.cell? ⟨rb,ro,none⟩=some pv)(a5:rb<w.heap.size):
  Calls Tryz.prog 77 #[.pointer (some ⟨rb,ro,none⟩)] w λe w'=>∃E n,e=.returned (.agg #[.map (some E)])/\cK w' E (st Ps.length 0) n/\n<=100000/\w.heap.size<=E/\Below w.heap.size w w':=by
 obtain⟨K,J⟩:∃K,K=w.alloc (.cells #[.map none] 121):=⟨_,rfl⟩;have V:Below w.heap.size w K:=by rw[J];exact(Below.refl _ _).alloc (aA _) _
 have a4:K.heap[w.heap.size]?=some (.cells #[.map none] 121 (0,0)):=by rw[J];exact(aH w _).1
 have a6:w.heap.size<K.heap.size:=by rw[J];simp
 have a8:=(V.cell (p:=⟨rb,ro,none⟩) a5).trans hr;have HG:Hid (Calls Tryz.prog 123 #[pv] K λe w'=>∃E n,e=.returned (.agg #[.map (some E)])/\cK w' E (st Ps.length 0) n/\n<=100000/\K.heap.size<=E/\Below K.heap.size K w'):=aF3 Ps pv st a0 K (hp.below V (aA _)) (hg K V) a2;obtain⟨pa,pc,rfl,_⟩:=hp;clear hg;go_enter Tryz.func77,Tryz.ntmps77
 go_wp2_with fail
 rw[<- J];clear J;refine HG.out.mono ?_;rintro e w2 ⟨E,n,rfl,ht,hn,a7,Y⟩;clear HG;have I:=(Y.block _ a6).trans a4;have r0:w2.cell? ⟨w.heap.size,0,none⟩=some (.map none):=by simp[World.cell?,I]
 have z0:=eG I 0;obtain⟨w9,Z⟩:∃w9,w9=w2.setCell ⟨w.heap.size,0,none⟩ (.map (some E)):=⟨_,rfl⟩;have s1:=heap_setCell_same w2 w.heap.size 0 _ 121 (.map (some E)) I;have U:=iN.set w2 w.heap.size 0 (.map (some E));rw[<- Z] at s1 U;have z:Below w.heap.size w w2:=V.trans (Y.mono (by omega));have a3:Below w.heap.size w w9:=⟨U.os.trans z.os,U.tape.trans z.tape,U.output.trans z.output,by rw[U.size];exact z.size,λk hk=>(U.block k (by omega)).trans (z.block k hk)⟩;have a1:Hid (cK w9 E (st Ps.length 0) n):=by
  obtain⟨f,has,D,⟨es,W,he,hr⟩,h2,h3,h4,h5,h6⟩:=ht;exact⟨f,has,D,⟨es,W,(U.block _ (by omega)).trans he,hr⟩,h2,h3,h4,h5,λx=>(h6 x).far I (by simp) (by rw[U.size];exact aA _) (λk _ hk=>U.block k hk)⟩
 clear ht U I Y;go_wp2;rw[<- Z];clear Z;refine bodyPost_ret (results_cell_row (p:=2) (ty:=121) (by kernel_rfl) _ _ w.heap.size 121 _ (0,0) _ rfl s1 Tryz.underlying121 rfl (by kernel_rfl)) rfl ?_;exact⟨E,n,rfl,a1.out,hn,by omega,a3⟩
theorem cK.kat{w:World}{z n:Nat}{E:ByteArray->PL}(h:cK w z E n)(V:n<=1000000):∃f has,KAt w z f has/\(∀x,qV (f x) (E x))/\∀x,SV w (f x).rv (f x).S:=by
 obtain⟨f,has,D,h1,h2,I,J,K,U⟩:=h;exact⟨f,has,⟨n,D,V,h1,h2,I,J⟩,K,U⟩
def nZ(st:ByteArray->PL)(x:ByteArray):Value:=if (st x).alive=true then aFz x true (dM (st x).S) else aFz x false ⟨#[]⟩
theorem qI(z:ByteArray->PL)(E n:Nat)(x:ByteArray)(U:x.size<=1000000)(w:World)(h:cK w E z n)(hn:n<=1000000)(W:(z x).S.length<=1000000)(Y:(dM (z x).S).size<=1000000000):
  Calls Tryz.prog 78 #[.agg #[.map (some E)],.string x] w λe w'=>e=.returned (nZ z x)/\Below w.heap.size w w':=by
 obtain⟨f,has,K,Z,hs⟩:=h.kat hn;obtain⟨e1,V,I⟩:=Z x;have e:oQ f x=nZ z x:=by unfold oQ nZ;rw[V,I]
 rw[<- e]
 cases J:(f x).alive
 ·exact aNy f has E x U w K (hs x) J
 ·exact aKx f has E x U w K (hs x) J (by rw[I];exact W) (by rw[I];exact Y)
theorem aB4(Ps:List PM)(pv:Value)(z:Nat->Nat->ByteArray->PL)(U:Nat->Nat)(rb ro:Nat)(x:ByteArray)(w:World)(hp:PV w pv Ps)(hg:∀u,Below w.heap.size w u->∀v,Below u.heap.size u v->aMt v Ps z U)(a3:Ps.length<=10000)(hr:w.cell? ⟨rb,ro,none⟩=some pv)(a1:rb<w.heap.size)
  (hx:x.size<=1000000) (a0:dJ x=true) (V:(z Ps.length 0 x).alive=true) (hS:(z Ps.length 0 x).S.length<=1000000) (hT:(dM (z Ps.length 0 x).S).size<=1000000000) :
  Calls Tryz.prog 46 #[.pointer (some ⟨rb,ro,none⟩),.string x] w λe w'=>e=.returned (.tuple #[.string (dM (z Ps.length 0 x).S),.int .i64 0])/\Below w.heap.size w w':=by
 have HN:Hid (Calls Tryz.prog 61 #[.string x] w λe w'=>e=.returned (.bool true)/\Below w.heap.size w w'):=by
  have:=iF x w;rw[a0] at this;exact this
 obtain⟨T,I⟩:∃T,dM (z Ps.length 0 x).S=T:=⟨_,rfl⟩;have Z:nZ (z Ps.length 0) x=.agg #[.string x,.bool true,.string T]:=by unfold nZ;rw[if_pos V,I];rfl
 have a2:=aO I;have HF:Hid (∀w' E n,n<=100000->cK w' E (z Ps.length 0) n->Calls Tryz.prog 78 #[.agg #[.map (some E)],.string x] w' λe a6=>e=.returned (.agg #[.string x,.bool true,.string T])/\Below w'.heap.size w' a6):=λw' E n hn ht=>by
  have:=qI (z Ps.length 0) E n x hx w' ht (by omega) hS hT;rw[Z] at this;exact this
 have HK:Hid (∀u,Below w.heap.size w u->Calls Tryz.prog 77 #[.pointer (some ⟨rb,ro,none⟩)] u λe w'=>∃E n,e=.returned (.agg #[.map (some E)])/\cK w' E (z Ps.length 0) n/\n<=100000/\u.heap.size<=E/\Below u.heap.size u w'):=λu hu=>aF8 Ps pv z U rb ro u (hp.below hu (aA _)) (hg u hu) a3 ((hu.cell (p:=⟨rb,ro,none⟩) a1).trans hr) (bJ a1 hu.size);clear hg hp Z I hT hS V a0;go_enter Tryz.func46,Tryz.ntmps46
 go_wp2_with fail
 refine HN.out.mono ?_;rintro e w1 ⟨rfl,J⟩;clear HN
 go_wp2_with fail
 refine(HK.out w1 J).mono ?_;rintro e w2 ⟨E,n,rfl,ht,hn,_,W⟩;have K:=aO (HF.out w2 E n hn ht);have a5:=J.size;have a7:=W.size;clear HK HF ht
 go_wp2_with fail
 refine K.out.mono ?_;rintro e w3 ⟨rfl,a4⟩;clear K;have Y:Below w.heap.size w w3:=(J.trans (W.mono a5)).trans (a4.mono (by omega));go_wp2;go_ret2;exact⟨by rw[a2.out];rfl,Y.alloc Y.size _⟩
end Go.Proofs.YtgdfipmdmgkidaaGreatDoor
