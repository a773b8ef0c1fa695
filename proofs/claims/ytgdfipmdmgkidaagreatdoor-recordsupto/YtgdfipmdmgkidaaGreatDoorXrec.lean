import Derived.Test.YtgdfipmdmgkidaaGreatDoorPwrite
import Derived.Deep.DeepCutAuto
import Derived.Test.YtgdfipmdmgkidaaGreatDoorXcar
import Derived.Test.YtgdfipmdmgkidaaGreatDoorNplace
import Derived.Test.YtgdfipmdmgkidaaGreatDoorHfil
import Derived.Test.YtgdfipmdmgkidaaGreatDoorHsim
import Derived.Test.YtgdfipmdmgkidaaGreatDoorPgrow
import Derived.Test.YtgdfipmdmgkidaaGreatDoorAl
set_option linter.all false
set_option maxHeartbeats 12800000
set_option maxRecDepth 100000
namespace Go.Proofs.YtgdfipmdmgkidaaGreatDoor
open Go.RowKit
theorem aSw{f:ByteArray->Option ByteArray}{s:ByteArray->PL}{K:List ByteArray}(h:∀x∈K,aKc f s x)(E:K.length<=300):(cO f s K).length<=300/\∀g∈cO f s K,aVx s g:=by
 constructor
 ·unfold cO;rw[aT];exact aR (dZ _ _) E
 ·intro g I;obtain⟨z,J,rfl⟩:=aI.1 I;exact(h z (cT.1 J).1).2.2.2
theorem aR9{w:World}{E:Option Addr}{n c:Nat}{L:List ByteArray}(h:gD w E L)(K:n=L.length)(I:L≠[]):lN w.heap.size w (.slice E n c) L:=by
 rcases h with h|⟨b,o,rfl,z,J⟩
 ·exact absurd (aS h) I
 ·exact .inr ⟨b,o,c,by rw[K],z,J⟩
structure FrP (w w':World) (rg gb:Nat) (pv pv':Value):Prop where
 keep:∀k,k<w.heap.size->k≠rg->k≠gb->pv.ownBlock≠some k->w'.heap[k]?=w.heap[k]?
 at_:∀g,pv'.ownBlock=some g->pv.ownBlock=some g\/w.heap.size<=g
theorem aL6(B pb rg:Nat)(cap:qR)(gb:Nat)(pv:Value)(Ps:List PM)(fb fn:Nat)(f:ByteArray->Option ByteArray)(G:List cL)(st:Nat->Nat->ByteArray->PL)(u5:Nat->Nat)(i:cL)(na:Option Addr)(nc:Nat)(L K:List ByteArray)(w:World)
  (h:cF w B pb rg cap gb pv Ps fb fn f G) (hs:hU Ps st u5) (hB:B<=w.heap.size) (y5:Ps.length<=40) (u9:fn<=1000) (hi:pK i) (hv:gD w na L) (hL:L.length<=1000) (i7:∀x∈L,x.size<=1000/\(st Ps.length 0 x).S.length<=1000000/\(dM (st Ps.length 0 x).S).size<=1000000000)
  (n8:pG K) (i6:∀x,x∈K↔(if L=[] then (f x).isSome=true\/(st Ps.length 0 x).alive=true else x∈L)) (n7:K.length<=300) (k3:∀x∈K,aKc f (st Ps.length 0) x)
  (k6:∀Cs m,dG (st Ps.length 0) i (cO f (st Ps.length 0) K) Cs m->∃t:Nat->ByteArray,(∀k c,Cs[k]?=some c->fU c.2 c.1 (st Ps.length 0 c.1) (t k))/\∀k,(t k).size<=1000000) :
  Calls Tryz.prog 72 #[.pointer (some ⟨pb,0,none⟩),.pointer (some ⟨rg,cap.r * 2,none⟩),.agg #[.int .u8 i.a,.int .u8 i.b,.int .u8 i.c,.int .u8 i.d],.slice na L.length nc] w λe w'=>
   (∃c,e=.returned (.tuple #[.string ⟨#[]⟩,.int .i64 c])/\Below w.heap.size w w'/\((c≠0/\xZ G f (st Ps.length 0) i L c)\/(xZ G f (st Ps.length 0) i L 0/\c=9/\cO f (st Ps.length 0) K=[])))\/
   (xZ G f (st Ps.length 0) i L 0/\cO f (st Ps.length 0) K≠[]/\∃Cs m t p8 cv,e=.returned (.tuple #[.string ⟨(dK t Cs.length).toArray⟩,.int .i64 0])/\dG (st Ps.length 0) i (cO f (st Ps.length 0) K) Cs m/\(∀k c,Cs[k]?=some c->fU c.2 c.1 (st Ps.length 0 c.1) (t k))/\(∀k,(t k).size<=1000000)/\cF w' B pb rg cap gb p8 (Ps++[⟨i,cv,Cs⟩]) fb fn f (G++[i])/\Below B w w'/\bU (λt=>t=9\/t=53) w w'/\FrP w w' rg gb pv p8):=by
 obtain⟨s,d7⟩:∃s,st Ps.length 0=s:=⟨_,rfl⟩;obtain⟨i0,v1,x0,x1,x2⟩:=info_parts Tryz.info149;have m5:Hid (∀q,pv.ownBlock=some q->q<w.heap.size):=λq hq=>(h.own.lt q hq).2;obtain⟨w1,d8⟩:∃w1,w1=w.alloc (.cells #[.int .u8 i.a,.int .u8 i.b,.int .u8 i.c,.int .u8 i.d] 113):=⟨_,rfl⟩;have e7:Below w.heap.size w w1:=by rw[d8];exact(Below.refl _ _).alloc (aA _) _
 have o2:w1.heap[w.heap.size]?=some (.cells #[.int .u8 i.a,.int .u8 i.b,.int .u8 i.c,.int .u8 i.d] 113 (0,0)):=by rw[d8];exact(aH w _).1
 have f5:w.heap.size<w1.heap.size:=by rw[d8];simp
 have h1:=h.below e7;have HK:Hid (Calls Tryz.prog 77 #[.pointer (some ⟨rg,cap.r * 2,none⟩)] w1 λe w'=>∃J n,e=.returned (.agg #[.map (some J)])/\cK w' J s n/\n<=100000/\w1.heap.size<=J/\Below w1.heap.size w1 w'):=by
  have:=wE hs h1.view (by omega) h1.r0 h1.lts.2.1;rw[d7] at this;exact this
 rw[d7] at k3 k6 i7 ⊢;rw[d7] at i6;have HH:=aO h1;have e4:=aO o2;have e0:=aO e7;have y1:=aO d7;have u1:=aO k6;have l9:=aO i6;have r7:=aO n8;have g8:=aO k3;have HX:=aO i7;have m8:=aO (hv.below e7);clear h h1 o2 e7 hs d7 k3 k6 i7 hv i6 n8;go_enter Tryz.func72,Tryz.ntmps72
 go_wp2_with fail
 rw[<- d8];clear d8;refine HK.out.mono ?_;rintro e w2 ⟨J,n,rfl,n9,hn,v5,c6⟩;clear HK;obtain⟨w3,b9⟩:∃w3,w3=w2.alloc (.cells #[.map (some J)] 121):=⟨_,rfl⟩;have c7:Below w2.heap.size w2 w3:=by rw[b9];exact(Below.refl _ _).alloc (aA _) _
 have a0:Below w1.heap.size w1 w3:=c6.trans (c7.mono c6.size);have j8:w3.heap[w2.heap.size]?=some (.cells #[.map (some J)] 121 (0,0)):=by rw[b9];exact(aH w2 _).1
 have v7:w2.heap.size<w3.heap.size:=by rw[b9];simp
 have h3:=HH.out.below a0;have x5:gb<w1.heap.size:=HH.out.given.lt;have x7:rg<w1.heap.size:=HH.out.lts.2.1;have x6:pb<w1.heap.size:=HH.out.lts.1;have i8:=n9.below c7 (aA _);have HM:Hid (Calls Tryz.prog 125 #[.pointer (some ⟨pb,0,none⟩),.pointer (some ⟨rg,cap.r * 2,none⟩),.agg #[.map (some J)],.agg #[.int .u8 i.a,.int .u8 i.b,.int .u8 i.c,.int .u8 i.d],.slice na L.length nc] w3 λe w'=>∃c,e=.returned (.int .i64 c)/\xZ G f s i L c/\Below w3.heap.size w3 w'):=aUr G gb pb f fb fn rg (cap.r * 2) s J n i na L.length nc L w3 h3.given hi h3.c1 h3.lts.1 h3.files h3.r1 h3.lts.2.1 i8 hn (m8.out.below a0) rfl (by omega) HX.out;have m0:w3.cell? ⟨w2.heap.size,0,none⟩=some (.map (some J)):=by simp[World.cell?,j8]
 obtain⟨q0,q1,q2,q3⟩:=iV ((c6.block _ f5).trans e4.out);have x8:=c6.size;obtain⟨p9,q4,q5,q6⟩:=iV ((a0.block _ f5).trans e4.out);rw[b9] at p9 q4 q5 q6;clear q0 q1 q2 q3;have r6:=aO j8;have s0:=aO i8;have r4:=aO h3;have a3:=aO a0;have o7:=a0.size;clear n9 i8 h3 j8 c7 c6 a0 HH
 go_wp2_with fail
 rw[<- b9];clear b9;refine HM.out.mono ?_;rintro e w4 ⟨c,rfl,hR,b6⟩;clear HM;have e9:=(b6.block _ v7).trans r6.out;have m4:w4.cell? ⟨w2.heap.size,0,none⟩=some (.map (some J)):=by simp[World.cell?,e9]
 have v8:=b6.size;have e3:=aO (r4.out.below b6);have e6:Hid (cK w4 J s n):=s0.out.below b6 (aA _);have b2:Hid (Below w1.heap.size w1 w4):=a3.out.trans (b6.mono o7);have e5:=aO hR;clear p9 q4 q5 q6 m0 hR;by_cases j3:c=0
 case neg=>
  have y6:(c == 0)=false:=by simpa using j3
  go_wp2;go_ret2;exact .inl ⟨c,rfl,e0.out.trans (b2.out.mono (by omega)),.inl ⟨j3,e5.out⟩⟩
 subst j3;have HA:=aO (e3.out.allNames u9 e6.out hn);have m9:=aO (m8.out.below b2.out)
 go_upto_if 27 with fail
 go_cut [3] (λs3 wx=>∃va vn vc L',s3=.slice va vn vc/\lN wx.heap.size wx (.slice va vn vc) L'/\(∀x,x∈L'↔x∈K)/\L'.length<=200000/\Below w4.heap.size w4 wx)
 case first=>
  by_cases a7:L=[]
  ·have v3:((L.length:Int) == 0)=true:=by rw[a7];rfl
   have g6:Hid (∀x,x∈K↔(f x).isSome=true\/(s x).alive=true):=λx=>by
    have:=l9.out x;rwa[if_pos a7] at this
   clear a7
   go_wp2_with (go_at_call 112;refine HA.out.mono ?_;rintro e w5 ⟨va,vn,vc,L5,rfl,u7,v4,y7,u8⟩)
   go_meet
   exact⟨va,vn,vc,L5,rfl,aJr u7,λx=>by rw[v4,g6.out],by omega,u8⟩
  ·have v3:((L.length:Int) == 0)=false:=by
    cases L with
    | nil=>exact absurd rfl a7
    | cons a b=>simp;omega
   have g6:Hid (∀x,x∈K↔x∈L):=λx=>by
    have:=l9.out x;rwa[if_neg a7] at this
   have u4:=aO (aR9 (c:=nc) m9.out rfl a7);clear a7;go_wp2
   go_meet
   exact⟨na,L.length,nc,L,rfl,u4.out,λx=>(g6.out x).symm,by omega,Below.refl _ _⟩
 case rest=>
 obtain⟨va,vn,vc,L',rfl,o8,k2,o4,c9⟩:=hcut;have HC:Hid (Calls Tryz.prog 111 #[.pointer (some ⟨rg,cap.r * 2,none⟩),.agg #[.map (some J)],.slice va vn vc] wc λe w'=>∃xa xc,e=.returned (.slice xa (cO f s K).length xc)/\FV w' (.slice xa (cO f s K).length xc) (cO f s K)/\Below wc.heap.size wc w'):=by
  have i5:=e3.out.below c9;refine(yL f fb fn rg (cap.r * 2) s J n va vn vc L' wc i5.files i5.r1 i5.lts.2.1 (e6.out.below c9 (aA _)) hn o8 o4 (λx hx=>?_)).mono ?_
  ·obtain⟨g1,g2,g3,_⟩:=g8.out x ((k2 x).1 hx);exact⟨g1,by omega,g3⟩
  ·rintro e w' ⟨v,K',rfl,g1,g2,g3,g4⟩;obtain rfl:K'=K:=pG.ext g2 r7.out (λx=>by rw[g3,k2]);obtain⟨xa,xc,rfl,g5⟩:=g1;exact⟨xa,xc,rfl,⟨xa,xc,rfl,g5⟩,g4⟩
 have mC:wc.cell? ⟨w2.heap.size,0,none⟩=some (.map (some J)):=by
  have:=(c9.block w2.heap.size (by omega)).trans e9;simp[World.cell?,this]
 clear o8 k2 o4 HA m9
 go_wp2_with fail
 refine HC.out.mono ?_;rintro e w6 ⟨xa,xc,rfl,i4,o0⟩;have b7:Below w4.heap.size w4 w6:=c9.trans (o0.mono c9.size);clear HC mC;by_cases b4:cO f s K=[]
 case pos=>
  have hz:((cO f s K).length:Int)=0:=by rw[b4];rfl
  have m3:=aO b4;have z2:(((cO f s K).length:Int) == 0)=true:=by rw[hz];rfl
  generalize (cO f s K).length=cl at *;clear b4 i4;go_wp2;go_ret2;exact .inl ⟨9,rfl,e0.out.trans ((b2.out.trans (b7.mono b2.out.size)).mono (by omega)),.inr ⟨e5.out,rfl,m3.out⟩⟩
 have m2:=aO b4;obtain⟨v2,hG⟩:i∉G/\G.length<40:=by
  rcases e5.out with ⟨_,h9⟩|⟨_,_,h9⟩|⟨_,_,_,h9⟩|⟨h7,h8,_,_⟩
  ·exact absurd h9 (by decide)
  ·exact absurd h9 (by decide)
  ·exact absurd h9 (by decide)
  ·exact⟨h7,h8⟩
 obtain⟨n2,n4⟩:=aSw g8.out n7;have f9:=m2.out;have o6:((cO f s K).length:Int)≠0:=by
  intro e;exact f9 (aS (by omega))
 have v6:(((cO f s K).length:Int) == 0)=false:=by simpa using o6
 have j9:=(b7.block _ (by omega)).trans e9;have m6:w6.cell? ⟨w2.heap.size,0,none⟩=some (.map (some J)):=by simp[World.cell?,j9]
 have y8:=b7.size;have l5:=aO (e3.out.below b7);have g9:Hid (cK w6 J s n):=e6.out.below b7 (aA _);have b3:Hid (Below w3.heap.size w3 w6):=b6.trans (b7.mono v8);obtain⟨q0,q1,q2,q3⟩:=iV ((b3.out.block _ (by omega)).trans ((a3.out.block _ f5).trans e4.out));have g7:Hid (Calls Tryz.prog 110 #[.agg #[.int .u8 i.a,.int .u8 i.b,.int .u8 i.c,.int .u8 i.d],.agg #[.map (some J)],.slice xa (cO f s K).length xc] w6 λe w'=>∃ca cn cc Cs m,e=.returned (.agg #[.int .u8 i.a,.int .u8 i.b,.int .u8 i.c,.int .u8 i.d,.slice ca cn cc])/\CV w' (.slice ca cn cc) Cs/\dG s i (cO f s K) Cs m/\Below w6.heap.size w6 w'):=by
  refine(aGh i J n s (cO f s K) _ w6 g9.out hn i4 (by omega) n4).mono ?_;rintro e w' ⟨cv,Cs,m,rfl,g1,g2,g3⟩;obtain⟨ca,cc,rfl,g4⟩:=g1;exact⟨ca,_,cc,Cs,m,rfl,⟨ca,cc,rfl,g4⟩,g2,g3⟩
 obtain⟨cl,j4⟩:∃cl,(cO f s K).length=cl:=⟨_,rfl⟩;rw[j4] at o6 v6 g7 n2 ⊢;have q9:=aO j4;clear i4 n4 f9 e3 e6 m4 j4
 go_wp2_with fail
 refine g7.out.mono ?_;rintro e w7 ⟨ca,cn,cc,Cs,m,rfl,f7,f8,o1⟩;clear g7;dsimp only;obtain⟨w8,d9⟩:∃w8,w8=w7.alloc (.cells #[.int .u8 i.a,.int .u8 i.b,.int .u8 i.c,.int .u8 i.d,.slice ca cn cc] 149):=⟨_,rfl⟩;have c8:Below w7.heap.size w7 w8:=by rw[d9];exact(Below.refl _ _).alloc (aA _) _
 have k0:w8.heap[w7.heap.size]?=some (.cells #[.int .u8 i.a,.int .u8 i.b,.int .u8 i.c,.int .u8 i.d,.slice ca cn cc] 149 (0,0)):=by rw[d9];exact(aH w7 _).1
 have y9:w7.heap.size<w8.heap.size:=by rw[d9];simp
 have v9:=o1.size;have V:Below w6.heap.size w6 w8:=o1.trans (c8.mono v9);have h8:=l5.out.below V;have j5:=(V.block w.heap.size (by omega)).trans ((b3.out.block _ (by omega)).trans ((a3.out.block _ f5).trans e4.out));have a5:=aO (aKf.of h8.drew j5 k0);have a4:=aO h8;have l7:=aO k0;have l6:=aO j5;have n0:Hid (w8.heap[w2.heap.size]?=some (.cells #[.map (some J)] 121 (0,0))):=(V.block _ (by omega)).trans j9;have h4:Hid (cK w8 J s n):=g9.out.below V (aA _);have f6:Hid (CV w8 (.slice ca cn cc) Cs):=f7.below c8 (aA _);have c1:=aO f8;obtain⟨I,o9,n6,b8⟩:=h8.drew.given.put hi (by omega) v2;have l0:=aO n6;have E:Hid (w8.grownBy I (some gb)):=⟨b8.os,b8.tape,b8.output,b8.size,b8.block⟩;have k8:Hid (Below B w w8):=(e0.out.mono hB).trans ((a3.out.mono (by omega)).trans ((b3.out.mono (by omega)).trans (V.mono (by omega))));have b1:Hid (Below w.heap.size w w8):=e0.out.trans ((a3.out.mono (by omega)).trans ((b3.out.mono (by omega)).trans (V.mono (by omega))));unfold idV yV at o9;clear f7 f8 n6 b8 h8 j5 k0 V c8 j9 e9 l5 g9 m6 q0 q1 q2 q3
 go_wp2_with fail
 rw[<- d9];clear d9;refine dF (aKf pb rg (cap.r * 2) gb w.heap.size w7.heap.size i pv (.slice ca cn cc)) 6 (by kernel_rfl) ?_;refine zt 0 (v:=?vHS80) a5.out (λw0 z=>?hy) ?_
 case hy=>obtain⟨s1,s2,s3,s4,s5,s6,s7,s8,s9,W,Y⟩:=z;go_simp;with_reducible rfl
 simp only[Act.put,aW];refine zt 1 (v:=?vHS81) a5.out (λw0 z=>?hy) ?_
 case hy=>obtain⟨s1,s2,s3,s4,s5,s6,s7,s8,s9,W,Y⟩:=z;go_simp;with_reducible rfl
 simp only[Act.put];refine zt 2 (v:=?vHS82) a5.out (λw0 z=>?hy) ?_
 case hy=>obtain⟨s1,s2,s3,s4,s5,s6,s7,s8,s9,W,Y⟩:=z;go_simp;with_reducible rfl
 simp only[Act.put];refine zt 3 (v:=?vHS83) a5.out (λw0 z=>?hy) ?_
 case hy=>obtain⟨s1,s2,s3,s4,s5,s6,s7,s8,s9,W,Y⟩:=z;go_simp;with_reducible rfl
 simp only[Act.put];refine zt 4 (v:=?vHS84) a5.out (λw0 z=>?hy) ?_
 case hy=>obtain⟨s1,s2,s3,s4,s5,s6,s7,s8,s9,W,Y⟩:=z;go_simp;with_reducible rfl
 simp only[Act.put];refine zt 5 (v:=?vHS85) a5.out (λw0 z=>?hy) ?_
 case hy=>obtain⟨s1,s2,s3,s4,s5,s6,s7,s8,s9,W,Y⟩:=z;go_simp;with_reducible rfl
 simp only[Act.put];refine bT 6 _ rfl (by kernel_rfl) (λKK hK=>?_);go_simp;refine hK.out _ _ (λh=>absurd rfl h) ?_;clear hK o9;refine fJ (by kernel_rfl) ?_ _;have d5:=a4.out.given.map;have h9:cF I B pb rg cap gb pv Ps fb fn f (G++[i]):=a4.out.map_put E.out d5 (.inl rfl) l0.out (a4.out.files.same (E.out.block fb a4.out.lts.2.2.2 (by simp;exact λe=>a4.out.ne e.symm)));have a8:aVy w8 I:=bU.of_map E.out d5;have m1:Hid (bU (λt=>t=9\/t=53) w8 I):=bU.of_map E.out d5;have a2:∀{k:Nat} {cs:Array Value} {t:TypeId} {fz:Nat×Nat},w8.heap[k]?=some (.cells cs t fz)->I.heap[k]?=some (.cells cs t fz):=λ{k cs t fz} hk=>by
  refine(E.out.block k (aV.1 hk).1 (λe=>?_)).trans hk;injection e with e;obtain⟨es,c,hm⟩:=d5;rw[e,hm] at hk
  cases hk
 have f3:=a2 l7.out;have j6:=a2 l6.out;have p6:=a2 n0.out;have x9:w8.heap.size<=I.heap.size:=E.out.size;have k1:J≠gb:=λe=>by omega
 have h5:Hid (cK I J s n):=h4.out.held a8.rows (E.out.block J h4.out.lt (by simpa using k1));have c0:=aO (f6.out.held a8);have k9:Hid (Below B w I):=k8.out.trans ⟨E.out.os,E.out.tape,E.out.output,E.out.size,λk hk=>E.out.block k (by have:=k8.out.size;show k<w8.heap.size;omega) (by have:=a4.out.lo;simp;omega)⟩;have a6:=aO (aKf.of h9.drew j6 f3);have a1:=aO h9;have l8:=aO f3;have n1:=aO p6;have m7:Hid (∀o,aKf pb rg (cap.r * 2) gb w.heap.size w7.heap.size i pv (.slice ca cn cc) (I.alloc o).drew):=λo=>by
  have j0:Below I.heap.size I (I.alloc o):=(Below.refl _ _).alloc (aA _) _;exact aKf.of (h9.below j0).drew ((j0.block _ (by omega)).trans j6) ((j0.block _ (by omega)).trans f3)
 have r1:Hid (∀k,k<w.heap.size->k≠gb->I.heap[k]?=w.heap[k]?):=λk hk hg=>(E.out.block k (by have:=b1.out.size;omega) (λe=>hg (fZ e))).trans (b1.out.block k hk);have p5:w.heap.size<=I.heap.size:=by have:=b1.out.size;omega
 clear d5 h9 a8 a2 f3 j6 p6 E l0 a4 h4 f6 l7 l6 n0 a5
 go_wp2_with fail
 refine dF (aKf pb rg (cap.r * 2) gb w.heap.size w7.heap.size i pv (.slice ca cn cc)) 10 (by kernel_rfl) ?_;refine zt 0 (v:=?vHS90) a6.out (λw0 z=>?hy) ?_
 case hy=>obtain⟨s1,s2,s3,s4,s5,s6,s7,s8,s9,W,Y⟩:=z;go_simp;with_reducible rfl
 simp only[Act.put,aW];refine zt 1 (v:=?vHS91) a6.out (λw0 z=>?hy) ?_
 case hy=>obtain⟨s1,s2,s3,s4,s5,s6,s7,s8,s9,W,Y⟩:=z;go_simp;with_reducible rfl
 simp only[Act.put];refine zt 2 (v:=?vHS92) a6.out (λw0 z=>?hy) ?_
 case hy=>obtain⟨s1,s2,s3,s4,s5,s6,s7,s8,s9,W,Y⟩:=z;go_simp;with_reducible rfl
 simp only[Act.put];refine zt 3 (v:=?vHS93) a6.out (λw0 z=>?hy) ?_
 case hy=>obtain⟨s1,s2,s3,s4,s5,s6,s7,s8,s9,W,Y⟩:=z;go_simp;with_reducible rfl
 simp only[Act.put];refine zt 4 (v:=?vHS94) a6.out (λw0 z=>?hy) ?_
 case hy=>obtain⟨s1,s2,s3,s4,s5,s6,s7,s8,s9,W,Y⟩:=z;go_simp;with_reducible rfl
 simp only[Act.put];refine zt 5 (v:=?vHS95) a6.out (λw0 z=>?hy) ?_
 case hy=>obtain⟨s1,s2,s3,s4,s5,s6,s7,s8,s9,W,Y⟩:=z;go_simp;with_reducible rfl
 simp only[Act.put];refine bT 6 _ rfl (by kernel_rfl) (λKK hK=>?_);go_simp;refine hK.out _ _ (λ_=>m7.out _) ?_;clear hK;refine bT 7 _ rfl (by kernel_rfl) (λKK hK=>?_);refine step_append_lies _ (by rfl) _ _ _ (by rfl) B 149 i0 _ 5 32 Tryz.underlying84 v1 x0 x1 x2 rfl (by omega) pv Ps.length (kI Ps) (by rfl) (a1.out.own.alloc _).drew ⟨I.heap.size,0,none⟩ 1 1 [.int .u8 i.a,.int .u8 i.b,.int .u8 i.c,.int .u8 i.d,.slice ca cn cc] (by rfl) (by rfl) (World.news_of_block (cs:=#[.int .u8 i.a,.int .u8 i.b,.int .u8 i.c,.int .u8 i.d,.slice ca cn cc]) (t:=149) (fr:=(0,0)) (heap_alloc_new I.drew _)) (by simp[Value.oneCell']) (by omega) (by unfold maxLen;omega) (by omega) (by have:=k9.out.size;simp;omega) (I.heap.size+1) (by simp) ?_;intro g cp wa d6 U c5 o5;have Z:Below I.heap.size I (I.alloc (.cells #[.int .u8 i.a,.int .u8 i.b,.int .u8 i.c,.int .u8 i.d,.slice ca cn cc] 149)).drew:=((Below.refl _ _).alloc (aA _) _).drew;obtain⟨P1,P2,P3⟩:=a1.out.push (P:=⟨i,.slice ca cn cc,Cs⟩) Z U (c5.imp id λe=>by rw[e];simp) d6 (c0.out.below Z (aA _));have z1:I.heap.size+1<=wa.heap.size:=by have:=U.size;simpa using this
 have c3:∀k,w.heap.size<=k->k<I.heap.size->wa.heap[k]?=I.heap[k]?:=λk hk j7=>(U.block k (by simp;omega) (λe=>by have:=m5.out k e.symm;omega)).trans (Z.block k j7);have b5:∀{k:Nat} {cs:Array Value} {t:TypeId} {fz:Nat×Nat},I.heap[k]?=some (.cells cs t fz)->t≠149->wa.heap[k]?=some (.cells cs t fz):=λ{k cs t fz} hk ht=>by
  have f4:=(aV.1 hk).1;refine(U.block k (by simp;omega) (λe=>?_)).trans ((Z.block k f4).trans hk);obtain⟨A,y2,hq⟩:=dI a1.out.own e.symm;rw[hk] at hq;simp only[cJ,Obj.cells.injEq] at hq;exact ht hq.2.1
 have c2:Hid (aKf pb rg (cap.r * 2) gb w.heap.size w7.heap.size i pv (.slice ca cn cc) wa):=by
  obtain⟨A,hA,n5,u6⟩:=a1.out.row;have e1:=b5 a1.out.wb (by decide);have e2:=b5 hA (by decide);obtain⟨t1,t2,t3,t4,t5,t6,t7,t8,t9,x3,x4⟩:=a6.out;have cN:∀o,wa.cell? ⟨w.heap.size,o,none⟩=I.cell? ⟨w.heap.size,o,none⟩:=λo=>bN (c3 _ (aA _) (by omega)) o;have cM:∀o,wa.cell? ⟨w7.heap.size,o,none⟩=I.cell? ⟨w7.heap.size,o,none⟩:=λo=>bN (c3 _ (by omega) (by omega)) o;exact⟨by simp[World.cell?,e1],by simp[World.cell?,e2,n5],(cN 0).trans t3,(cN 1).trans t4,(cN 2).trans t5,(cN 3).trans t6,(cM 0).trans t7,(cM 1).trans t8,(cM 2).trans t9,(cM 3).trans x3,(cM 4).trans x4⟩
 have r0:=c2.out.r;have z0:wa.frozen? ⟨rg,cap.r * 2,none⟩=false:=by
  obtain⟨A,hA,n5,u6⟩:=a1.out.row;exact eG (b5 hA (by decide)) _
 obtain⟨wf,b0⟩:∃wf,wf=wa.setCell ⟨rg,cap.r * 2,none⟩ (.slice (some ⟨g,0,none⟩) (Ps.length+1) cp):=⟨_,rfl⟩;rw[<- b0] at P1 P2 P3;have r2:Hid (∀k,k<w.heap.size->k≠rg->k≠gb->pv.ownBlock≠some k->wf.heap[k]?=w.heap[k]?):=λk hk h1 h2 h3=>(P3 k (by simp;omega) h1 (λq hq e=>h3 (by rw[hq,e]))).trans ((Z.block k (by omega)).trans (r1.out k hk h2));have k7:Hid (pv.ownBlock=some g\/w.heap.size<=g):=c5.imp id λe=>by rw[e];exact aTj p5
 have c4:∀k,w1.heap.size<=k->k<I.heap.size->wf.heap[k]?=I.heap[k]?:=λk hk j7=>(P3 k (by simp;omega) (by omega) (λq hq=>by have:=m5.out q hq;omega)).trans (Z.block k j7);have o3:=(c4 w7.heap.size (by omega) (by omega)).trans l8.out;have p7:=(c4 w2.heap.size (by omega) (by omega)).trans n1.out;obtain⟨d0,d1,d2,d3,d4⟩:=sJ o3;have mF:wf.cell? ⟨w2.heap.size,0,none⟩=some (.map (some J)):=by simp[World.cell?,p7]
 have a9:aVy I wf:=(bU.of_below Z).trans (P2 aBe (by simp[aBe]) (by simp[aBe]));have r8:Hid (bU (λt=>t=9\/t=53) w wf):=(bU.of_below b1.out).trans (m1.out.trans ((bU.of_below Z).trans (P2 _ (by decide) (by decide))));have u0:Hid (cK wf J s n):=h5.out.held a9.rows (c4 J v5 h5.out.lt);have q8:=aO (c0.out.held a9);have y0:wa.heap.size=wf.heap.size:=by rw[b0];simp[World.setCell]
 have g0:Hid (Below B w wf):=by
  have h0:=k9.out;have y3:=h0.size;refine h0.trans ⟨?_,?_,?_,by omega,λk hk=>?_⟩
  ·rw[b0];exact U.os
  ·rw[b0];exact U.tape
  ·rw[b0];exact U.output
  ·refine(P3 k (by simp;omega) (by have:=a1.out.lo;omega) (λq hq=>?_)).trans (Z.block k (by omega));have:=(a1.out.own.lt q hq).1;omega
 have r3:=aO P1;obtain⟨t,k4,k5⟩:=u1.out Cs m c1.out;have t0:=aO k4;have u2:=aO k5;have y4:Cs.length<=300:=by rw[c1.out.len,q9.out];exact n2
 have h6:Hid (Calls Tryz.prog 113 #[.agg #[.int .u8 i.a,.int .u8 i.b,.int .u8 i.c,.int .u8 i.d,.slice ca cn cc],.agg #[.map (some J)]] wf λe w'=>e=.returned (.string ⟨(dK t Cs.length).toArray⟩)/\Below wf.heap.size wf w'):=by
  refine aHj i q8.out u0.out (by omega) (by omega) (λc hc=>?_) t k4 k5;obtain⟨k,hk⟩:=bI.1 hc;have f4:k<(cO f s K).length:=by rw[<- c1.out.len];exact(aB.1 hk).1
  have hf:=aC f4;rw[(c1.out.at_ k _ c hf hk).1];exact((aSw g8.out n7).2 _ (bZ f4)).name
 obtain⟨T,i9⟩:∃T,(⟨(dK t Cs.length).toArray⟩:ByteArray)=T:=⟨_,rfl⟩;rw[i9] at h6;have u3:=aO i9;refine hK.out _ _ (λ_=>c2.out) ?_;clear hK P1 P2 P3 d6 U c5 o5 c3 b5 a9 h5 c0 l8 n1 a1 m7 o3 p7 k4 k5 i9 Z;simp only[Act.put,aW];refine bT 8 _ rfl (by kernel_rfl) (λKK hK=>?_);go_simp;refine hK.out _ _ (λ_=>c2.out) ?_;clear hK;refine bT 9 _ rfl (by kernel_rfl) (λKK hK=>?_);go_simp;refine hK.out _ _ (λ_=>c2.out) ?_;clear hK;refine bT 10 _ rfl (by kernel_rfl) (λKK hK=>?_);go_simp;rw[<- b0];refine hK.out _ _ (λh=>absurd rfl h) ?_;clear hK b0 c2 r0 z0;refine fJ (by kernel_rfl) ?_ _
 go_wp2_with fail
 refine h6.out.mono ?_;rintro e wz ⟨rfl,e8⟩;clear h6;have r9:Hid (bU (λt=>t=9\/t=53) w wz):=r8.out.trans (bU.of_below e8);have q7:Hid (Below B w wz):=g0.out.trans (e8.mono (by have:=g0.out.size;omega));have r5:=aO (r3.out.below e8);go_wp2;go_ret2;refine .inr ⟨e5.out,m2.out,Cs,m,t,_,.slice ca cn cc,by rw[u3.out];rfl,c1.out,t0.out,u2.out,r5.out,q7.out,r9.out,⟨λk hk h1 h2 h3=>(e8.block k (by have:=g0.out.size;omega)).trans (r2.out k hk h1 h2 h3),λg' v0=>?_⟩⟩;obtain rfl:g=g':=by simpa[Value.ownBlock] using v0
 exact k7.out
section
variable {B pb rg:Nat} {cap:qR} {gb:Nat} {pv:Value} {Ps:List PM} {fb fn:Nat} {f:ByteArray->Option ByteArray} {G:List cL}
theorem cF.show0{w:World}(h:cF w B pb rg cap gb pv Ps fb fn f G)(i:cL)(hi:i∉Ps.map (·.id))(hl:Ps.length<=1000):
  Calls Tryz.prog 69 #[.pointer (some ⟨rg,cap.r * 2,none⟩),.agg #[.int .u8 i.a,.int .u8 i.b,.int .u8 i.c,.int .u8 i.d]] w λe w'=>e=.returned (.tuple #[.string ⟨#[]⟩,.int .i64 7])/\Below w.heap.size w w':=by
 have z:Below w.heap.size w (w.alloc (.cells #[.int .u8 i.a,.int .u8 i.b,.int .u8 i.c,.int .u8 i.d] 113)):=(Below.refl _ _).alloc (aA _) _;have E:=(aH w (.cells #[.int .u8 i.a,.int .u8 i.b,.int .u8 i.c,.int .u8 i.d] 113)).1;have U:Hid (∀u,Below w.heap.size w u->Calls Tryz.prog 122 #[.pointer (some ⟨rg,cap.r * 2,none⟩),.agg #[.int .u8 i.a,.int .u8 i.b,.int .u8 i.c,.int .u8 i.d]] u λe w'=>e=.returned (.int .i64 (-1))/\Below u.heap.size u w'):=λu Z=>by
  have h1:=h.below Z;have:=aA8 Ps pv i rg (cap.r * 2) u h1.view (by omega) h1.r0 h1.lts.2.1;have W:(Ps.findIdx? λP=>decide (P.id=i))=none:=by
   rw[fE];intro P Y;exact decide_eq_false λV=>hi (aI.2 ⟨P,Y,V⟩)
  rw[W] at this;exact this
 obtain⟨K,I⟩:∃K,K=w.alloc (.cells #[.int .u8 i.a,.int .u8 i.b,.int .u8 i.c,.int .u8 i.d] 113):=⟨_,rfl⟩;rw[<- I] at z E;obtain⟨i0,i1,i2,i3⟩:=iV E;clear h hi E;go_enter Tryz.func69,Tryz.ntmps69
 go_wp2_with fail
 rw[<- I];clear I
 go_wp2_with fail
 refine(U.out K z).mono ?_;rintro e w2 ⟨rfl,J⟩;clear U i0 i1 i2 i3;go_wp2;go_ret2;exact⟨rfl,z.trans (J.mono z.size)⟩
theorem xX{w u:World}{I:Option Addr}{U:Nat}{x:ByteArray}{l:List ByteArray}(h:u.ownsRow w.heap.size 9 1 (.slice I (x::l).length U) (x::l).length (bW (x::l))):∃g,I=some ⟨g,0,none⟩/\w.heap.size<=g/\∀(j:Nat) (y:ByteArray),(x::l)[j]?=some y->u.cell? ⟨g,j,none⟩=some (.string y):=by
 rcases id h.2 with ⟨h1,K⟩|⟨g,cp,J,h1,z,_⟩
 ·simp at K
 ·cases h1
  refine⟨g,rfl,z,λj y E=>?_⟩;rw[dQ h j (by have:=(aB.1 E).1;simpa using this)];unfold bW;rw[aP,E];rfl
theorem aWr{w:World}(h:cF w B pb rg cap gb pv Ps fb fn f G)(U:Ps.length<=1000)(s:ByteArray)(hs:dY s=true)(l:List ByteArray)(V:bY s=aYn::l):
  Calls Tryz.prog 17 #[.pointer (some ⟨pb,0,none⟩),.int .i64 cap.r,.string s] w λe w'=>∃x c,e=.returned (.tuple #[.string x,.int .i64 c])/\x=⟨(sB (Ps.map (·.id))).toArray⟩/\c=0/\Below w.heap.size w w':=by
 refine sO h s hs (λx c w'=>x=⟨(sB (Ps.map (·.id))).toArray⟩/\c=0/\Below w.heap.size w w') λu Y W I J=>?_;rw[V] at J ⊢;obtain⟨g,rfl,-,E⟩:=xX J;have z:=h.below I;refine(aNa pb rg (cap.r * 2) g 0 (aYn::l).length W pv u (λx w'=>x=⟨(sB (Ps.map (·.id))).toArray⟩/\Below w.heap.size w w') (E 0 _ rfl) (by simp) z.r0 ?_).mono ?_
 ·refine(aUd Ps pv u z.view U).mono ?_;rintro e w' ⟨rfl,K⟩;exact⟨_,rfl,rfl,I.trans (K.mono I.size)⟩
 ·rintro e w' ⟨x,rfl,h1,h2⟩;exact⟨x,0,rfl,h1,rfl,h2⟩
theorem aNq{w:World}(h:cF w B pb rg cap gb pv Ps fb fn f G){z:Nat->Nat->ByteArray->PL}{E:Nat->Nat}(hs:hU Ps z E)(K:Ps.length<=1000)(V:fn<=1000)(N:List ByteArray)(hN:N.length<=900)(I:∀x,(f x).isSome=true->x∈N)(J:∀x,(z Ps.length 0 x).alive=true->x∈N)
  (hx:∀x∈N,x.size<=1000/\(z Ps.length 0 x).S.length<=1000000/\(dM (z Ps.length 0 x).S).size<=1000000000) (s:ByteArray) (W:dY s=true) (l:List ByteArray) (hw:bY s=aHn::l) :
  Calls Tryz.prog 17 #[.pointer (some ⟨pb,0,none⟩),.int .i64 cap.r,.string s] w λe w'=>∃x c,e=.returned (.tuple #[.string x,.int .i64 c])/\x=⟨#[]⟩/\c=0/\cF w' B pb rg cap gb pv Ps fb N.length (dR (z Ps.length 0)) G/\w.grownBy w' (some fb):=by
 have hB:B<=w.heap.size:=aR h.lo.1 (iT h.lts.1);refine sO h s W (λx c w'=>x=⟨#[]⟩/\c=0/\cF w' B pb rg cap gb pv Ps fb N.length (dR (z Ps.length 0)) G/\w.grownBy w' (some fb)) λu va vc Y Z=>?_;rw[hw] at Z ⊢;obtain⟨g,rfl,-,U⟩:=xX Z;refine(aFi pb rg (cap.r * 2) g 0 (aHn::l).length vc u (λw'=>cF w' B pb rg cap gb pv Ps fb N.length (dR (z Ps.length 0)) G/\w.grownBy w' (some fb)) (U 0 _ rfl) (by simp) ?_).mono ?_
 ·refine(aPl (h.below Y) hs (aR hB Y.size) K V N hN I J hx).mono ?_;rintro e w' ⟨rfl,h1,h2⟩;exact⟨rfl,h1,tW Y h2⟩
 ·rintro e w' ⟨rfl,h1,h2⟩;exact⟨_,0,rfl,rfl,rfl,h1,h2⟩
theorem aWs{w:World}(h:cF w B pb rg cap gb pv Ps fb fn f G){z:Nat->Nat->ByteArray->PL}{E:Nat->Nat}(hs:hU Ps z E)(I:Ps.length<=40)(U:fn<=1000)(V:aMw f (z Ps.length 0))
  (Y:∀K Cs m,aCw f (z Ps.length 0) K->dG (z Ps.length 0) ⟨0,0,0,0⟩ (cO f (z Ps.length 0) K) Cs m->∃t:Nat->ByteArray,(∀k c,Cs[k]?=some c->fU c.2 c.1 (z Ps.length 0 c.1) (t k))/\∀k,(t k).size<=1000000) (s:ByteArray) (W:dY s=true) (l:List ByteArray) (hw:bY s=⟨#[110,101,119]⟩::l) :
  Calls Tryz.prog 17 #[.pointer (some ⟨pb,0,none⟩),.int .i64 cap.r,.string s] w λe w'=>∃x c,e=.returned (.tuple #[.string x,.int .i64 c])/\c=0/\Below w.heap.size w w'/\∃K Cs m t,x=⟨(dK t Cs.length).toArray⟩/\aCw f (z Ps.length 0) K/\dG (z Ps.length 0) ⟨0,0,0,0⟩ (cO f (z Ps.length 0) K) Cs m/\(∀k c,Cs[k]?=some c->fU c.2 c.1 (z Ps.length 0 c.1) (t k))/\∀k,(t k).size<=1000000:=by
 refine sO h s W (λx c w'=>c=0/\Below w.heap.size w w'/\∃K Cs m t,x=⟨(dK t Cs.length).toArray⟩/\aCw f (z Ps.length 0) K/\dG (z Ps.length 0) ⟨0,0,0,0⟩ (cO f (z Ps.length 0) K) Cs m/\(∀k c,Cs[k]?=some c->fU c.2 c.1 (z Ps.length 0 c.1) (t k))/\∀k,(t k).size<=1000000) λu va vc Z ho=>?_;rw[hw] at ho ⊢;obtain⟨g,rfl,-,J⟩:=xX ho;refine(aKo pb rg (cap.r * 2) g 0 _ vc u (λx w'=>Below w.heap.size w w'/\∃K Cs m t,x=⟨(dK t Cs.length).toArray⟩/\aCw f (z Ps.length 0) K/\dG (z Ps.length 0) ⟨0,0,0,0⟩ (cO f (z Ps.length 0) K) Cs m/\(∀k c,Cs[k]?=some c->fU c.2 c.1 (z Ps.length 0 c.1) (t k))/\∀k,(t k).size<=1000000) (J 0 _ rfl) (by simp) ?_).mono ?_
 ·refine(aUw B pb rg cap gb pv Ps fb fn f G z E u (h.below Z) hs I U V Y).mono ?_;rintro e w' ⟨K,Cs,m,t,rfl,h1,h2,h3,h4,h5⟩;exact⟨_,rfl,Z.trans (h5.mono Z.size),K,Cs,m,t,rfl,h1,h2,h3,h4⟩
 ·rintro e w' ⟨x,rfl,h1⟩;exact⟨x,0,rfl,rfl,h1⟩
def nM(a b c d:UInt8):cL:=⟨a.toNat,b.toNat,c.toNat,d.toNat⟩
theorem aGw(a b c d:UInt8):pK (nM a b c d):=by
 have h1:=a.toNat_lt;have h2:=b.toNat_lt;have z:=c.toNat_lt;have E:=d.toNat_lt;exact⟨⟨by show (0:Int)<=(a.toNat:Int);omega,by show (a.toNat:Int)<256;omega⟩,⟨by show (0:Int)<=(b.toNat:Int);omega,by show (b.toNat:Int)<256;omega⟩,⟨by show (0:Int)<=(c.toNat:Int);omega,by show (c.toNat:Int)<256;omega⟩,⟨by show (0:Int)<=(d.toNat:Int);omega,by show (d.toNat:Int)<256;omega⟩⟩
theorem zZ(a b c d:UInt8):dT (nM a b c d)=⟨#[a,b,c,d]⟩:=by
 unfold dT nM strOfNums;simp
theorem aQz{w:World}(h:cF w B pb rg cap gb pv Ps fb fn f G)(V:Ps.length<=1000)(a b c d:UInt8)(hi:nM a b c d∉Ps.map (·.id))(s:ByteArray)(I:dY s=true)(l:List ByteArray)(W:bY s=⟨#[115,104,111,119]⟩::⟨#[a,b,c,d]⟩::l):
  Calls Tryz.prog 17 #[.pointer (some ⟨pb,0,none⟩),.int .i64 cap.r,.string s] w λe w'=>∃x c,e=.returned (.tuple #[.string x,.int .i64 c])/\x=⟨#[]⟩/\c=7/\Below w.heap.size w w':=by
 refine sO h s I (λx c w'=>x=⟨#[]⟩/\c=7/\Below w.heap.size w w') λu va Y U K=>?_;rw[W] at K ⊢;obtain⟨g,rfl,-,z⟩:=xX K;refine yK pb rg (cap.r * 2) g 0 _ Y a b c d u _ (z 0 _ rfl) (z 1 _ rfl) (by simp) λZ J=>?_;have E:=U.trans (J.mono U.size);refine((h.below E).show0 (nM a b c d) hi V).mono ?_;rintro e w' ⟨rfl,h1⟩;exact⟨_,_,rfl,rfl,rfl,E.trans (h1.mono E.size)⟩
theorem aT2{w:World}(h:cF w B pb rg cap gb pv Ps fb fn f G){st:Nat->Nat->ByteArray->PL}{E:Nat->Nat}(hS:hU Ps st E)(hl:Ps.length<=1000)(K:(Ps.map (·.id)).Nodup)(a b c d:UInt8){k:Nat}{P:PM}(hk:Ps[k]?=some P)(hi:P.id=nM a b c d)(t:Nat->ByteArray)(ht:∀j c,P.Cs[j]?=some c->fU c.2 c.1 (st k 0 c.1) (t j))(V:∀j,(t j).size<=1000000)(I:P.Cs.length<=300)(s:ByteArray)(U:dY s=true)(l:List ByteArray)(hw:bY s=⟨#[115,104,111,119]⟩::⟨#[a,b,c,d]⟩::l):
  Calls Tryz.prog 17 #[.pointer (some ⟨pb,0,none⟩),.int .i64 cap.r,.string s] w λe w'=>∃x c,e=.returned (.tuple #[.string x,.int .i64 c])/\x=aG6 P.id ⟨(dK t P.Cs.length).toArray⟩/\c=0/\Below w.heap.size w w':=by
 refine sO h s U (λx c w'=>x=aG6 P.id ⟨(dK t P.Cs.length).toArray⟩/\c=0/\Below w.heap.size w w') λu va vc Z Y=>?_;rw[hw] at Y ⊢;obtain⟨g,rfl,-,z⟩:=xX Y;refine yK pb rg (cap.r * 2) g 0 _ vc a b c d u _ (z 0 _ rfl) (z 1 _ rfl) (by simp) λu2 W=>?_;have J:=Z.trans (W.mono Z.size);have:=(h.below J).show_ hS hk K hl t ht V I;rw[hi] at this ⊢;refine this.mono ?_;rintro e w' ⟨rfl,h1⟩;exact⟨_,_,rfl,rfl,rfl,J.trans (h1.mono J.size)⟩
end
section
variable {B pb rg:Nat} {cap:qR} {gb:Nat} {pv:Value} {Ps:List PM} {fb fn:Nat} {f:ByteArray->Option ByteArray} {G:List cL}
theorem FrP.below{w u w':World}{z:Value}(E:Below w.heap.size w u)(h:FrP u w' rg gb pv z):FrP w w' rg gb pv z:=⟨λk I h1 h2 J=>(h.keep k (bJ I E.size) h1 h2 J).trans (E.block k I),λg U=>(h.at_ g U).imp id λK=>aR E.size K⟩
def bBr(w w':World)(B pb rg:Nat)(cap:qR)(gb:Nat)(pv:Value)(Ps:List PM)(fb fn:Nat)(f:ByteArray->Option ByteArray)(G:List cL)(s:ByteArray->PL)(i:cL)(L K:List ByteArray)(x:ByteArray)(c:Int):Prop:=
 (x=⟨#[]⟩/\Below w.heap.size w w'/\((c≠0/\xZ G f s i L c)\/(xZ G f s i L 0/\c=9/\cO f s K=[])))\/
 (c=0/\xZ G f s i L 0/\cO f s K≠[]/\∃Cs m t pv' cv,x=⟨(dK t Cs.length).toArray⟩/\dG s i (cO f s K) Cs m/\(∀k c,Cs[k]?=some c->fU c.2 c.1 (s c.1) (t k))/\(∀k,(t k).size<=1000000)/\cF w' B pb rg cap gb pv' (Ps++[⟨i,cv,Cs⟩]) fb fn f (G++[i])/\Below B w w'/\FrP w w' rg gb pv pv')
theorem aNp{w:World}(h:cF w B pb rg cap gb pv Ps fb fn f G){z:Nat->Nat->ByteArray->PL}{J:Nat->Nat}(hs:hU Ps z J)(Z:Ps.length<=40)(a0:fn<=1000)(a b c d:UInt8)(L K:List ByteArray)(hL:L.length<=1000)(Y:∀x∈L,x.size<=1000/\(z Ps.length 0 x).S.length<=1000000/\(dM (z Ps.length 0 x).S).size<=1000000000)
  (W:pG K) (V:∀x,x∈K↔(if L=[] then (f x).isSome=true\/(z Ps.length 0 x).alive=true else x∈L)) (U:K.length<=300) (a2:∀x∈K,aKc f (z Ps.length 0) x)
  (a4:∀Cs m,dG (z Ps.length 0) (nM a b c d) (cO f (z Ps.length 0) K) Cs m->∃t:Nat->ByteArray,(∀k c,Cs[k]?=some c->fU c.2 c.1 (z Ps.length 0 c.1) (t k))/\∀k,(t k).size<=1000000)
  (s:ByteArray) (a3:dY s=true) (hw:bY s=wV::⟨#[a,b,c,d]⟩::L) :
  Calls Tryz.prog 17 #[.pointer (some ⟨pb,0,none⟩),.int .i64 cap.r,.string s] w λe w'=>∃x E,e=.returned (.tuple #[.string x,.int .i64 E])/\bBr w w' B pb rg cap gb pv Ps fb fn f G (z Ps.length 0) (nM a b c d) L K x E:=by
 have hB:B<=w.heap.size:=aR h.lo.1 (iT h.lts.1);refine sO h s a3 (λx E w'=>bBr w w' B pb rg cap gb pv Ps fb fn f G (z Ps.length 0) (nM a b c d) L K x E) λu va vc hu ho=>?_;rw[hw] at ho ⊢;obtain⟨g,rfl,-,-⟩:=xX ho;have a1:u.ownsRow 0 9 1 (.slice (some ⟨g,0,none⟩) (L.length+2) vc) (L.length+2) (bW (wV::⟨#[a,b,c,d]⟩::L)):=bK ho (aE _);refine aKp pb rg (cap.r * 2) g vc a b c d L u _ a1 hL λu2 a7 a8 a5 hv=>?_;have I:=hu.trans (a5.mono hu.size);refine(aL6 B pb rg cap gb pv Ps fb fn f G z J (nM a b c d) a7 a8 L K u2 (h.below I) hs (aR hB I.size) Z a0 (aGw a b c d) hv hL Y W V U a2 a4).mono ?_;rintro e w' (⟨E,rfl,h1,h2⟩|⟨h1,h2,Cs,m,t,a6,cv,rfl,h3,h4,h5,h6,h7,h8,h9⟩)
 ·exact⟨_,E,rfl,.inl ⟨rfl,I.trans (h1.mono I.size),h2⟩,bU.of_below h1⟩
 ·exact⟨_,0,rfl,.inr ⟨rfl,h1,h2,Cs,m,t,a6,cv,rfl,h3,h4,h5,h6,(I.mono hB).trans h7,h9.below I⟩,h8.mono λ_ h=>.inl h⟩
end
section
variable {D:RD}
theorem aNr(r:Int)(s:ByteArray)(rb:Nat)(w:World)(h:WV w rb D)(E:lE r D.repos.length=false):
  Calls Tryz.prog 54 #[.pointer (some ⟨rb,0,none⟩),.int .i64 r,.string s] w λq w'=>q=.returned (.tuple #[.string ⟨#[]⟩,.int .i64 1])/\w'=w:=by
 have z:=aO (lP r rb w h);rw[E] at z;clear h E;go_enter Tryz.func54,Tryz.ntmps54
 go_wp2_with (go_at_call 82;refine z.out.mono ?_;rintro q I ⟨rfl,rfl⟩)
 go_ret2;exact⟨rfl,rfl⟩
theorem aWt(r:Int)(s:ByteArray)(hs:s.size<=10000000)(rb:Nat)(w:World)(h:WV w rb D)(E:lE r D.repos.length=true)(I:dY s=false):
  Calls Tryz.prog 54 #[.pointer (some ⟨rb,0,none⟩),.int .i64 r,.string s] w λq w'=>q=.returned (.tuple #[.string ⟨#[]⟩,.int .i64 6])/\Below w.heap.size w w':=by
 have z:=aO (lP r rb w h);rw[E] at z;have J:Hid (Calls Tryz.prog 83 #[.string s] w λe w'=>∃v,e=.returned (.tuple #[v,.int .i64 6])/\Below w.heap.size w w'):=(rQ s w (by unfold maxLen;omega)).mono λe w' ⟨v,h1,h2,K⟩=>⟨v,by rw[h1,(mP I).2],K⟩;clear h E I;go_enter Tryz.func54,Tryz.ntmps54
 go_wp2_with (first|(go_at_call 82;refine z.out.mono ?_;rintro q V ⟨rfl,rfl⟩)|(go_at_call 83;refine J.out.mono ?_;rintro q W ⟨v,rfl,U⟩))
 go_ret2;exact⟨rfl,U⟩
structure uX (w u:World) (g cap:Nat) (l:List ByteArray):Prop where
 bel:Below w.heap.size w u
 row:u.ownsRow w.heap.size 9 1 (.slice (some ⟨g,0,none⟩) l.length cap) l.length (bW l)
theorem uX.at_{w u:World}{g cap:Nat}{l:List ByteArray}(h:uX w u g cap l){j:Nat}{x:ByteArray}(z:l[j]?=some x):u.cell? ⟨g,j,none⟩=some (.string x):=by
 rw[dQ h.row j (by simpa using (aB.1 z).1)];unfold bW;rw[aP,z];rfl
theorem aJ5{s:ByteArray}{w u:World}{v:Value}{x:ByteArray}{l:List ByteArray}(hs:dY s=true)(K:bY s=x::l)(z:u.ownsRow w.heap.size 9 1 v (jP s).length (bW (jP s)))(J:Below w.heap.size w u):∃g cap,v=.slice (some ⟨g,0,none⟩) (x::l).length cap/\uX w u g cap (x::l):=by
 rw[(jV hs).1,K] at z;rcases id z.2 with ⟨-,I⟩|⟨g,cap,E,rfl,-⟩
 ·simp at I
 ·exact⟨g,cap,rfl,J,z⟩
theorem qY(r:Int)(s:ByteArray)(hs:s.size<=10000000)(rb:Nat)(w:World)(h:WV w rb D)(hr:lE r D.repos.length=true)(K:dY s=true)(x:ByteArray)(l:List ByteArray)(Z:bY s=x::l)(hx:x=⟨#[110,101,119]⟩\/x=⟨#[108,111,103]⟩\/x=⟨#[115,104,111,119]⟩\/x=⟨#[114,101,118,101,114,116]⟩)(Q:ByteArray->Int->World->Prop)
  (Y:∀u g cap,uX w u g cap (x::l)->Calls Tryz.prog 90 #[.pointer (some ⟨rb,0,none⟩),.int .i64 r,.slice (some ⟨g,0,none⟩) (x::l).length cap] u λq w'=>∃T c,q=.returned (.tuple #[.string T,.int .i64 c])/\Q T c w') :
  Calls Tryz.prog 54 #[.pointer (some ⟨rb,0,none⟩),.int .i64 r,.string s] w λq w'=>∃T c,q=.returned (.tuple #[.string T,.int .i64 c])/\Q T c w':=by
 have U:=aO (lP r rb w h);rw[hr] at U;have V:Hid (Calls Tryz.prog 83 #[.string s] w λe w'=>∃g cap,e=.returned (.tuple #[.slice (some ⟨g,0,none⟩) (x::l).length cap,.int .i64 0])/\uX w w' g cap (x::l)):=(rQ s w (by unfold maxLen;omega)).mono λe w' ⟨v,h1,h2,E⟩=>by
  obtain⟨g,cap,rfl,h4⟩:=aJ5 K Z h2 E;exact⟨g,cap,by rw[h1,(jV K).2],h4⟩
 have W:=aO Y;have HL:Hid (∀g cap u,uX w u g cap (x::l)->u.cell? ⟨g,0,none⟩=some (.string x)):=λg cap u h=>h.at_ (j:=0) rfl;obtain⟨n,J⟩:∃n,(x::l).length=n:=⟨_,rfl⟩;have a0:1<=n:=by rw[<- J];simp
 have a1:(0:Int)<(n:Int):=by omega
 rw[J] at V W;clear h hr K Z Y J;go_enter Tryz.func54,Tryz.ntmps54;rcases hx with rfl|rfl|rfl|rfl
 all_goals
  go_wp2_with (first|(go_at_call 82;refine U.out.mono ?_;rintro q w1 ⟨rfl,rfl⟩)|(go_at_call 83;refine V.out.mono ?_;rintro q w2 ⟨g,cap,rfl,z⟩;have c0:=HL.out g cap w2 z;have I:=aO z;clear z)|(go_at_call 90;refine(W.out _ g cap I.out).mono ?_;rintro q w3 ⟨T,c,rfl,E⟩;have H3:=aO E;clear E))
  go_ret2;exact⟨T,c,rfl,H3.out⟩
theorem uX.below{w u E:World}{g cap:Nat}{l:List ByteArray}(h:uX w u g cap l)(z:Below u.heap.size u E):uX w E g cap l:=⟨h.bel.trans (z.mono h.bel.size),bQ h.row z (aA _)⟩
theorem aNs(r:Int)(s:ByteArray)(hs:s.size<=10000000)(rb:Nat)(w:World)(h:WV w rb D)(hr:lE r D.repos.length=true)(hw:dY s=true)(I:ByteArray)(L:List ByteArray)(hl:bY s=⟨#[114,101,99,111,114,100]⟩::I::L)(Q:ByteArray->Int->World->Prop)
  (hQ:∀u v,Below w.heap.size w u->eJ u 9 1 L.length v (bW L)->Calls Tryz.prog 84 #[.pointer (some ⟨rb,0,none⟩),.int .i64 r,.string I,v] u λq w'=>∃T c,q=.returned (.tuple #[.string T,.int .i64 c])/\Q T c w'/\bU (λt=>t=9) u w') :
  Calls Tryz.prog 54 #[.pointer (some ⟨rb,0,none⟩),.int .i64 r,.string s] w λq w'=>∃T c,q=.returned (.tuple #[.string T,.int .i64 c])/\Q T c w':=by
 have H1:=aO (lP r rb w h);rw[hr] at H1;have a3:(jP s).length=L.length+2:=by rw[(jV hw).1,hl];simp
 have U:=aDy s;have H2:Hid (Calls Tryz.prog 83 #[.string s] w λe w'=>∃g cap,e=.returned (.tuple #[.slice (some ⟨g,0,none⟩) (L.length+2) cap,.int .i64 0])/\L.length+2<=cap/\uX w w' g cap (⟨#[114,101,99,111,114,100]⟩::I::L)):=(rQ s w (by unfold maxLen;omega)).mono λe w' ⟨v,h1,h2,h3⟩=>by
  obtain⟨g,cap,rfl,h4⟩:=aJ5 hw hl h2 h3;exact⟨g,cap,by rw[h1,(jV hw).2];rfl,by have:=aA5 h4.row;simpa using this,h4⟩
 have HQ:=aO hQ;rw[a3] at U;clear h hr hw hl hQ a3;go_enter Tryz.func54,Tryz.ntmps54
 go_wp2_with (first|(go_at_call 82;refine H1.out.mono ?_;rintro q w1 ⟨rfl,rfl⟩)|(go_at_call 83;refine H2.out.mono ?_;rintro q w2 ⟨g,cap,rfl,a6,Y⟩;have c0:=Y.at_ (j:=0) (x:=⟨#[114,101,99,111,114,100]⟩) rfl;have a5:=aO Y;clear Y))
 have J:=aO (a5.out.below (Below.refl _ _).drew);have E:Hid (w2.drew.cell? ⟨g,1,none⟩=some (.string I)):=J.out.at_ (j:=1) rfl;have a7:(1:Int)<((L.length+2:Nat):Int):=by omega
 have a8:(1:Int)<(L.length:Int)+2:=by omega
 have a9:(2:Int)<=(L.length:Int)+2:=by omega
 have a4:Hid (eJ w2.drew 9 1 L.length (.slice (if cap=2 then some ⟨g,0,none⟩ else some ⟨g,2,none⟩) L.length (cap - 2)) (bW L)):=by
  refine⟨by simp[bW],_,_,rfl,by omega,.inr ?_⟩;have a2:TB w2.drew g 9:=dI J.out.row rfl;by_cases a0:cap=2
  ·have:L=[]:=aS (by omega);subst this;exact⟨g,0,by rw[if_pos a0],a2,λj u W=>by simp[bW] at W⟩
  ·refine⟨g,2,by rw[if_neg a0],a2,λj u W=>?_⟩;unfold bW at W;rw[aP] at W
   cases h9:L[j]? with
   | none=>rw[h9] at W;cases W
   | some x=>
    rw[h9] at W
    cases W
    rw[Nat.add_comm];exact J.out.at_ (j:=j+2) h9
 refine dF (λw'=>w'.cell? ⟨g,1,none⟩=some (.string I)) 99 (by kernel_rfl) ?_;refine zt 0 (v:=?vA0) E.out (λV z=>?hy) ?_
 case hy=>go_simp;with_reducible rfl
 simp only[Act.put,aW];refine zt 1 (v:=?vA1) E.out (λV z=>?hy) ?_
 case hy=>go_simp;with_reducible rfl
 simp only[Act.put];refine zt 2 (v:=?vA2) E.out (λV z=>?hy) ?_
 case hy=>go_simp;with_reducible rfl
 simp only[Act.put];refine zt 3 (v:=?vA3) E.out (λV z=>?hy) ?_
 case hy=>go_simp;with_reducible rfl
 simp only[Act.put];refine zt 4 (v:=?vA4) E.out (λV z=>?hy) ?_
 case hy=>go_simp;with_reducible rfl
 simp only[Act.put];refine zt 5 (v:=?vA5) E.out (λV z=>?hy) ?_
 case hy=>go_simp;with_reducible rfl
 simp only[Act.put];refine zt 6 (v:=?vA6) E.out (λV z=>?hy) ?_
 case hy=>go_simp;with_reducible rfl
 simp only[Act.put];refine bT 7 _ rfl (by kernel_rfl) (λKK Z=>?_);go_simp;refine(HQ.out _ _ J.out.bel a4.out).mono ?_;rintro q w3 ⟨T,c,rfl,h3,a1⟩;have H3:=aO h3;have K:w3.cell? ⟨g,1,none⟩=some (.string I):=(bN (a1.keep g 9 (dI J.out.row rfl) rfl) 1).trans E.out;clear h3 a1;dsimp only;refine Z.out _ _ (λ_=>K) ?_;clear Z;refine zt 8 (v:=?vB8) K (λV z=>?hy) ?_
 case hy=>go_simp;with_reducible rfl
 simp only[Act.put];refine zt 9 (v:=?vB9) K (λV z=>?hy) ?_
 case hy=>go_simp;with_reducible rfl
 simp only[Act.put];refine zt 10 (v:=?vB10) K (λV z=>?hy) ?_
 case hy=>go_simp;with_reducible rfl
 simp only[Act.put];refine bT 11 _ rfl (by kernel_rfl) (λKK Z=>?_);go_simp;refine Z.out _ _ (λ_=>K) ?_;clear Z;refine fJ (by kernel_rfl) ?_ _;go_wp2
 all_goals
  go_ret2;exact⟨T,c,rfl,H3.out⟩
end
theorem aTe(s:ByteArray):∀i,2 * (xW s i).1.length<=(xW s i).2
 | 0=>aA _
 | i+1=>by
  have z:=aTe s i;have E:=(aCs s i).1;by_cases h:gb s i=32
  ·rw[uQ h];unfold gC;split
   ·simp only[aJ,eY];omega
   ·simp only;omega
  ·rw[aCt h];exact z
theorem aVj{s:ByteArray}(h:dY s=true):(bY s).length<=240:=by
 have h1:¬ 120<pU s 0:=λz=>by rw[uT z] at h;cases h
 have h2:=wP h1;have E:=aTe s s.size;have I:=(aCs s s.size).1;unfold bY gC;split
 ·simp only[aJ,eY];omega
 ·omega
theorem aQ7{y:ByteArray}(h:y.size=4):∃a b c d,y=⟨#[a,b,c,d]⟩:=by
 obtain⟨⟨l⟩⟩:=y
 match l,h with
 | [a,b,c,d],_=>exact⟨a,b,c,d,rfl⟩
theorem bAq{y:ByteArray}(h:idB y=true):∃a b c d,y=⟨#[a,b,c,d]⟩/\nM a b c d≠lF:=by
 unfold idB at h;simp only[jX,decide_eq_true_eq,aD2,fL] at h;obtain⟨a,b,c,d,rfl⟩:=aQ7 h.1;refine⟨a,b,c,d,rfl,λe=>?_⟩;have z:=h.2 0 (by show 0<4;decide);have E:gb ⟨#[a,b,c,d]⟩ 0=a.toNat:=rfl;rw[E] at z;have I:(a.toNat:Int)=0:=congrArg cL.a e;unfold tY at z;rw[decide_eq_true_eq] at z;omega
inductive Cmd:List ByteArray->Prop
 | record (a b c d:UInt8) (L:List ByteArray) (h:nM a b c d≠lF) (hL:∀x∈L,dJ x=true):Cmd (mS::⟨#[a,b,c,d]⟩::L)
 | one (t:ByteArray) (ht:aIg t) (a b c d:UInt8) (h:nM a b c d≠lF):Cmd [t,⟨#[a,b,c,d]⟩]
 | none (t:ByteArray) (ht:yR t):Cmd [t]
 | pull (R:List ByteArray) (h:yS R=true):Cmd (yW::R)
theorem bAz{s:ByteArray}(h:dY s=true):Cmd (bY s):=by
 have h1:¬ 120<pU s 0:=λU=>by rw[uT U] at h;cases h
 rw[wY h1] at h;generalize bY s=l at *
 cases l with
 | nil=>cases h
 | cons t R=>
  by_cases J:t=mS
  ·subst J;rw[vY] at h
   cases R with
   | nil=>cases h
   | cons y L=>
    have h:(idB y && L.all dJ)=true:=h;rw[jX,aD2] at h;obtain⟨a,b,c,d,rfl,I⟩:=bAq h.1;exact .record a b c d L I h.2
  ·by_cases z:aIg t
   ·rw[aFo z] at h
    match R,h with
    | [y],h=>
     obtain⟨a,b,c,d,rfl,I⟩:=bAq (show idB y=true from h);exact .one t z a b c d I
   ·by_cases K:t=yW
    ·subst K;rw[aBx] at h;exact .pull R h
    ·by_cases E:yR t
     ·rw[aBw E] at h;rw[List.isEmpty_iff.1 h];exact .none t E
     ·rw[tQ] at h;unfold aIg at z;unfold yR at E;rw[if_neg J,if_neg z,if_neg K,if_neg E] at h
      cases h
theorem aMl(s:ByteArray):∀k,(∀i,i<k->gb s i=32)->xW s k=([],k)
 | 0,_=>rfl
 | k+1,h=>by
  rw[uQ (h k (by omega)),aMl s k λi hi=>h i (by omega)];simp[gC]
theorem aPz(s:ByteArray)(x:ByteArray):∀n k,(∃l,(xW s k).1=x::l)->∃l,(xW s (k+n)).1=x::l
 | 0,_,h=>h
 | n+1,k,h=>by
  obtain⟨l,z⟩:=aPz s x n k h;rw[<- dB];by_cases h:gb s (k+n)=32
  ·rw[uQ h];simp only[gC];split
   ·exact⟨l++[s.extract (xW s (k+n)).2 (k+n)],by rw[z];rfl⟩
   ·exact⟨l,z⟩
  ·rw[aCt h];exact⟨l,z⟩
theorem aQ6(s:ByteArray)(k m:Nat)(z:k<m)(V:m<=s.size)(h1:∀i,i<k->gb s i=32)(h2:∀i,k<=i->i<m->gb s i≠32)(K:m<s.size->gb s m=32):∃l,bY s=s.extract k m::l:=by
 have J:xW s m=([],k):=by
  have:=aHm s k (m - k) λi hi=>h2 (k+i) (by omega) (by omega);rw[show k+(m - k)=m by omega] at this;rw[this,aMl s k h1]
 by_cases U:m<s.size
 ·have E:(xW s (m+1)).1=[s.extract k m]:=by
   rw[uQ (K U),J];simp[gC,z]
  obtain⟨l,I⟩:=aPz s _ (s.size - (m+1)) (m+1) ⟨[],E⟩;rw[show m+1+(s.size - (m+1))=s.size by omega] at I;unfold bY gC;split
  ·exact⟨l++[_],by rw[I];rfl⟩
  ·exact⟨l,I⟩
 ·have E:m=s.size:=by omega
  subst E;unfold bY gC;rw[J];simp only;rw[if_pos z];exact⟨[],rfl⟩
theorem aS8(s:ByteArray)(h1:∀i,i<s.size->gb s i=32):bY s=[]:=by
 unfold bY;rw[aMl s s.size h1];simp[gC]
end Go.Proofs.YtgdfipmdmgkidaaGreatDoor
