import Derived.Test.YtgdfipmdmgkidaaGreatDoorPchange
import Derived.Deep.RegionHeld3
import Derived.Test.YtgdfipmdmgkidaaGreatDoorAl
set_option linter.all false
set_option maxHeartbeats 6400000
set_option maxRecDepth 100000
namespace Go.Proofs.YtgdfipmdmgkidaaGreatDoor
open Go.RowKit
structure PL where
 by_:cL
 alive:Bool
 S:List aU
def qV(l:Lat)(p:PL):Prop:=l.by_=p.by_/\l.alive=p.alive/\l.S=p.S
def pl0:PL:=⟨⟨0,0,0,0⟩,false,[]⟩
def cK(w:World)(mb:Nat)(st:ByteArray->PL)(n:Nat):Prop:=∃(f:ByteArray->Lat) (has:ByteArray->Bool) (D:DataW Value),w.ownsMap Tryz.prog 9 gU mb n D/\(∀x,D.atKey (kl x) (.held (kT zU))=.held (kT (f x)))/\(∀x,Maps.has D (kl x)=has x)/\(∀x,has x=false->f x=zU)/\(∀x,qV (f x) (st x))/\∀x,SV w (f x).rv (f x).S
theorem cK.lt{w:World}{E n:Nat}{I:ByteArray->PL}(h:cK w E I n):E<w.heap.size:=by
 obtain⟨_,_,_,h1,_⟩:=h;exact h1.lt
theorem cK.made(w:World):cK (w.alloc (.map #[] 0)) w.heap.size (λ_=>pl0) 0:=
 ⟨λ_=>zU,λ_=>false,.map [],aQg w _ _ _,λ_=>rfl,λ_=>rfl,λ_ _=>rfl,λ_=>⟨rfl,rfl,rfl⟩,λ_=>aXg _⟩
theorem cK.below{w w':World}{I n:Nat}{K:ByteArray->PL}(h:cK w I K n){B:Nat}(J:Below B w w')(hB:w.heap.size<=B):cK w' I K n:=by
 have a0:=h.lt;obtain⟨f,has,D,⟨U,E,he,hr⟩,h2,V,W,Y,Z⟩:=h;exact⟨f,has,D,⟨U,E,(J.block I (by omega)).trans he,hr⟩,h2,V,W,Y,λx=>(Z x).below J hB⟩
theorem SV.map{w w':World}{v:Value}{S:List aU}{W:Nat}(h:SV w v S)(V:w.grownBy w' (some W))(K:∃U c,w.heap[W]?=some (.map U c)):SV w' v S:=by
 obtain⟨U,c,K⟩:=K;rcases h with h|⟨b,o,cap,rfl,I,E,J⟩
 ·exact .inl h
 ·refine .inr ⟨b,o,cap,rfl,I,E.same (V.block b E.lt ?_),λj u Y=>(bN (V.block b E.lt ?_) _).trans (J j u Y)⟩
  all_goals
   intro e;injection e with e;subst e;obtain⟨A,Z,E⟩:=E;rw[K] at E
   cases E
theorem cK.put{w:World}{E n:Nat}{Z st':ByteArray->PL}(h:cK w E Z n)(hn:n+1<=1000000)(a:ByteArray)(l:Lat)(ha:a.size<=1000000)(hl:qV l (st' a))(hs:SV w l.rv l.S)(ho:∀x,x≠a->st' x=Z x):
  ∃w',(Instr.mapUpdate 119 (.map (some E)) (.string a) (kT l)).run Tryz.prog w=.ok () w'/\cK w' E st' (n+1)/\w.grownBy w' (some E):=by
 obtain⟨f,has,D,h1,h2,U,V,h5,h6⟩:=h;have W:∃I c,w.heap[E]?=some (.map I c):=by obtain⟨I,c,he,_⟩:=h1;exact⟨I,c,he⟩
 obtain⟨w',hr,K,⟨_,_,_,_,_,_,_⟩,J⟩:=KAt.put (f:=f) (has:=has) n D hn h1 h2 U V a l ha;refine⟨w',hr,⟨λx=>if x=a then l else f x,λx=>decide (x=a) || has x,_,K,λx=>?_,λx=>?_,λx Y=>?_,λx=>?_,λx=>?_⟩,J⟩
 ·show _=DataW.held (kT (if x=a then l else f x));by_cases e:x=a
  ·subst e;rw[xA h1.isMap (aB5 x),if_pos rfl]
  ·rw[vD (λq=>e (wF q)),h2,if_neg e]
 ·by_cases e:x=a
  ·subst e;rw[aBj h1.isMap (aB5 x)];simp
  ·rw[zF (λq=>e (wF q)),U];simp[e]
 ·have e:x≠a:=λe=>by simp[e] at Y
  show (if x=a then l else f x)=zU;rw[if_neg e];exact V x (by simpa[e] using Y)
 ·show qV (if x=a then l else f x) (st' x);by_cases e:x=a
  ·subst e;rw[if_pos rfl];exact hl
  ·rw[if_neg e,ho x e];exact h5 x
 ·show SV w' (if x=a then l else f x).rv (if x=a then l else f x).S;by_cases e:x=a
  ·rw[if_pos e];exact hs.map J W
  ·rw[if_neg e];exact(h6 x).map J W
theorem cK.look{w:World}{E n:Nat}{I:ByteArray->PL}(h:cK w E I n)(a:ByteArray)(Y:a.size<=1000000):∃l,(Instr.lookup 119 (.map (some E)) (.string a) false).run Tryz.prog w=.ok (kT l) w/\qV l (I a)/\SV w l.rv l.S:=by
 obtain⟨f,has,D,h1,h2,V,W,J,K⟩:=h;obtain⟨v,Z,U,hv⟩:=h1.lookup (fT Tryz.underlying9) Tryz.underlying119 (aMp w) (uB zU) (aDg (s:=a) (by unfold maxLen;omega));rw[h2 a] at hv;exact⟨f a,by rw[U,oR hv],J a,K a⟩
structure PM where
 id:cL
 cv:Value
 Cs:List (ByteArray×fM)
def PV(w:World)(v:Value)(Ps:List PM):Prop:=∃ao cap,v=.slice ao Ps.length cap/\∀(k:Nat) (p:PM),Ps[k]?=some p->∃b o,ao=some ⟨b,o,none⟩/\TB w b 149/\w.cell? ⟨b,o+k * 5,none⟩=some (.int .u8 p.id.a)/\w.cell? ⟨b,o+k * 5+1,none⟩=some (.int .u8 p.id.b)/\w.cell? ⟨b,o+k * 5+2,none⟩=some (.int .u8 p.id.c)/\w.cell? ⟨b,o+k * 5+3,none⟩=some (.int .u8 p.id.d)/\w.cell? ⟨b,o+k * 5+4,none⟩=some p.cv/\CV w p.cv p.Cs
theorem PV.below{w w':World}{v:Value}{Ps:List PM}(h:PV w v Ps){B:Nat}(E:Below B w w')(I:w.heap.size<=B):PV w' v Ps:=by
 obtain⟨J,cap,rfl,Z⟩:=h;refine⟨J,cap,rfl,λk r hk=>?_⟩;obtain⟨b,o,e,h1,h2,K,U,V,W,Y⟩:=Z k r hk;have a0:=h1.lt;have t:=λ(j:Nat)=>E.cell (p:=⟨b,o+k * 5+j,none⟩) (by show b<B;omega);have t0:=E.cell (p:=⟨b,o+k * 5,none⟩) (by show b<B;omega);exact⟨b,o,e,h1.below E I,t0.trans h2,(t 1).trans K,(t 2).trans U,(t 3).trans V,(t 4).trans W,Y.below E I⟩
theorem yU(w:World){E:World}(x y z:Obj)(h:E=((w.alloc x).alloc y).alloc z):Below w.heap.size w E/\E.heap.size=w.heap.size+3/\E.heap[w.heap.size]?=some x/\E.heap[w.heap.size+1]?=some y/\E.heap[w.heap.size+1+1]?=some z:=by
 obtain⟨a,b,c,d⟩:=nQ w x y z h;refine⟨a,b,c,?_,d⟩;subst h;have s1:(w.alloc x).heap.size=w.heap.size+1:=by simp
 rw[Below.heap_alloc _ _ _ (by simp)];have:=(aH (w.alloc x) y).1;rwa[s1] at this
structure aMt (w:World) (Ps:List PM) (st:Nat->Nat->ByteArray->PL) (cnt:Nat->Nat):Prop where
 start:st 0 0=λ_=>pl0
 next:∀p P,Ps[p]?=some P->st (p+1) 0=st p P.Cs.length
 other:∀p P k c,Ps[p]?=some P->P.Cs[k]?=some c->∀x,x≠c.1->st p (k+1) x=st p k x
 step:∀p P k c,Ps[p]?=some P->P.Cs[k]?=some c->∀u l,Below w.heap.size w u->qV l (st p k c.1)->SV u l.rv l.S->Calls Tryz.prog (tP c.2) #[aAq c.2,kT l] u λe w'=>∃l',e=.returned (kT l')/\qV l' (st p (k+1) c.1)/\SV w' l'.rv l'.S/\Below u.heap.size u w'
 names:∀P∈Ps,∀c∈P.Cs,c.1.size<=1000
 few:∀P∈Ps,P.Cs.length<=1000
 count:∀p P,Ps[p]?=some P->cnt (p+1)=cnt p+P.Cs.length
 small:∀p,cnt p<=100000
structure aTg (w wr:World) (st:ByteArray->PL) (c:Nat):Prop where
 bel:Below w.heap.size w wr
 lo:w.heap.size+3<=wr.heap.size
 tb:wr.heap[w.heap.size+1+1]?=some (.cells #[.map (some (w.heap.size+1))] 121 (0,0))
 rb:wr.heap[w.heap.size]?=some (.cells #[.map none] 121 (0,0))
 tree:∃n,n<=c/\cK wr (w.heap.size+1) st n
theorem aTg.below{w wr w':World}{I:ByteArray->PL}{c:Nat}(h:aTg w wr I c)(E:Below wr.heap.size wr w'):aTg w w' I c:=by
 have h1:=h.bel.size;have h2:=h.lo;obtain⟨n,J,K⟩:=h.tree;exact⟨h.bel.trans (E.mono h1),aR h.lo E.size,(E.block _ (by omega)).trans h.tb,(E.block _ (by omega)).trans h.rb,n,J,K.below E (aA _)⟩
theorem sK{w:World}{g:Nat}{E I J K U:Value}{t:TypeId}{f:Nat×Nat}(h:w.heap[g]?=some (.cells #[E,I,J,K,U] t f)):w.cell? ⟨g,0,none⟩=some E/\w.cell? ⟨g,1,none⟩=some I/\w.cell? ⟨g,2,none⟩=some J/\w.cell? ⟨g,3,none⟩=some K/\w.cell? ⟨g,4,none⟩=some U:=by
 refine⟨?_,?_,?_,?_,?_⟩<;>simp[World.cell?,h]
theorem lZ.base{a b c:World}{m:Nat}(h:lZ b c m)(E:Below a.heap.size a b)(J:a.heap.size<=m):Below a.heap.size a c:=
 ⟨h.os.trans E.os,h.tape.trans E.tape,h.output.trans E.output,aR E.size h.size,λk I=>(h.block k (bJ I E.size) (by omega)).trans (E.block k I)⟩
theorem SV.kept{w w':World}{v:Value}{S:List aU}(h:SV w v S)(k:∀g t,TB w g t->w'.heap[g]?=w.heap[g]?):SV w' v S:=by
 rcases h with h|⟨b,o,cap,rfl,E,J,I⟩
 ·exact .inl h
 ·have e:=k b 313 J;exact .inr ⟨b,o,cap,rfl,E,J.same e,λj u K=>(bN e _).trans (I j u K)⟩
theorem HV.kept{w w':World}{v:Value}{E:List Hk}(h:HV w v E)(k:∀g t,TB w g t->w'.heap[g]?=w.heap[g]?):HV w' v E:=by
 obtain⟨I,cap,rfl,V⟩:=h;refine⟨I,cap,rfl,λj r W=>?_⟩;obtain⟨b,o,e,h1,h2,J,K,U⟩:=V j r W;have s:=k b 327 h1;exact⟨b,o,e,h1.same s,(bN s _).trans h2,(bN s _).trans J,K.kept k,U.kept k⟩
theorem CV.kept{w w':World}{v:Value}{Cs:List (ByteArray×fM)}(h:CV w v Cs)(k:∀g t,TB w g t->w'.heap[g]?=w.heap[g]?):CV w' v Cs:=by
 obtain⟨I,cap,rfl,K⟩:=h;refine⟨I,cap,rfl,λj r U=>?_⟩;obtain⟨b,o,e,h1,h2,J,E⟩:=K j r U;have s:=k b 226 h1;refine⟨b,o,e,h1.same s,(bN s _).trans h2,(bN s _).trans J,?_⟩;generalize r.2=c at E ⊢
 cases c
 ·exact SV.kept E k
 ·exact SV.kept E k
 ·exact HV.kept E k
theorem cK.map{w:World}{I n:Nat}{K:ByteArray->PL}(h:cK w I K n):∃E c,w.heap[I]?=some (.map E c):=by
 obtain⟨_,_,_,⟨E,c,J,_⟩,_⟩:=h;exact⟨E,c,J⟩
theorem lZ.tb{w w':World}{K:Nat}(V:lZ w w' K)(W:∃I c,w.heap[K]?=some (.map I c)):∀g t,TB w g t->w'.heap[g]?=w.heap[g]?:=λg t J=>by
 refine V.block g J.lt ?_;rintro rfl;obtain⟨I,c,U⟩:=W;obtain⟨A,Y,E⟩:=J;rw[U] at E
 cases E
structure aHt (w wr:World) (mb:Nat) (s:ByteArray->PL) (c:Nat):Prop where
 but:lZ w wr mb
 lo:w.heap.size+2<=wr.heap.size
 tb:wr.heap[w.heap.size]?=some (.cells #[.map (some mb)] 121 (0,0))
 tree:∃n,n<=c/\cK wr mb s n
theorem aHt.below{w wr w':World}{I:Nat}{s:ByteArray->PL}{c:Nat}(h:aHt w wr I s c)(E:Below wr.heap.size wr w'):aHt w w' I s c:=by
 have h2:=h.lo;obtain⟨n,J,K⟩:=h.tree;exact⟨h.but.below E,aR h.lo E.size,(E.block _ (by omega)).trans h.tb,n,J,K.below E (aA _)⟩
theorem aQh(i:cL)(cv:Value)(Cs:List (ByteArray×fM))(I n:Nat)(s:Nat->ByteArray->PL)(w:World)(d3:CV w cv Cs)(hT:cK w I (s 0) n)
  (a6:∀k c,Cs[k]?=some c->∀x,x≠c.1->s (k+1) x=s k x)
  (b1:∀k c,Cs[k]?=some c->∀u l,lZ w u I->qV l (s k c.1)->SV u l.rv l.S->Calls Tryz.prog (tP c.2) #[aAq c.2,kT l] u λe w'=>∃l',e=.returned (kT l')/\qV l' (s (k+1) c.1)/\SV w' l'.rv l'.S/\Below u.heap.size u w')
  (a5:∀c∈Cs,c.1.size<=1000) (e1:Cs.length<=1000) (hn:n+Cs.length<=100000) :
  Calls Tryz.prog 189 #[.agg #[.map (some I)],.agg #[.int .u8 i.a,.int .u8 i.b,.int .u8 i.c,.int .u8 i.d,cv]] w λe w'=>e=.returned (.tuple #[])/\(∃m,m<=n+Cs.length/\cK w' I (s Cs.length) m)/\lZ w w' I:=by
 have e0:=aO d3;have HM:=aO hT.map;have f6:=hT.lt;obtain⟨ca,cc,rfl,_⟩:=d3;have HO:=aO a6;have HS:=aO b1;have HN:=aO a5;obtain⟨w2,b6⟩:∃w2,w2=(w.alloc (.cells #[.map (some I)] 121)).alloc (.cells #[.int .u8 i.a,.int .u8 i.b,.int .u8 i.c,.int .u8 i.d,.slice ca Cs.length cc] 149):=⟨_,rfl⟩;obtain⟨b4,e7,c6⟩:=uP w _ _ b6;have c7:w2.heap[w.heap.size+1]?=some (.cells #[.int .u8 i.a,.int .u8 i.b,.int .u8 i.c,.int .u8 i.d,.slice ca Cs.length cc] 149 (0,0)):=by
  rw[b6];have s1:(w.alloc (.cells #[.map (some I)] 121)).heap.size=w.heap.size+1:=by simp
  have:=(aH (w.alloc (.cells #[.map (some I)] 121)) (.cells #[.int .u8 i.a,.int .u8 i.b,.int .u8 i.c,.int .u8 i.d,.slice ca Cs.length cc] 149)).1;rwa[s1] at this
 have c4:w2.cell? ⟨w.heap.size+1,4,none⟩=some (.slice ca Cs.length cc):=by simp[World.cell?,c7]
 have HI:Hid (aHt w w2 I (s 0) n):=(⟨lZ.of_below I b4,by omega,c6,n,aA _,hT.below b4 (aA _)⟩:aHt w w2 I (s 0) n);clear a6 b1 a5 hT c6 c7 e7 b4;go_enter Tryz.func189,Tryz.ntmps189;go_wp2;rw[<- b6];clear b6;go_wp2;clear c4
 go_loopw [9] (λx wr=>∃k:Nat,k<=Cs.length/\x=.int .i64 k/\Hid (aHt w wr I (s k) (n+k))) (λx _=>Cs.length - (intOf x).toNat)
 case atStart=>exact⟨0,aE _,rfl,HI⟩
 case round=>
  clear HI;obtain⟨k,f4,rfl,HI⟩:=hrel;by_cases d8:k<Cs.length
  ·obtain⟨c,b0⟩:∃c,Cs[k]?=some c:=⟨_,aC d8⟩;obtain⟨_,_,e2,d2⟩:=e0.out.kept (HI.out.but.tb HM.out)
   cases e2
   obtain⟨b2,o2,rfl,b4,d0,d1,_⟩:=d2 k c b0;have e6:=HN.out c (aD b0);have b7:=HO.out k c b0;have b8:=HS.out k c b0;have f5:=HI.out.lo;obtain⟨m,hm,ht⟩:=HI.out.tree;obtain⟨nm,ch⟩:=c;simp only at d0 d1 e6 b7 b8;obtain⟨w5,J⟩:∃w5,w5=wr.alloc (.cells #[.string nm,chV ch] 226):=⟨_,rfl⟩;have c8:Below wr.heap.size wr w5:=by rw[J];exact(Below.refl _ _).alloc (aA _) _
   have b9:w5.heap[wr.heap.size]?=some (.cells #[.string nm,chV ch] 226 (0,0)):=by rw[J];exact(aH wr _).1
   have e8:wr.heap.size<w5.heap.size:=by rw[J];simp
   have b3:=HI.out.below c8;have c1:cK w5.drew I (s k) m:=(ht.below c8 (aA _)).below ((Below.refl _ _).drew) (aA _);obtain⟨l,b5,d5,d6⟩:=c1.look nm (by omega);have a7:w5.cell? ⟨w.heap.size,0,none⟩=some (.map (some I)):=by have:=b3.tb;simp[World.cell?,this]
   obtain⟨l0,l1⟩:=iJ b9;have HA:Hid (Calls Tryz.prog (tP ch) #[aAq ch,kT l] w5.drew λe V=>∃l' U,e=.returned (kT l')/\(Instr.mapUpdate 119 (.map (some I)) (.string nm) (kT l')).run Tryz.prog V=.ok () U/\(V.cell? ⟨w.heap.size,0,none⟩=some (.map (some I))/\V.cell? ⟨wr.heap.size,0,none⟩=some (.string nm)/\V.cell? ⟨wr.heap.size,1,none⟩=some (chV ch))/\(U.cell? ⟨w.heap.size,0,none⟩=some (.map (some I))/\U.cell? ⟨wr.heap.size,0,none⟩=some (.string nm)/\U.cell? ⟨wr.heap.size,1,none⟩=some (chV ch))/\aHt w U I (s (k+1)) (n+(k+1))):=by
    refine(b8 w5.drew l b3.but.drew d5 d6).mono ?_;rintro e V ⟨l',rfl,e3,e4,c9⟩;have a9:Below w5.heap.size w5 V:=(Below.refl _ w5).drew.trans c9;have a0:=b3.below a9;have e9:cK V I (s k) m:=c1.below c9 (aA _);obtain⟨U,a4,f3,a3⟩:=e9.put (st':=s (k+1)) (by omega) nm l' (by omega) e3 e4 b7;have c0:=(a9.block wr.heap.size e8).trans b9;have f7:=a9.size;have d4:=(a3.block wr.heap.size (by omega) (by simp;omega)).trans c0;have d9:=(a3.block w.heap.size (by omega) (by simp;omega)).trans a0.tb;refine⟨l',U,rfl,a4,⟨?_,(iJ c0).1,(iJ c0).2⟩,⟨?_,(iJ d4).1,(iJ d4).2⟩,⟨?_,?_,d9,m+1,by omega,f3⟩⟩
    ·have:=a0.tb;simp[World.cell?,this]
    ·simp[World.cell?,d9]
    ·exact⟨a3.os.trans a0.but.os,a3.tape.trans a0.but.tape,a3.output.trans a0.but.output,aR a0.but.size a3.size,λj hj e5=>(a3.block j (bJ hj a0.but.size) (by simp;omega)).trans (a0.but.block j hj e5)⟩
    ·have:=a3.size;omega
   have c2:=aIc;have c3:=aId;have c5:=aIe;obtain⟨lc,d7⟩:∃lc,kT l=lc:=⟨_,rfl⟩;rw[d7] at b5 HA;clear b8 b7 b3 c1 ht b9 d2 b0 d5 d6 d7;rcases ch with ⟨E,cl,K,cS⟩|⟨E,K,cS⟩|⟨E,K,cH⟩
   ·simp only[chV,aAq,chT,tP] at d0 d1 l0 l1 HA J
    go_wp2_with fail
    rw[<- J];clear J d0 d1
    go_region_held3 (λw'=>w'.cell? ⟨w.heap.size,0,none⟩=some (.map (some I))/\w'.cell? ⟨wr.heap.size,0,none⟩=some (.string nm)/\w'.cell? ⟨wr.heap.size,1,none⟩=some (.iface 282 (.agg #[.int .u8 E.a,.int .u8 E.b,.int .u8 E.c,.int .u8 E.d,.int .u8 cl.a,.int .u8 cl.b,.int .u8 cl.c,.int .u8 cl.d,K])))
     (first|exact Y.out|exact W.out|exact⟨a7,l0,l1⟩|go_keep)
     (first
      | (go_at_call 332;refine HA.out.mono ?_;rintro e V ⟨l',U,rfl,a4,a1,a2,Z⟩;have W:Hid (V.cell? ⟨w.heap.size,0,none⟩=some (.map (some I))/\V.cell? ⟨wr.heap.size,0,none⟩=some (.string nm)/\V.cell? ⟨wr.heap.size,1,none⟩=some (.iface 282 (.agg #[.int .u8 E.a,.int .u8 E.b,.int .u8 E.c,.int .u8 E.d,.int .u8 cl.a,.int .u8 cl.b,.int .u8 cl.c,.int .u8 cl.d,K]))):=a1;have Y:Hid (U.cell? ⟨w.heap.size,0,none⟩=some (.map (some I))/\U.cell? ⟨wr.heap.size,0,none⟩=some (.string nm)/\U.cell? ⟨wr.heap.size,1,none⟩=some (.iface 282 (.agg #[.int .u8 E.a,.int .u8 E.b,.int .u8 E.c,.int .u8 E.d,.int .u8 cl.a,.int .u8 cl.b,.int .u8 cl.c,.int .u8 cl.d,K]))):=a2;have a8:Hid (aHt w U I (s (k+1)) (n+(k+1))):=Z;clear a1 a2 Z))
    clear W Y a4 b5 a7 l0 l1 c2 c3 c5 HA;go_wp2
    go_roundw
    case rel=>exact⟨k+1,by omega,by go_num,a8⟩
    case measure=>simp[intOf];omega
   ·simp only[chV,aAq,chT,tP] at d0 d1 l0 l1 HA J
    go_wp2_with fail
    rw[<- J];clear J d0 d1
    go_region_held3 (λw'=>w'.cell? ⟨w.heap.size,0,none⟩=some (.map (some I))/\w'.cell? ⟨wr.heap.size,0,none⟩=some (.string nm)/\w'.cell? ⟨wr.heap.size,1,none⟩=some (.iface 284 (.agg #[.int .u8 E.a,.int .u8 E.b,.int .u8 E.c,.int .u8 E.d,K])))
     (first|exact Y.out|exact W.out|exact⟨a7,l0,l1⟩|go_keep)
     (first
      | (go_at_call 340;refine HA.out.mono ?_;rintro e V ⟨l',U,rfl,a4,a1,a2,Z⟩;have W:Hid (V.cell? ⟨w.heap.size,0,none⟩=some (.map (some I))/\V.cell? ⟨wr.heap.size,0,none⟩=some (.string nm)/\V.cell? ⟨wr.heap.size,1,none⟩=some (.iface 284 (.agg #[.int .u8 E.a,.int .u8 E.b,.int .u8 E.c,.int .u8 E.d,K]))):=a1;have Y:Hid (U.cell? ⟨w.heap.size,0,none⟩=some (.map (some I))/\U.cell? ⟨wr.heap.size,0,none⟩=some (.string nm)/\U.cell? ⟨wr.heap.size,1,none⟩=some (.iface 284 (.agg #[.int .u8 E.a,.int .u8 E.b,.int .u8 E.c,.int .u8 E.d,K]))):=a2;have a8:Hid (aHt w U I (s (k+1)) (n+(k+1))):=Z;clear a1 a2 Z))
    clear W Y a4 b5 a7 l0 l1 c2 c3 c5 HA;go_wp2
    go_roundw
    case rel=>exact⟨k+1,by omega,by go_num,a8⟩
    case measure=>simp[intOf];omega
   ·simp only[chV,aAq,chT,tP] at d0 d1 l0 l1 HA J
    go_wp2_with fail
    rw[<- J];clear J d0 d1
    go_region_held3 (λw'=>w'.cell? ⟨w.heap.size,0,none⟩=some (.map (some I))/\w'.cell? ⟨wr.heap.size,0,none⟩=some (.string nm)/\w'.cell? ⟨wr.heap.size,1,none⟩=some (.iface 288 (.agg #[.int .u8 E.a,.int .u8 E.b,.int .u8 E.c,.int .u8 E.d,K])))
     (first|exact Y.out|exact W.out|exact⟨a7,l0,l1⟩|go_keep)
     (first
      | (go_at_call 350;refine HA.out.mono ?_;rintro e V ⟨l',U,rfl,a4,a1,a2,Z⟩;have W:Hid (V.cell? ⟨w.heap.size,0,none⟩=some (.map (some I))/\V.cell? ⟨wr.heap.size,0,none⟩=some (.string nm)/\V.cell? ⟨wr.heap.size,1,none⟩=some (.iface 288 (.agg #[.int .u8 E.a,.int .u8 E.b,.int .u8 E.c,.int .u8 E.d,K]))):=a1;have Y:Hid (U.cell? ⟨w.heap.size,0,none⟩=some (.map (some I))/\U.cell? ⟨wr.heap.size,0,none⟩=some (.string nm)/\U.cell? ⟨wr.heap.size,1,none⟩=some (.iface 288 (.agg #[.int .u8 E.a,.int .u8 E.b,.int .u8 E.c,.int .u8 E.d,K]))):=a2;have a8:Hid (aHt w U I (s (k+1)) (n+(k+1))):=Z;clear a1 a2 Z))
    clear W Y a4 b5 a7 l0 l1 c2 c3 c5 HA;go_wp2
    go_roundw
    case rel=>exact⟨k+1,by omega,by go_num,a8⟩
    case measure=>simp[intOf];omega
  ·obtain rfl:k=Cs.length:=by omega
   go_wp2;refine bodyPost_end (results_none rfl _ _ _) rfl ?_;exact⟨rfl,HI.out.tree,HI.out.but⟩
theorem aQ8(Ps:List PM)(pv:Value)(st:Nat->Nat->ByteArray->PL)(J:Nat->Nat)(w:World)(hp:PV w pv Ps)(hg:aMt w Ps st J)(d1:Ps.length<=10000):
  Calls Tryz.prog 123 #[pv] w λe w'=>∃mb n,e=.returned (.agg #[.map (some mb)])/\cK w' mb (st Ps.length 0) n/\n<=J Ps.length/\w.heap.size<=mb/\Below w.heap.size w w':=by
 have a5:=aO hp;obtain⟨pa,pc,rfl,c7⟩:=hp;clear c7;have Z:=aO hg;obtain⟨w3,Y⟩:∃w3,w3=((w.alloc (.cells #[.map none] 121)).alloc (.map #[] 0)).alloc (.cells #[.map (some (w.heap.size+1))] 121):=⟨_,rfl⟩;obtain⟨a9,c8,a7,b9,a8⟩:=yU w _ _ _ Y;have hI:aTg w w3 (st 0 0) (J 0):=by
  refine⟨a9,by omega,a8,a7,0,aE _,?_⟩;rw[hg.start];have h0:=cK.made (w.alloc (.cells #[.map none] 121));have s1:(w.alloc (.cells #[.map none] 121)).heap.size=w.heap.size+1:=by simp
  rw[s1] at h0;rw[Y];exact h0.below ((Below.refl _ _).alloc (aA _) _) (aA _)
 have E:=aO hI;clear hg hI a9 a7 b9 a8 c8;have d3:∀w,(Instr.makeMap 119 none).run Tryz.prog w=.ok (.map (some w.heap.size)) (w.alloc (.map #[] 0)):=λ_=>by kernel_rfl
 go_enter Tryz.func123,Tryz.ntmps123;go_wp2;rw[<- Y];clear Y
 go_loopw [10] (λx wr=>∃p:Nat,p<=Ps.length/\x=.int .i64 p/\Hid (aTg w wr (st p 0) (J p))) (λx _=>Ps.length - (intOf x).toNat)
 case atStart=>exact⟨0,aE _,rfl,E⟩
 case round=>
  clear E;obtain⟨p,d5,rfl,E⟩:=hrel;by_cases c6:p<Ps.length
  ·obtain⟨P,hP⟩:∃P,Ps[p]?=some P:=⟨_,aC c6⟩;obtain⟨_,_,e1,V⟩:=a5.out.below E.out.bel (aA _)
   cases e1
   obtain⟨b,o,rfl,hb,c0,c1,c2,c3,c4,W⟩:=V p P hP;have HP:=aO hP;have b1:=Z.out.few P (aD hP);obtain⟨ca,cc,a2,_⟩:=W;rw[a2] at c4;have b6:=aO a2;obtain⟨w4,a3⟩:∃w4,w4=wr.alloc (.cells #[.int .u8 P.id.a,.int .u8 P.id.b,.int .u8 P.id.c,.int .u8 P.id.d,.slice ca P.Cs.length cc] 149):=⟨_,rfl⟩;have b0:Below wr.heap.size wr w4:=by rw[a3];exact(Below.refl _ _).alloc (aA _) _
   have b2:w4.heap[wr.heap.size]?=some (.cells #[.int .u8 P.id.a,.int .u8 P.id.b,.int .u8 P.id.c,.int .u8 P.id.d,.slice ca P.Cs.length cc] 149 (0,0)):=by rw[a3];exact(aH wr _).1
   have I:=E.out.below b0;obtain⟨x0,x1,x2,x3,x4⟩:=sK b2;have d0:w4.cell? ⟨w.heap.size+1+1,0,none⟩=some (.map (some (w.heap.size+1))):=by have:=I.tb;simp[World.cell?,this]
   have a0:CV w4 (.slice ca P.Cs.length cc) P.Cs:=by
    obtain⟨_,_,e1,V⟩:=a5.out.below I.bel (aA _);obtain⟨b',o',d2,_,_,_,_,_,_,W⟩:=V p P HP.out;rw[b6.out] at W;exact W
   have c9:=Z.out.small (p+1);rw[Z.out.count p P HP.out] at c9;obtain⟨n4,d4,b4⟩:=I.tree;have HA:Hid (Calls Tryz.prog 189 #[.agg #[.map (some (w.heap.size+1))],.agg #[.int .u8 P.id.a,.int .u8 P.id.b,.int .u8 P.id.c,.int .u8 P.id.d,.slice ca P.Cs.length cc]] w4 λe w'=>e=.returned (.tuple #[])/\aTg w w' (st (p+1) 0) (J (p+1))):=by
    refine(aQh P.id (.slice ca P.Cs.length cc) P.Cs (w.heap.size+1) n4 (st p) w4 a0 b4 (λk c hk=>Z.out.other p P k c HP.out hk) (λk c hk u l hu h1 h2=>Z.out.step p P k c HP.out hk u l (hu.base I.bel (by omega)) h1 h2) (Z.out.names P (aD HP.out)) b1 (by omega)).mono ?_;rintro e w' ⟨rfl,⟨m,hm,ht⟩,U⟩;have b3:=I.lo;refine⟨rfl,U.base I.bel (by omega),aR b3 U.size,(U.block _ (by omega) (by omega)).trans I.tb,(U.block _ (by omega) (by omega)).trans I.rb,m,?_,?_⟩
    ·rw[Z.out.count p P HP.out];omega
    ·rw[Z.out.next p P HP.out];exact ht
   clear V hP a2 E b0 b2 a0 b4 I;subst a3
   go_wp2_with fail
   refine HA.out.mono ?_;rintro e w5 ⟨rfl,a6⟩;have b7:=aO a6;clear a6 HA x0 x1 x2 x3 x4 d0 c0 c1 c2 c3 c4;go_wp2
   go_roundw
   case rel=>exact⟨p+1,by omega,by go_num,b7⟩
   case measure=>simp[intOf];omega
  ·obtain rfl:p=Ps.length:=by omega
   obtain⟨n,hn,ht⟩:=E.out.tree;have b3:=E.out.lo;have d8:wr.cell? ⟨w.heap.size+1+1,0,none⟩=some (.map (some (w.heap.size+1))):=by have:=E.out.tb;simp[World.cell?,this]
   have d6:wr.cell? ⟨w.heap.size,0,none⟩=some (.map none):=by have:=E.out.rb;simp[World.cell?,this]
   have d7:wr.frozen? ⟨w.heap.size,0,none⟩=false:=eG E.out.rb 0;obtain⟨w9,a4⟩:∃w9,w9=wr.setCell ⟨w.heap.size,0,none⟩ (.map (some (w.heap.size+1))):=⟨_,rfl⟩;have s1:=heap_setCell_same wr w.heap.size 0 _ 121 (.map (some (w.heap.size+1))) E.out.rb;have K:=iN.set wr w.heap.size 0 (.map (some (w.heap.size+1)));rw[<- a4] at s1 K;have c5:Below w.heap.size w w9:=⟨K.os.trans E.out.bel.os,K.tape.trans E.out.bel.tape,K.output.trans E.out.bel.output,by rw[K.size];exact E.out.bel.size,λk hk=>(K.block k (by omega)).trans (E.out.bel.block k hk)⟩;have b5:cK w9 (w.heap.size+1) (st Ps.length 0) n:=by
    obtain⟨f,has,D,⟨es,a1,he,hr⟩,h2,h3,h4,h5,h6⟩:=ht;refine⟨f,has,D,⟨es,a1,(K.block _ (by omega)).trans he,hr⟩,h2,h3,h4,h5,λx=>(h6 x).far E.out.rb (by simp) (by rw[K.size];exact aA _) (λk _ hk=>K.block k hk)⟩
   have b8:=aO b5;clear b5 ht E K;go_wp2;rw[<- a4];clear a4;refine bodyPost_ret (results_cell_row (p:=2) (ty:=121) (by kernel_rfl) _ _ w.heap.size 121 _ (0,0) _ rfl s1 Tryz.underlying121 rfl (by kernel_rfl)) rfl ?_;exact⟨w.heap.size+1,n,rfl,b8.out,hn,by omega,c5⟩
theorem aF3(Ps:List PM)(pv:Value)(K:Nat->Nat->ByteArray->PL)(E:Nat->Nat)(w:World)(Y:PV w pv Ps)(U:aMt w Ps K E)(J:Ps.length<=10000):
  Calls Tryz.prog 123 #[pv] w λe w'=>∃I n,e=.returned (.agg #[.map (some I)])/\cK w' I (K Ps.length 0) n/\n<=100000/\w.heap.size<=I/\Below w.heap.size w w':=
 (aQ8 Ps pv K E w Y U J).mono λ_ _ ⟨I,n,h1,h2,V,W⟩=>⟨I,n,h1,h2,aR V (U.small _),W⟩
def aBe(t:TypeId):Prop:=t=313\/t=327\/t=226
def rows(t:TypeId):Prop:=t=313\/t=327
structure bU (T:TypeId->Prop) (w w':World):Prop where
 size:w.heap.size<=w'.heap.size
 keep:∀g t,TB w g t->T t->w'.heap[g]?=w.heap[g]?
abbrev aVy:=bU aBe
abbrev aE4:=bU rows
theorem bU.refl{T:TypeId->Prop}(w:World):bU T w w:=⟨aA _,λ_ _ _ _=>rfl⟩
theorem bU.trans{T:TypeId->Prop}{a b c:World}(h:bU T a b)(k:bU T b c):bU T a c:=
 ⟨aR h.size k.size,λg t E I=>(k.keep g t (E.same (h.keep g t E I)) I).trans (h.keep g t E I)⟩
theorem bU.mono{T E:TypeId->Prop}{a b:World}(h:bU T a b)(I:∀t,E t->T t):bU E a b:=⟨h.size,λg t J K=>h.keep g t J (I t K)⟩
theorem bU.rows{a b:World}(h:aVy a b):aE4 a b:=h.mono λ_ E=>E.elim .inl λe=>.inr (.inl e)
theorem bU.of_below{T:TypeId->Prop}{w w':World}(h:Below w.heap.size w w'):bU T w w':=⟨h.size,λg _ E _=>h.block g E.lt⟩
theorem bU.of_but{T:TypeId->Prop}{w w':World}{m:Nat}(h:lZ w w' m){t:TypeId}(V:TB w m t)(W:¬ T t):bU T w w':=⟨h.size,λg u I J=>by
 refine h.block g I.lt ?_;rintro rfl;obtain⟨A,Z,K⟩:=V;obtain⟨Y,U,E⟩:=I;rw[K] at E;simp only[cJ,Obj.cells.injEq] at E;rw[<- E.2.1] at J
 exact W J⟩
theorem bU.of_map{T:TypeId->Prop}{w w':World}{m:Nat}(h:w.grownBy w' (some m))(V:∃I c,w.heap[m]?=some (.map I c)):bU T w w':=⟨h.size,λg u J Y=>by
 refine h.block g J.lt ?_;intro e;injection e with e;subst e;obtain⟨I,c,K⟩:=V;obtain⟨W,U,E⟩:=J;rw[K] at E
 cases E⟩
theorem bU.of_grown{T:TypeId->Prop}{w w':World}{row:Option Nat}(h:w.grownBy w' row)(V:∀m,row=some m->∃t,TB w m t/\¬ T t):bU T w w':=⟨h.size,λg u I J=>by
 refine h.block g I.lt ?_;intro e;obtain⟨t,⟨A,Z,K⟩,W⟩:=V g e.symm;obtain⟨Y,U,E⟩:=I;rw[K] at E;simp only[cJ,Obj.cells.injEq] at E;rw[<- E.2.1] at J
 exact W J⟩
theorem bU.set{T:TypeId->Prop}{w:World}{g o:Nat}{t:TypeId}(E:TB w g t)(I:¬ T t)(u:Value):bU T w (w.setCell ⟨g,o,none⟩ u):=bU.of_but ((lZ.refl w g).set u) E I
theorem bU.alloc{T:TypeId->Prop}(w:World)(o:Obj):bU T w (w.alloc o):=bU.of_below ((Below.refl _ _).alloc (aA _) o)
theorem bU.drew{T:TypeId->Prop}(w:World):bU T w w.drew:=⟨aA _,λ_ _ _ _=>rfl⟩
theorem SV.held{w w':World}{v:Value}{S:List aU}(h:SV w v S)(k:aE4 w w'):SV w' v S:=by
 rcases h with h|⟨b,o,cap,rfl,E,J,I⟩
 ·exact .inl h
 ·have e:=k.keep b 313 J (.inl rfl);exact .inr ⟨b,o,cap,rfl,E,J.same e,λj u K=>(bN e _).trans (I j u K)⟩
theorem HV.held{w w':World}{v:Value}{E:List Hk}(h:HV w v E)(k:aE4 w w'):HV w' v E:=by
 obtain⟨I,cap,rfl,V⟩:=h;refine⟨I,cap,rfl,λj r W=>?_⟩;obtain⟨b,o,e,h1,h2,J,K,U⟩:=V j r W;have s:=k.keep b 327 h1 (.inr rfl);exact⟨b,o,e,h1.same s,(bN s _).trans h2,(bN s _).trans J,K.held k,U.held k⟩
theorem aBm.held{w w':World}{c:fM}(h:aBm w c)(k:aE4 w w'):aBm w' c:=by
 cases c
 ·exact SV.held h k
 ·exact SV.held h k
 ·exact HV.held h k
theorem CV.held{w w':World}{v:Value}{Cs:List (ByteArray×fM)}(h:CV w v Cs)(k:aVy w w'):CV w' v Cs:=by
 obtain⟨E,cap,rfl,K⟩:=h;refine⟨E,cap,rfl,λj r U=>?_⟩;obtain⟨b,o,e,h1,h2,I,J⟩:=K j r U;have s:=k.keep b 226 h1 (.inr (.inr rfl));exact⟨b,o,e,h1.same s,(bN s _).trans h2,(bN s _).trans I,J.held k.rows⟩
theorem cK.held{w w':World}{I n:Nat}{J:ByteArray->PL}(h:cK w I J n)(k:aE4 w w')(Z:w'.heap[I]?=w.heap[I]?):cK w' I J n:=by
 obtain⟨f,has,D,⟨K,E,he,hr⟩,h2,U,V,W,Y⟩:=h;exact⟨f,has,D,⟨K,E,Z.trans he,hr⟩,h2,U,V,W,λx=>(Y x).held k⟩
theorem dI{w:World}{B n size:Nat}{e:TypeId}{v:Value}{K:List Value}(h:w.ownsRow B e size v n K){g:Nat}(I:v.ownBlock=some g):TB w g e:=by
 rcases h.2 with ⟨rfl,_⟩|⟨U,cap,E,rfl,_,J,_⟩
 ·cases I
 ·simp[Value.ownBlock] at I;subst I;exact⟨E,_,J⟩
theorem HW.view{w:World}{B:Nat}{v:Value}{E:List Hk}(h:HW w B v E):HV w v E:=by
 have K:=λg=>eZ h.row (g:=g);rcases h.row.2 with ⟨rfl,U⟩|⟨g,cp,J,rfl,_,W,V,_⟩
 ·have:E=[]:=aS U;subst this;exact⟨none,0,rfl,λk r I=>by simp at I⟩
 ·refine⟨some ⟨g,0,none⟩,cp,rfl,λk r I=>⟨g,0,rfl,⟨J,_,W⟩,?_,?_,SV.own (h.nv r (aD I)),SV.own (h.bv r (aD I))⟩⟩
  ·have:=K g rfl (k * 2) r.nv (flat2 E k r I).1;rw[dC,<- this]
   cases k<;>simp[Addr.add]
  ·have:=K g rfl (k * 2+1) r.bv (flat2 E k r I).2;rw[dC,<- this];simp[Addr.add]
where
 flat2:∀(E:List Hk) (k:Nat) (r:Hk),E[k]?=some r->(E.flatMap λh=>[h.nv,h.bv])[k * 2]?=some r.nv/\(E.flatMap λh=>[h.nv,h.bv])[k * 2+1]?=some r.bv
  | [],k,r,h=>by simp at h
  | x::E,0,r,h=>by simp at h;subst h;simp
  | x::E,k+1,r,h=>by
   have Y:=flat2 E k r (by simpa using h);have e:(k+1) * 2=k * 2+2:=by omega
   rw[e];simp only[bL,cI,cY,fB];exact Y
theorem aBu(E:cL)(mb:Nat)(S:List aU)(rv:Value)(name text:ByteArray)(w:World)(Y:SV w rv S):
  Calls Tryz.prog 175 #[.pointer (some ⟨mb,0,none⟩),.agg #[.int .u8 E.a,.int .u8 E.b,.int .u8 E.c,.int .u8 E.d,.bool true,rv],.agg #[.string name,.bool false,.string text]] w λe w'=>
   e=.returned (.iface 284 (.agg #[.int .u8 E.a,.int .u8 E.b,.int .u8 E.c,.int .u8 E.d,rv]))/\Below w.heap.size w w':=by
 obtain⟨Z,kc,rfl⟩:=Y.shape;obtain⟨W,I⟩:∃W,W=(w.alloc (.cells #[.int .u8 E.a,.int .u8 E.b,.int .u8 E.c,.int .u8 E.d,.bool true,.slice Z S.length kc] 185)).alloc (.cells #[.string name,.bool false,.string text] 118):=⟨_,rfl⟩;obtain⟨U,V,K,J⟩:=iI w _ _ I;obtain⟨k0,k1,k2,k3,k4,k5⟩:=qJ K;obtain⟨f0,f1,f2⟩:=dW J;clear V K J;go_enter Tryz.func175,Tryz.ntmps175
 go_wp2_with fail
 rw[<- I];clear I;go_wp2;go_ret;exact⟨rfl,U⟩
def jE(p:PL)(i:cL)(n:Int)(there:Bool)(text:ByteArray):fM->Int->Prop
 | .add i' l _ S,n'=>p.alive=false/\i'=i/\l=p.by_/\S=eD i n (bM text)/\n'=n+(bM text).length
 | .remove i' _ S,n'=>p.alive=true/\there=false/\i'=p.by_/\S=p.S/\n'=n
 | .alter i' _ Hs,n'=>p.alive=true/\there=true/\i'=p.by_/\∃Q,dS (aL p.S) (bM text) 0 0 Q/\oJ (aM p.S) i n (bM text) Q Hs/\n'=eO n (bM text) Q
theorem wL(n:Int)(N:List ByteArray):∀Q:List dL,n<=eO n N Q
 | []=>aBg _
 | q::Q=>by
  have:=wL (n+(bX N q).length) N Q;unfold eO;omega
theorem aO8(N:List ByteArray):∀(Q:List dL) (n:Int) (m:Nat),(∀q∈Q,(bX N q).length<=m)->eO n N Q<=n+Q.length * m
 | [],n,m,_=>by simp[eO]
 | q::Q,n,m,h=>by
  have h1:=aO8 N Q (n+(bX N q).length) m (λx E=>h x (by simp[E]));have h2:=h q (by simp);unfold eO;rw[aY,Int.natCast_add,Int.add_mul];simp only[Int.natCast_one,Int.one_mul];omega
theorem aHz(p:PL)(l:Lat)(i:cL)(n:Int)(E:Nat)(name text:ByteArray)(there:Bool)(w:World)(hl:qV l p)(V:SV w l.rv l.S)(W:pC w E i n)(ht:text.size<=10000)(hL:(bM text).length<=9000)(hS:p.S.length<=9000)(hn:0<=n)(K:n<=1000000)
  (U:∀Q,dS (aL p.S) (bM text) 0 0 Q->∀k,eO n (bM text) (Q.take k)<=10000000/\0<=eO n (bM text) (Q.take k)) :
  Calls Tryz.prog 175 #[.pointer (some ⟨E,0,none⟩),kT l,.agg #[.string name,.bool there,.string text]] w λe w'=>
   ∃c n',e=.returned (chV c)/\jE p i n there text c n'/\aBm w' c/\pC w' E i n'/\lZ w w' E:=by
 obtain⟨l1,l2,l3⟩:=hl;obtain⟨lb,la,J,lS⟩:=l;simp only at l1 l2 l3 V;subst l1 l2 l3;unfold kT;simp only
 cases Y:p.alive
 ·obtain⟨ka,kc,rfl⟩:=V.shape;refine(aHy i p.by_ n E ka _ kc name text there w W ht (by omega) hn K).mono ?_;rintro e w' ⟨v,rfl,hv,Z,I⟩;exact⟨.add i p.by_ v (eD i n (bM text)),_,rfl,⟨Y,rfl,rfl,rfl,rfl⟩,SV.own hv,Z,I⟩
 ·cases there
  ·refine(aBu p.by_ E p.S J name text w V).mono ?_;rintro e w' ⟨rfl,I⟩;exact⟨.remove p.by_ J p.S,n,rfl,⟨Y,rfl,rfl,rfl,rfl⟩,SV.below V I (aA _),W.below I W.lt,lZ.of_below E I⟩
  ·refine(aEc i p.by_ n E p.S J name text w W V ht hL hS hn K U).mono ?_;rintro e w' ⟨v,rfl,⟨Hs,Q,h1,h2,h3,h4⟩,I⟩;exact⟨.alter p.by_ v Hs,_,rfl,⟨Y,rfl,rfl,Q,h2,h3,rfl⟩,h1.view,h4,I⟩
section
variable {P:Program} {ops:Array Oper} {Q:Exit->Act->World->Prop} {md:Region.Mode} {S:World->Prop} {z:Nat}
def wpZ(P:Program)(md:Region.Mode)(ops:Array Oper)(Q:Exit->Act->World->Prop)(S:World->Prop)(z:Nat):Nat->Array Bool->Act->World->Prop
 | 0,listed,a,w=>Region.ready md ops listed=[]/\Q .normal a w
 | fuel+1,listed,a,w=>(Region.ready md ops listed=[]->Q .normal a w)/\
  ∀i∈Region.ready md ops listed,wpOp P ops Q i (λa' w'=>(i≠z->S w')/\wpZ P md ops Q S z fuel (listed.setIfInBounds i true) a' w') a w
theorem aHp:∀(fuel:Nat) (E:Array Bool) (a:Act) (w:World),wpZ P md ops Q S z fuel E a w->wpAny P md ops Q fuel E a w
 | 0,_,_,_,h=>h
 | fuel+1,_,_,_,h=>⟨h.1,λi hi=>wpOp_mono (λI w' J=>aHp fuel _ I w' J.2) (h.2 i hi)⟩
def aGc(md:Region.Mode)(ops:Array Oper)(z j:Nat):Bool:=match ops[z]? with
 | none=>true
 | some oz=>oz.after.any λe=>Region.binds md e && e.on == j
theorem aOl{j:Nat}(h:aGc md ops z j=true){E:Array Bool}(hz:z∈Region.ready md ops E)(Y:j∈Region.ready md ops E):False:=by
 obtain⟨_,oz,U,J⟩:=mem_ready.1 hz;obtain⟨I,oj,Z,_⟩:=mem_ready.1 Y;unfold aGc at h;rw[U] at h;simp only[Array.any_eq_true',jX,beq_iff_eq] at h;obtain⟨e,W,V,K⟩:=h;have h2:=J e W V;rw[K] at h2;rcases yA j E.size with h'|h'
 ·simp[h'] at I h2;rw[I] at h2
  cases h2
 ·simp[eI h'] at h2
theorem aVk{i:Nat}{Z:Oper}{v:Value}(hi:ops[i]?=some Z)(W:∀(j:Nat) (o:Oper) cs b,ops[j]?=some o->o.op≠.select cs b)
  (hQ:∀c a w,Q (.panic c) (a.put Z.dst v) w->Q (.panic c) a w) (hl:aGc md ops z i=true) (a8:i≠z) :
  ∀(fuel:Nat) (E:Array Bool) (a:Act) (w:World),
   (∀j oj,ops[j]?=some oj->j≠i->E.getD j true=false->(∀e∈oj.after,Region.binds md e=true->e.on≠i)->Z.apart ops oj=true)->
   i∈Region.ready md ops E->YieldsIf P ops S Z v a->S w->
   wpZ P md ops Q S z fuel (E.setIfInBounds i true) (a.put Z.dst v) w->wpZ P md ops Q S z (fuel+1) E a w:=by
 intro fuel
 induction fuel with
 | zero=>
  intro E a w _ V hy hS H;refine⟨λh=>(by rw[h] at V;cases V),λj hj=>?_⟩;by_cases I:j=i
  ·subst I;exact hy.wpOp hi hS ⟨λ_=>hS,H⟩
  ·have:=ready_mono hj I;rw[H.1] at this
   cases this
 | succ fuel ih=>
  intro E a w J V hy hS H;refine⟨λh=>(by rw[h] at V;cases V),λj hj=>?_⟩;by_cases I:j=i
  ·subst I;exact hy.wpOp hi hS ⟨λ_=>hS,H⟩
  ·have a2:j≠z:=λe=>aOl hl (e▸hj) V;have h1:=H.2 j (ready_mono hj I);obtain⟨U,oj,Y,a0⟩:=mem_ready.1 hj;have a3:∀e∈oj.after,Region.binds md e=true->e.on≠i:=λe he hb a5=>by
    have h1:=a0 e he hb;have h0:=(mem_ready.1 V).1;rw[a5] at h1;rcases yA i E.size with h'|h'
    ·simp[h'] at h0 h1;rw[h0] at h1
     cases h1
    ·simp[eI h'] at h1
   have h2:=wpOp_putIf Y (J j oj Y I U a3) (λcs b=>W i Z cs b hi) (λcs b=>W j oj cs b Y) hQ hy h1;have K:∀k ok,ops[k]?=some ok->k≠i->(E.setIfInBounds j true).getD k true=false->
     (∀e∈ok.after,Region.binds md e=true->e.on≠i)->Z.apart ops ok=true:=λk ok hk a6 a4 a7=>by
    refine J k ok hk a6 ?_ a7;by_cases a1:j=k
    ·subst a1;exact U
    ·rw[getD_set_ne true a1] at a4;exact a4
   refine wpOp_mono (λa' w' h3=>⟨λ_=>h3.2.1 a2,ih (E.setIfInBounds j true) a' w' K (ready_mono V (Ne.symm I)) h3.1 (h3.2.1 a2) ?_⟩) h2;rw[Array.setIfInBounds_comm _ _ I];exact h3.2.2
theorem aHq(i:Nat)(I:Oper){v:Value}{fuel:Nat}{E:Array Bool}{a:Act}{w:World}(hi:ops[i]?=some I)
  (hs:Region.noSelect ops=true) (V:Region.free md ops E i=true) (Y:(Region.ready md ops E).contains i=true)
  (K:∀c a w,Q (.panic c) (a.put I.dst v) w->Q (.panic c) a w) (W:aGc md ops z i=true) (J:i≠z) (U:S w) (Z:Region.wanted I (yielded ops a.tmps)=true) (hy:∀w,S w->(execOp a.eval I).run P w=.ok (.value v) w)
  (h:wpZ P md ops Q S z fuel (E.setIfInBounds i true) (a.put I.dst v) w):wpZ P md ops Q S z (fuel+1) E a w:=
 aVk hi (Region.noSelect_spec hs) K W J fuel E a w (Region.free_spec hi V) (by simpa using Y) (.inl ⟨Z,hy⟩) U h
theorem zt(i:Nat){I:Oper}{v:Value}{fuel:Nat}{E:Array Bool}{a:Act}{w:World}(U:S w)(hy:∀w,S w->(execOp a.eval I).run P w=.ok (.value v) w)
  (h:wpZ P md ops Q S z fuel (E.setIfInBounds i true) (a.put I.dst v) w) (hi:ops[i]?=some I:=by rfl) (hs:Region.noSelect ops=true:=by kernel_rfl) (V:Region.free md ops E i=true:=by kernel_rfl)
  (Y:(Region.ready md ops E).contains i=true:=by kernel_rfl) (K:∀c a w,Q (.panic c) (a.put I.dst v) w->Q (.panic c) a w:=by exact λ_ _ _ h=>h) (W:aGc md ops z i=true:=by kernel_rfl)
  (J:i≠z:=by decide) (Z:Region.wanted I (yielded ops a.tmps)=true:=by rfl):wpZ P md ops Q S z (fuel+1) E a w:=aHq i I hi hs V Y K W J U Z hy h
theorem bT(i:Nat)(o:Oper){fuel:Nat}{E:Array Bool}{a:Act}{w:World}(Z:ops[i]?=some o)(U:Region.ready md ops E=[i])
  (h:∀I:Act->World->Prop,Shut (∀a w,(i≠z->S w)->wpZ P md ops Q S z fuel (E.setIfInBounds i true) a w->I a w)->if Region.wanted o (yielded ops a.tmps)=true then Oper.wp P o a w I Q else I (a.put o.dst undef) w) :
  wpZ P md ops Q S z (fuel+1) E a w:=by
 refine⟨λJ=>(by rw[U] at J;cases J),λj K=>?_⟩;rw[U,bE] at K;subst K;exact wpOp_step Z (λI V=>h I (λa w W Y=>V a w ⟨W,Y⟩))
theorem fJ{E:Array Bool}{a:Act}{w:World}(I:Region.ready md ops E=[])(h:Q .normal a w):∀fuel,wpZ P md ops Q S z fuel E a w
 | 0=>⟨I,h⟩
 | _+1=>⟨λ_=>h,by rw[I];simp⟩
theorem dF(S:World->Prop)(z:Nat){id:Nat}{a:Act}{w:World}(E:P.follows .mixedOrders=true)
  (h:wpZ P .any ops Q S z ops.size (Array.replicate ops.size false) a w.drew):(Code.region id ops true).wp P Q a w:=
 wp_region_any E (aHp _ _ _ _ h)
end
theorem aIi(i:cL)(S:List aU)(rv:Value)(x:Value)(j:cL)(al:Bool)(xa:Option Addr)(xn xc:Nat)(hx:x=.slice xa xn xc)(w:World)(hr:SV w rv S)(hS:S.length<=100000):
  Calls Tryz.prog 340 #[.agg #[.int .u8 i.a,.int .u8 i.b,.int .u8 i.c,.int .u8 i.d,rv],.agg #[.int .u8 j.a,.int .u8 j.b,.int .u8 j.c,.int .u8 j.d,.bool al,x]] w λe w'=>∃v,e=.returned (.agg #[.int .u8 i.a,.int .u8 i.b,.int .u8 i.c,.int .u8 i.d,.bool false,v])/\SV w' v (cD S)/\Below w.heap.size w w':=by
 subst hx;obtain⟨ra,rc,rfl⟩:=hr.shape;obtain⟨V,Z⟩:∃V,V=((w.alloc (.cells #[.int .u8 i.a,.int .u8 i.b,.int .u8 i.c,.int .u8 i.d,.slice ra S.length rc] 284)).alloc (.cells #[.int .u8 j.a,.int .u8 j.b,.int .u8 j.c,.int .u8 j.d,.bool al,.slice xa xn xc] 185)).alloc (.cells #[.int .u8 0,.int .u8 0,.int .u8 0,.int .u8 0,.bool false,.slice none 0 0] 185):=⟨_,rfl⟩;obtain⟨a7,b9,hA,hR⟩:=nQ w _ _ _ Z;have HD:Hid (Calls Tryz.prog 345 #[.slice ra S.length rc] V.drew λe w'=>∃va vc,e=.returned (.slice va (cD S).length vc)/\SV w' (.slice va (cD S).length vc) (cD S)/\Below V.heap.size V w'):=by
  refine(aC6 S _ V.drew (hr.below (a7.trans ((Below.refl _ _).drew)) (aA _)) (by omega)).mono ?_;rintro e w' ⟨v,rfl,ho,hb⟩;obtain⟨va,vc,rfl⟩:=(SV.own ho).shape;exact⟨va,vc,rfl,SV.own ho,(Below.refl _ V).drew.trans hb⟩
 obtain⟨a0,a1,a2,a3,a4⟩:=sK hA;have W:Hid (V.drew.cell? ⟨w.heap.size,0,none⟩=some (.int .u8 i.a)/\V.drew.cell? ⟨w.heap.size,1,none⟩=some (.int .u8 i.b)/\V.drew.cell? ⟨w.heap.size,2,none⟩=some (.int .u8 i.c)/\V.drew.cell? ⟨w.heap.size,3,none⟩=some (.int .u8 i.d)/\V.drew.cell? ⟨w.heap.size,4,none⟩=some (.slice ra S.length rc)):=⟨a0,a1,a2,a3,a4⟩;have HA:=aO hA;have HR:=aO hR;clear hA hR a0 a1 a2 a3 a4;go_enter Tryz.func340,Tryz.ntmps340
 go_wp2_with fail
 rw[<- Z];clear Z;refine dF (λw'=>w'.cell? ⟨w.heap.size,0,none⟩=some (.int .u8 i.a)/\w'.cell? ⟨w.heap.size,1,none⟩=some (.int .u8 i.b)/\w'.cell? ⟨w.heap.size,2,none⟩=some (.int .u8 i.c)/\w'.cell? ⟨w.heap.size,3,none⟩=some (.int .u8 i.d)/\w'.cell? ⟨w.heap.size,4,none⟩=some (.slice ra S.length rc)) 99 (by kernel_rfl) ?_;refine zt 0 (v:=?v0) W.out (λw0 I=>?hy) ?_
 case hy=>obtain⟨s0,s1,U,s3,s4⟩:=I;go_simp;with_reducible rfl
 simp only[Act.put,aW];refine zt 1 (v:=?v1) W.out (λw0 I=>?hy) ?_
 case hy=>obtain⟨s0,s1,U,s3,s4⟩:=I;go_simp;with_reducible rfl
 simp only[Act.put];refine zt 2 (v:=?v2) W.out (λw0 I=>?hy) ?_
 case hy=>obtain⟨s0,s1,U,s3,s4⟩:=I;go_simp;with_reducible rfl
 simp only[Act.put];refine zt 3 (v:=?v3) W.out (λw0 I=>?hy) ?_
 case hy=>obtain⟨s0,s1,U,s3,s4⟩:=I;go_simp;with_reducible rfl
 simp only[Act.put];refine bT 4 _ rfl (by kernel_rfl) (λKK hK=>?_);go_simp;refine HD.out.mono ?_;rintro e K ⟨va,vc,rfl,b7,Y⟩;clear HD;dsimp only;have a6:=(Y.block w.heap.size (by omega)).trans HA.out;have E:=(Y.block (w.heap.size+1+1) (by omega)).trans HR.out;have a8:=sK a6;refine hK.out _ _ (λ_=>a8) ?_;clear hK;refine zt 5 (v:=?v5) a8 (λw0 I=>?hy) ?_
 case hy=>
  go_simp
  with_reducible rfl
 simp only[Act.put,aW];refine bT 6 _ rfl (by kernel_rfl) (λKK hK=>?_);have r0:K.cell? ⟨w.heap.size+1+1,0,none⟩=some (.int .u8 0):=by simp[World.cell?,E]
 have a9:K.frozen? ⟨w.heap.size+1+1,0,none⟩=false:=by simp[World.frozen?,E]
 have r1:K.cell? ⟨w.heap.size+1+1,1,none⟩=some (.int .u8 0):=by simp[World.cell?,E]
 have b0:K.frozen? ⟨w.heap.size+1+1,1,none⟩=false:=by simp[World.frozen?,E]
 have r2:K.cell? ⟨w.heap.size+1+1,2,none⟩=some (.int .u8 0):=by simp[World.cell?,E]
 have b1:K.frozen? ⟨w.heap.size+1+1,2,none⟩=false:=by simp[World.frozen?,E]
 have r3:K.cell? ⟨w.heap.size+1+1,3,none⟩=some (.int .u8 0):=by simp[World.cell?,E]
 have b2:K.frozen? ⟨w.heap.size+1+1,3,none⟩=false:=by simp[World.frozen?,E]
 have r4:K.cell? ⟨w.heap.size+1+1,4,none⟩=some (.bool false):=by simp[World.cell?,E]
 have b3:K.frozen? ⟨w.heap.size+1+1,4,none⟩=false:=by simp[World.frozen?,E]
 have r5:K.cell? ⟨w.heap.size+1+1,5,none⟩=some (.slice none 0 0):=by simp[World.cell?,E]
 have b4:K.frozen? ⟨w.heap.size+1+1,5,none⟩=false:=by simp[World.frozen?,E]
 go_simp;obtain⟨w9,a5⟩:∃w9,w9=(((((K.setCell ⟨w.heap.size+1+1,0,none⟩ (.int .u8 i.a)).setCell ⟨w.heap.size+1+1,1,none⟩ (.int .u8 i.b)).setCell ⟨w.heap.size+1+1,2,none⟩ (.int .u8 i.c)).setCell ⟨w.heap.size+1+1,3,none⟩ (.int .u8 i.d)).setCell ⟨w.heap.size+1+1,4,none⟩ (.bool false)).setCell ⟨w.heap.size+1+1,5,none⟩ (.slice va (cD S).length vc):=⟨_,rfl⟩;rw[<- a5];obtain⟨s1,U⟩:=aTd K _ _ _ _ _ w9 w9.drew (w.heap.size+1+1) _ rfl _ _ _ _ _ _ E rfl rfl rfl rfl rfl a5 rfl;have b8:SV w9 (.slice va (cD S).length vc) (cD S):=b7.far (w':=w9.drew) E (by simp) (by rw[U.size];exact aA _) (λk _ hk=>U.block k hk);have J:Below w.heap.size w K:=a7.trans (Y.mono (by omega));have b5:Below w.heap.size w w9:=⟨U.os.trans J.os,U.tape.trans J.tape,U.output.trans J.output,by have:=U.size;have:=J.size;simp at *;omega,λk hk=>(U.block k (by omega)).trans (J.block k hk)⟩;have b6:=sK ((U.block w.heap.size (by omega)).trans a6);refine hK.out _ _ (λ_=>b6) ?_;clear hK a5 U r0 r1 r2 r3 r4 r5 a9 b0 b1 b2 b3 b4;refine fJ (by kernel_rfl) ?_ _;go_wp2;refine bodyPost_ret (results_cell_row (p:=4) (ty:=185) (by kernel_rfl) _ _ (w.heap.size+1+1) 185 _ (0,0) _ rfl s1 Tryz.underlying185 rfl (by kernel_rfl)) rfl ?_;exact⟨_,rfl,b8,b5⟩
def oC(name:ByteArray):ByteArray:=((⟨#[114,101,109,111,118,101,32]⟩:ByteArray)++name)++⟨#[10]⟩
theorem aG3(i:cL)(S:List aU)(rv:Value)(name:ByteArray)(W:name.size<=1000)(x:Value)(j:cL)(al:Bool)(xa:Option Addr)(xn xc:Nat)(hx:x=.slice xa xn xc)(w:World)(Y:SV w rv S)(hS:yI S):
  Calls Tryz.prog 344 #[.agg #[.int .u8 i.a,.int .u8 i.b,.int .u8 i.c,.int .u8 i.d,rv],.string name,.agg #[.int .u8 j.a,.int .u8 j.b,.int .u8 j.c,.int .u8 j.d,.bool al,x]] w λe w'=>e=.returned (.string (oC name++gI ⟨#[45]⟩ S))/\Below w.heap.size w w':=by
 subst hx;obtain⟨ra,rc,rfl⟩:=Y.shape;obtain⟨I,E⟩:∃I,I=(w.alloc (.cells #[.int .u8 i.a,.int .u8 i.b,.int .u8 i.c,.int .u8 i.d,.slice ra S.length rc] 284)).alloc (.cells #[.int .u8 j.a,.int .u8 j.b,.int .u8 j.c,.int .u8 j.d,.bool al,.slice xa xn xc] 185):=⟨_,rfl⟩;obtain⟨J,a0,hA⟩:=uP w _ _ E;have Z:Hid (Calls Tryz.prog 338 #[.string ⟨#[45]⟩,.slice ra S.length rc] I λe w'=>e=.returned (.string (gI ⟨#[45]⟩ S))/\Below I.heap.size I w'):=kJ ⟨#[45]⟩ S _ I (Y.below J (aA _)) (by decide) hS;have z0:=uO ⟨#[45]⟩ S (by decide) hS;have z1:(⟨#[114,101,109,111,118,101,32]⟩:ByteArray).size<=7:=by decide
 have z2:(⟨#[10]⟩:ByteArray).size<=1:=by decide
 have z3:((⟨#[114,101,109,111,118,101,32]⟩:ByteArray)++name).size<=1007:=by rw[aN];omega
 have z4:(((⟨#[114,101,109,111,118,101,32]⟩:ByteArray)++name)++⟨#[10]⟩).size<=1008:=by rw[aN];omega
 clear hA;go_enter Tryz.func344,Tryz.ntmps344
 go_wp2_with fail
 rw[<- E];clear E Y;refine Z.out.mono ?_;rintro e w4 ⟨rfl,U⟩;clear Z;have V:Below w.heap.size w w4:=J.trans (U.mono (by omega));obtain⟨T,K⟩:∃T,gI ⟨#[45]⟩ S=T:=⟨_,rfl⟩;rw[K] at z0 ⊢;have HT:=aO K;clear K;go_wp2;go_ret;exact⟨by rw[HT.out];rfl,V⟩
end Go.Proofs.YtgdfipmdmgkidaaGreatDoor
