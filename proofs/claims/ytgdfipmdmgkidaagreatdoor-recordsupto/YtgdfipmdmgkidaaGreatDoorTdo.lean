import Derived.Test.YtgdfipmdmgkidaaGreatDoorTmk2
import Derived.Test.YtgdfipmdmgkidaaGreatDoorXrec
import Derived.Test.YtgdfipmdmgkidaaGreatDoorWtake
import Derived.Test.YtgdfipmdmgkidaaGreatDoorPwrite
import Derived.Test.YtgdfipmdmgkidaaGreatDoorAl
set_option linter.all false
set_option maxHeartbeats 3200000
set_option maxRecDepth 100000
namespace Go.Proofs.YtgdfipmdmgkidaaGreatDoor
open Go.RowKit
section
variable {w w1 w2 w':World} {B:Nat} {t:Tw} {p:vG} {G:List cL} {D:RD} {e:iA} {own:List ByteArray} {Pa:List PM} {R:iD} {s:ByteArray->PL} {k:Nat}
abbrev aMs(w:World)(B:Nat)(t:Tw)(r:Int)(c:ByteArray):Prop:=Calls Tryz.prog 17 #[.pointer (some ⟨t.pb,0,none⟩),.int .i64 r,.string c] w λq w1=>∃T n,q=.returned (.tuple #[.string T,.int .i64 n])/\(0<=n/\n<=1000)/\iG w w1 B t 54 #[.pointer (some ⟨t.rb,0,none⟩),.int .i64 r,.string c] (.tuple #[.string T,.int .i64 n])
theorem yJ.seen(h:yJ w B t p G e own Pa D k R s){u:World}(z:Below w.heap.size w u):kC u t.rb D e own Pa D:=h.m.seen (h.wo.below z)
theorem yJ.one(h:yJ w B t p G e own Pa D k R s):cF w B t.pb p.rg (p.cfg k) p.gb (p.rp k).pv (p.rp k).Ps (p.rp k).fb (fO R.F).length (aX R.F) G:=by
 have h1:=h.pw.2 k h.lt;rw[h.ri.f] at h1;exact h1.few λx z=>iQ.1 z
theorem yJ.fn(h:yJ w B t p G e own Pa D k R s):(fO R.F).length<=1000:=by have:=h.ri.flen;rw[gV];omega
theorem yJ.len(h:yJ w B t p G e own Pa D k R s):(p.rp k).Ps.length<=40:=h.ri.rs.hs.len
theorem yJ.has(h:yJ w B t p G e own Pa D k R s):lE (k:Int) D.repos.length=true:=by rw[h.m.nrl];exact tX h.lt
theorem yJ.fl(h:yJ w B t p G e own Pa D k R s):D.files.length<=10000:=by
 have h1:=h.m.files;have h2:=h.m.plen;omega
theorem yJ.cl(h:yJ w B t p G e own Pa D k R s):D.cells.length<=100000:=by have:=h.m.clen;omega
theorem yJ.pn(h:yJ w B t p G e own Pa D k R s):D.pts.length=Pa.length:=h.m.rel.len
theorem gM.names{Ps:List PM}(h:gM Ps (aX R.F) s):∃K,pG K/\∀x,x∈K↔(aX R.F x).isSome=true\/(s x).alive=true:=by
 obtain⟨A,E,z⟩:=h.al;refine⟨yG ((fO R.F++A).filter λx=>(aX R.F x).isSome || (s x).alive),(mR _).1,λx=>?_⟩;rw[(mR _).2,cT,aG,vI];constructor
 ·exact λq=>q.2
 ·rintro(q|q)
  ·exact⟨.inl (iQ.1 q),.inl q⟩
  ·exact⟨.inr (z x q),.inr q⟩
theorem gM.nlen{Ps:List PM}(h:gM Ps (aX R.F) s){K:List ByteArray}(z:pG K)(E:∀x∈K,(aX R.F x).isSome=true\/(s x).alive=true):K.length<=205:=by
 have h1:=h.few (tD z) E;have h2:=h.hs.len;omega
theorem aHo{u:World}{g cap:Nat}{x:ByteArray}{l:List ByteArray}(h:uX w u g cap (x::l)):g<u.heap.size:=(h.row.lt g rfl).2
theorem aVb(z:nW w B t.pb p G)(E:WO w B t.rb D)(I:TwM e own Pa D G p.nr p.rp)(V:∀j,t.M j↔p.ft j\/xB w t.rb j)(r:Int)(c:ByteArray)(J:lE r p.nr=false):aMs w B t r c:=by
 have K:lI w B t:=⟨p,G,e,own,Pa,D,z,E,I,V⟩;refine(aZc (z.2 0 z.1) r J c).mono ?_;rintro q w1 ⟨rfl,rfl⟩;refine⟨_,_,rfl,by omega,iG.below K (Below.refl _ _) λw2 U=>?_⟩;refine(aNr r c t.rb w2 (E.below U).view (by rw[I.nrl];exact J)).mono ?_;rintro q w' ⟨rfl,rfl⟩;exact⟨rfl,Below.refl _ _⟩
theorem bBg(h:yJ w B t p G e own Pa D k R s)(c:ByteArray)(J:c.size<=10000000)(E:dY c=false):aMs w B t k c:=by
 refine(aWq (h.pw.2 k h.lt) c E).mono ?_;rintro q w1 ⟨rfl,I⟩;refine⟨_,_,rfl,by omega,iG.below h.at_ I λw2 z=>?_⟩;exact aWt k c J t.rb w2 (h.wo.below z).view h.has E
theorem bBh(h:yJ w B t p G e own Pa D k R s)(c:ByteArray)(Y:c.size<=10000000)(V:dY c=true)(K:bY c=[bAc]):aMs w B t k c:=by
 have U:=h.len;refine(aWr (h.pw.2 k h.lt) (by omega) c V [] K).mono ?_;rintro q w1 ⟨x,n,rfl,rfl,rfl,W⟩;refine⟨_,_,rfl,by omega,iG.below h.at_ W λw2 E=>?_⟩;refine(qY k c Y t.rb w2 (h.wo.below E).view h.has V bAc [] K (.inr (.inl rfl)) (λT n w'=>T=⟨(sB ((p.rp k).Ps.map (·.id))).toArray⟩/\n=0/\Below w2.heap.size w2 w') λu g cap z=>?_).mono ?_
 ·have I:=E.trans (z.bel.mono E.size);refine(aLk k R _ B t.rb g 0 _ cap u (h.wo.below I) (h.seen I) h.ri.rpo (z.at_ (j:=0) rfl) (by simp) (aHo z)).mono ?_;rintro q w' ⟨rfl,J⟩;exact⟨_,_,rfl,rfl,rfl,z.bel.trans (J.mono z.bel.size)⟩
 ·rintro q w' ⟨T,n,rfl,rfl,rfl,J⟩;exact⟨rfl,J⟩
theorem aVd(h:yJ w B t p G e own Pa D k R s)(c:ByteArray)(hc:c.size<=10000000)(hw:dY c=true)(hl:bY c=[aE0]):aMs w B t k c:=by
 have a2:=h.len;obtain⟨K,hK,E⟩:=h.ri.rs.names;have a4:=h.ri.rs.nlen hK λx z=>(E x).1 z;obtain⟨st,a3,h1,h2,-,-,-⟩:=h.ri.rs.hs.stands
 have:=aNq h.one h1 (by omega) h.fn K (by omega) (λx z=>(E x).2 (.inl z)) (λx z=>(E x).2 (.inr (by rw[h2] at z;exact z))) (λx z=>by
  have q1:=gR (h.ri.rs.mem ((E x).1 z));obtain⟨z1,z2,z3,z4⟩:=h.ri.rs.sizes x;rw[h2]
  exact⟨by omega,by omega,by omega⟩) c hw [] hl
 rw[h2] at this;refine this.mono ?_;rintro q w1 ⟨x,n,rfl,rfl,rfl,a1,hg⟩;have hT:Tn p.ft w w1:=Tn.grown hg (.inr (.inr ⟨k,h.lt,.inl rfl⟩));refine⟨_,_,rfl,by omega,hT.mono λj hj=>(h.mm j).2 (.inl hj),λw2 W=>?_⟩;have J:=h.wo.mid h.pw hT W;refine(qY k c hc t.rb w2 J.view h.has hw aE0 [] hl (.inr (.inr (.inr rfl))) (λT n w'=>T=⟨#[]⟩/\n=0/\∃R':iD,R'.L=R.L/\aX R'.F=dR s/\(fO R'.F).Nodup/\WO w' B t.rb (D.setR k R')/\hJ w2 w' t.rb) λu g cap I=>?_).mono ?_
 ·have U:=J.below I.bel;have Z:=h.ri.flen;refine(aEg k R _ B t.rb g 0 _ cap u U (h.m.seen U) h.ri.rpo h.cl h.fl (by omega) (λK' a0 V=>by have:=h.ri.rs.nlen a0 λx z=>(V x).1 z;omega) (I.at_ (j:=0) rfl) (by simp) (aHo I)).mono ?_;rintro q w' ⟨rfl,R',e1,Y,e3,hW,Z⟩;exact⟨_,_,rfl,rfl,rfl,R',e1,Y,e3,hW,(hJ.ofBelow I.bel J.wr.lt).trans Z⟩
 ·rintro q w' ⟨T,n,rfl,rfl,rfl,R',e1,Y,e3,hW,Z⟩;refine⟨rfl,iO.of h.pw h.wo h.mm (nW.of (R:=⟨(p.rp k).pv,(p.rp k).Ps,(p.rp k).fb,K.length,_⟩) h.lt a1) hT (λj hj=>.inl (aR1 hj)) W hW Z (h.m.setF h.ri e1 rfl Y.symm ?_ e3)⟩;rw[Y];exact h.ri.rs.revert
theorem tC{N:List Nat}{Ps:List PM}(h:pF Pa N Ps){P:PM}(E:P∈Ps):P∈Pa:=by
 obtain⟨j,z⟩:=bI.1 E;have I:j<N.length:=by rw[h.1];exact(aB.1 z).1
 exact aD (h.2 j _ P (aC I) z)
theorem TwM.pids{nr:Nat}{rp:Nat->Rep}(h:TwM e own Pa D G nr rp){P:PM}(z:P∈Pa):P.id∈G/\pK P.id/\P.id≠lF:=by
 have h1:P.id∈G:=by rw[<- h.ids];exact aI.2 ⟨P,z,rfl⟩
 exact⟨h1,h.ok _ h1⟩
theorem aYb{Cs:List (ByteArray×fM)}{E:ByteArray->PL}(h:∀c∈Cs,∃T:ByteArray,fU c.2 c.1 (E c.1) T/\T.size<=1000000):∃t:Nat->ByteArray,(∀j c,Cs[j]?=some c->fU c.2 c.1 (E c.1) (t j))/\∀j,(t j).size<=1000000:=by
 have:∀j:Nat,∃T:ByteArray,(∀c:ByteArray×fM,Cs[j]?=some c->fU c.2 c.1 (E c.1) T)/\T.size<=1000000:=λj=>by
  cases z:Cs[j]? with
  | none=>exact⟨⟨#[]⟩,(λc I=>by cases I),by decide⟩
  | some c=>
   obtain⟨T,t1,t2⟩:=h c (aD z);exact⟨T,(λJ e=>by cases e;exact t1),t2⟩
 exact⟨λj=>Classical.choose (this j),λj c z=>(Classical.choose_spec (this j)).1 c z,λj=>(Classical.choose_spec (this j)).2⟩
theorem aZ9(h:yJ w B t p G e own Pa D k R s)(c:ByteArray)(hc:c.size<=10000000)(hw:dY c=true)(a b K d:UInt8)(hl:bY c=[aPy,⟨#[a,b,K,d]⟩]):aMs w B t k c:=by
 have a1:=h.len;have J:∀P∈(p.rp k).Ps,pK P.id:=λP V=>(h.m.pids (tC h.ri.pk V)).2.1;have U:∀{X:ByteArray} {N:Int},(∀u g cap w2,Below w.heap.size w w2->uX w2 u g cap [aPy,⟨#[a,b,K,d]⟩]->Calls Tryz.prog 90 #[.pointer (some ⟨t.rb,0,none⟩),.int .i64 k,.slice (some ⟨g,0,none⟩) 2 cap] u λq w'=>q=.returned (.tuple #[.string X,.int .i64 N])/\Below u.heap.size u w')->
   ∀w2,Below w.heap.size w w2->Calls Tryz.prog 54 #[.pointer (some ⟨t.rb,0,none⟩),.int .i64 k,.string c] w2 λq w'=>q=.returned (.tuple #[.string X,.int .i64 N])/\Below w2.heap.size w2 w':=λ{X N} hX w2 E=>by
  refine(qY k c hc t.rb w2 (h.wo.below E).view h.has hw aPy [⟨#[a,b,K,d]⟩] hl (.inr (.inr (.inl rfl))) (λT n w'=>T=X/\n=N/\Below w2.heap.size w2 w') λu g cap z=>?_).mono ?_
  ·refine(hX u g cap w2 E z).mono ?_;rintro q w' ⟨rfl,h9⟩;exact⟨_,_,rfl,rfl,rfl,z.bel.trans (h9.mono z.bel.size)⟩
  ·rintro q w' ⟨T,n,rfl,rfl,rfl,h9⟩;exact⟨rfl,h9⟩
 by_cases hi:nM a b K d∈(p.rp k).Ps.map (·.id)
 ·obtain⟨P,V,W⟩:=aI.1 hi;obtain⟨j,hj⟩:=bI.1 V;obtain⟨st,Z,h1,h2,-,h3,h4⟩:=h.ri.rs.hs.stands;obtain⟨tt,ht,Y⟩:=aYb λc hc=>h.ri.rs.told st Z h1 j P hj c hc;have a0:=h.ri.rs.hs.slim.few P V;refine(aT2 (h.pw.2 k h.lt) h1 (by omega) h.ri.rs.hs.hist.nd a b K d hj W tt ht Y a0 c hw [] hl).mono ?_;rintro q w1 ⟨x,n,rfl,rfl,rfl,hb⟩;refine⟨_,_,rfl,by omega,iG.below h.at_ hb (U λu g cap w2 E z=>?_)⟩;have I:=E.trans (z.bel.mono E.size);have e1:dT P.id=⟨#[a,b,K,d]⟩:=by rw[W];exact zZ a b K d
  have:=aIa P.id k R _ st tt j P B t.rb g 0 2 cap u (h.wo.below I) (h.seen I) h.ri.rpo (J P V) J hj rfl h1.start h3 h4 h.cl ht Y (z.at_ (j:=0) rfl) (by rw[e1];exact z.at_ (j:=1) rfl) (by omega) (aHo z);exact this
 ·refine(aQz (h.pw.2 k h.lt) (by omega) a b K d hi c hw [] hl).mono ?_;rintro q w1 ⟨x,n,rfl,rfl,rfl,hb⟩;refine⟨_,_,rfl,by omega,iG.below h.at_ hb (U λu g cap w2 E z=>?_)⟩;have I:=E.trans (z.bel.mono E.size);exact aGf (nM a b K d) k R _ B t.rb g 0 2 cap u (h.wo.below I) (h.seen I) h.ri.rpo (aGw a b K d) J hi (z.at_ (j:=0) rfl) (by rw[zZ];exact z.at_ (j:=1) rfl) (by omega) (aHo z)
theorem TwM.env{nr:Nat}{rp:Nat->Rep}{e':iA}(h:TwM e own Pa D G nr rp)(z:e.eqOn e' (Pa.map (·.id))):TwM e' own Pa D G nr rp:=⟨h.rel.env h.ain z,h.ol,h.ain,h.ids,h.nd,h.ok,h.nrl,h.n3,h.rps,h.cells,h.files,h.chs,h.ln,h.plen⟩
theorem bBi(h:yJ w B t p G e own Pa D k R s)(c:ByteArray)(hc:c.size<=10000000)(hw:dY c=true)(hl:bY c=[bAd]):aMs w B t k c:=by
 have a8:=h.len;obtain⟨st,a9,h1,h2,-,-,-⟩:=h.ri.rs.hs.stands;have z:=h.ri.rs;have a5:aMw (aX R.F) s:=⟨λx V=>z.name (by have:=gR (z.mem V);omega),λK J E=>by have:=z.nlen J λx V=>(E x).1 V;omega⟩;have:=aWs h.one h1 h.len h.fn (by rw[h2];exact a5) (by rw[h2];exact λK Cs m J hM=>z.tells hM λx V=>(J.2 x).1 V) c hw [] hl;rw[h2] at this;refine this.mono ?_;rintro q w1 ⟨x,n,rfl,rfl,hb,K,Cs,m,tt,rfl,J,hM,ht,a7⟩;have E:∀x∈K,(aX R.F x).isSome=true\/(s x).alive=true:=λx V=>(J.2 x).1 V;obtain⟨U,Z,a4,a6⟩:=z.renew E hM ht ⟨300,0,0,0⟩;have a0:(⟨300,0,0,0⟩:cL)∉Pa.map (·.id):=λq=>by
  obtain⟨P,hP,e1⟩:=aI.1 q;have:=(h.m.pids hP).2.1;rw[e1] at this;have:=this.1.2;simp at this
 have hj:(⟨300,0,0,0⟩:cL)∉(p.rp k).Ps.map (·.id):=λq=>by
  obtain⟨P,hP,e1⟩:=aI.1 q;exact a0 (aI.2 ⟨P,tC h.ri.pk hP,e1⟩)
 have a3:(⟨300,0,0,0⟩:cL)≠lF:=by decide
 have hE:aCx (e.put D ⟨300,0,0,0⟩ U) D ⟨300,0,0,0⟩ U:=iA.put_at (gM.nd J.1 Z);have a2:=z.recB hj a3 J.1 E Z hE a6 a7;have a1:=h.m.env (iA.put_eqOn (e:=e) (D:=D) (Cs:=U) a0);have b0:=z.nlen J.1 E;have b2:=h.pn;have b1:=h.m.plen;refine⟨_,_,rfl,by omega,iG.below h.at_ hb λw2 W=>?_⟩;refine(qY k c hc t.rb w2 (h.wo.below W).view h.has hw bAd [] hl (.inl rfl) (λT n w'=>T=⟨(dK tt Cs.length).toArray⟩/\n=0/\Below w2.heap.size w2 w') λu g cap I=>?_).mono ?_
 ·have Y:=h.wo.below (W.trans (I.bel.mono W.size))
  have:=aLl ⟨300,0,0,0⟩ k R _ K U m tt B t.rb g 0 1 cap u Y (a1.seen Y) h.ri.rpo J.1 J.2 (by omega) (by omega) h.cl h.fl (λx V=>by
   obtain⟨z1,z2,z3,z4⟩:=z.sizes x;obtain⟨y1,y2,y3⟩:=z.fl x
   exact⟨by omega,by omega,by omega⟩) a2 (I.at_ (j:=0) rfl) (by omega) (aHo I)
  rw[a4] at this;refine this.mono ?_;rintro q w' ⟨rfl,h9⟩;exact⟨_,_,rfl,rfl,rfl,I.bel.trans (h9.mono I.bel.size)⟩
 ·rintro q w' ⟨T,n,rfl,rfl,rfl,h9⟩;exact⟨rfl,h9⟩
end
theorem yX(t:Tw)(on r:Int)(s u:ByteArray)(B bb:Nat)(w:World)(ht:lI w B t)(X:World->World->Prop)
  (Y:∀z,Below w.heap.size w z->Calls Tryz.prog 16 #[.pointer (some ⟨t.pb,0,none⟩),.int .i64 r,.string s,.string u] z λq w1=>∃c,q=.returned (.int .i64 c)/\(0<=c/\c<=1000)/\aKg z w1 t 96 #[.pointer (some ⟨t.rb,0,none⟩),.int .i64 r,.string s,.string u] (.int .i64 c) (X z)) :
  Calls Tryz.prog 58 #[.pointer (some ⟨bb,0,none⟩),twV t,vF 4 on r s u] w λe w'=>e=.returned (.bool true)/\∃z,Below w.heap.size w z/\X z w':=by
 unfold twV vF;obtain⟨z,I⟩:∃z,z=(w.alloc (.cells #[.pointer (some ⟨t.pb,0,none⟩),.pointer (some ⟨t.rb,0,none⟩)] 99)).alloc (.cells #[.int .i64 4,.int .i64 on,.int .i64 r,.string s,.string u] 76):=⟨_,rfl⟩;have E:Below w.heap.size w z:=by rw[I];exact kH _ _ _
 have J:iL z w.heap.size t 4 on r s u:=by rw[I];exact iL.made _ _ _ _ _ _ _
 obtain⟨d0,d1,d2,d3,d4,d5⟩:=J.cells;have V:=aO (Y z E);have HT:=aO (ht.below E);have HB:=aO E;have HX:=aO J;clear Y E J ht;go_enter Tryz.func58,Tryz.ntmps58
 go_wp2_with fail
 rw[<- I];clear I;refine V.out.mono ?_;rintro e w1 ⟨c,rfl,K,U⟩;obtain⟨a0,a1,a2,a3,a4,a5⟩:=(HX.out.tn HT.out U.1).cells;have W:=aO (U.2 w1 (Below.refl _ _));obtain⟨c0,c1⟩:=K;clear U d0 d1 d2 d3 d4 d5 V
 go_wp2_with fail
 refine W.out.mono ?_;rintro e w2 ⟨rfl,Z⟩;have HD:=aO Z;clear Z W a0 a1 a2 a3 a4 a5
 go_wp2_with (go_at_call 53;refine(kN _ _ (by omega) (by omega)).mono ?_;rintro e w' ⟨rfl,rfl⟩)
 go_ret;exact⟨cB (by simp),_,HB.out,HD.out⟩
theorem aIm(t:Tw)(on r:Int)(s u:ByteArray)(B bb:Nat)(w:World)(ht:lI w B t)(X:World->World->Prop)
  (Y:∀z,Below w.heap.size w z->Calls Tryz.prog 80 #[.pointer (some ⟨t.pb,0,none⟩),.int .i64 r,.string s] z λq w1=>∃c,q=.returned (.int .i64 c)/\(0<=c/\c<=1000)/\aKg z w1 t 97 #[.pointer (some ⟨t.rb,0,none⟩),.int .i64 r,.string s] (.int .i64 c) (X z)) :
  Calls Tryz.prog 58 #[.pointer (some ⟨bb,0,none⟩),twV t,vF 5 on r s u] w λe w'=>e=.returned (.bool true)/\∃z,Below w.heap.size w z/\X z w':=by
 unfold twV vF;obtain⟨z,I⟩:∃z,z=(w.alloc (.cells #[.pointer (some ⟨t.pb,0,none⟩),.pointer (some ⟨t.rb,0,none⟩)] 99)).alloc (.cells #[.int .i64 5,.int .i64 on,.int .i64 r,.string s,.string u] 76):=⟨_,rfl⟩;have E:Below w.heap.size w z:=by rw[I];exact kH _ _ _
 have J:iL z w.heap.size t 5 on r s u:=by rw[I];exact iL.made _ _ _ _ _ _ _
 obtain⟨d0,d1,d2,d3,d4,d5⟩:=J.cells;have V:=aO (Y z E);have HT:=aO (ht.below E);have HB:=aO E;have HX:=aO J;clear Y E J ht;go_enter Tryz.func58,Tryz.ntmps58
 go_wp2_with fail
 rw[<- I];clear I;refine V.out.mono ?_;rintro e w1 ⟨c,rfl,K,U⟩;obtain⟨a0,a1,a2,a3,a4,a5⟩:=(HX.out.tn HT.out U.1).cells;have W:=aO (U.2 w1 (Below.refl _ _));obtain⟨c0,c1⟩:=K;clear U d0 d1 d2 d3 d4 d5 V
 go_wp2_with fail
 refine W.out.mono ?_;rintro e w2 ⟨rfl,Z⟩;have HD:=aO Z;clear Z W a0 a1 a2 a3 a4 a5
 go_wp2_with (go_at_call 53;refine(kN _ _ (by omega) (by omega)).mono ?_;rintro e w' ⟨rfl,rfl⟩)
 go_ret;exact⟨cB (by simp),_,HB.out,HD.out⟩
theorem aHx(t:Tw)(on r:Int)(s u:ByteArray)(B:Nat)(w:World)(ht:lI w B t)
  (Y:∀z,Below w.heap.size w z->Calls Tryz.prog 50 #[.pointer (some ⟨t.pb,0,none⟩),.int .i64 r,.string s] z λq w1=>∃T n,q=.returned (.tuple #[.string T,.int .i64 n])/\(0<=n/\n<=1000)/\iG z w1 B t 169 #[.pointer (some ⟨t.rb,0,none⟩),.int .i64 r,.string s] (.tuple #[.string T,.int .i64 n])) :
  Calls Tryz.prog 100 #[twV t,vF 7 on r s u] w λe w'=>e=.returned (.bool true)/\∃z,Below w.heap.size w z/\iO z w' B t:=by
 unfold twV vF;obtain⟨z,I⟩:∃z,z=(w.alloc (.cells #[.pointer (some ⟨t.pb,0,none⟩),.pointer (some ⟨t.rb,0,none⟩)] 99)).alloc (.cells #[.int .i64 7,.int .i64 on,.int .i64 r,.string s,.string u] 76):=⟨_,rfl⟩;have E:Below w.heap.size w z:=by rw[I];exact kH _ _ _
 have J:iL z w.heap.size t 7 on r s u:=by rw[I];exact iL.made _ _ _ _ _ _ _
 obtain⟨d0,d1,d2,d3,d4,d5⟩:=J.cells;have V:=aO (Y z E);have HT:=aO (ht.below E);have HB:=aO E;have HX:=aO J;clear Y E J ht;go_enter Tryz.func100,Tryz.ntmps100
 go_wp2_with fail
 rw[<- I];clear I;refine V.out.mono ?_;rintro e w1 ⟨T,c,rfl,K,U⟩;obtain⟨a0,a1,a2,a3,a4,a5⟩:=(HX.out.tn HT.out U.1).cells;have W:=aO (U.2 w1 (Below.refl _ _));obtain⟨c0,c1⟩:=K;clear U d0 d1 d2 d3 d4 d5 V
 go_wp2_with fail
 refine W.out.mono ?_;rintro e w2 ⟨rfl,Z⟩;have HD:=aO Z;clear Z W a0 a1 a2 a3 a4 a5
 go_wp2_with (go_at_call 53;refine(kN _ _ (by omega) (by omega)).mono ?_;rintro e w' ⟨rfl,rfl⟩)
 go_ret;exact⟨cB (by simp),_,HB.out,HD.out⟩
theorem aMo(t:Tw)(on r:Int)(s u:ByteArray)(B bb:Nat)(w:World)(Y:lI w B t)
  (V:∀z,Below w.heap.size w z->Calls Tryz.prog 50 #[.pointer (some ⟨t.pb,0,none⟩),.int .i64 r,.string s] z λq w1=>∃T n,q=.returned (.tuple #[.string T,.int .i64 n])/\(0<=n/\n<=1000)/\iG z w1 B t 169 #[.pointer (some ⟨t.rb,0,none⟩),.int .i64 r,.string s] (.tuple #[.string T,.int .i64 n])) :
  Calls Tryz.prog 58 #[.pointer (some ⟨bb,0,none⟩),twV t,vF 7 on r s u] w λe w'=>e=.returned (.bool true)/\∃z,Below w.heap.size w z/\iO z w' B t:=by
 unfold twV vF;obtain⟨z,I⟩:∃z,z=(w.alloc (.cells #[.pointer (some ⟨t.pb,0,none⟩),.pointer (some ⟨t.rb,0,none⟩)] 99)).alloc (.cells #[.int .i64 7,.int .i64 on,.int .i64 r,.string s,.string u] 76):=⟨_,rfl⟩;have E:Below w.heap.size w z:=by rw[I];exact kH _ _ _
 have J:iL z w.heap.size t 7 on r s u:=by rw[I];exact iL.made _ _ _ _ _ _ _
 obtain⟨d0,d1,d2,d3,d4,d5⟩:=J.cells;have d6:z.cell? ⟨w.heap.size+1,1,none⟩=some (.int .i64 on):=by simp[World.cell?,J.op]
 have K:=aO (aHx t on r s u B z (Y.below E) λw1 h1=>V w1 (E.trans (h1.mono E.size)));have U:=aO E;clear E J Y V;unfold twV vF at K;go_enter Tryz.func58,Tryz.ntmps58
 go_wp2_with fail
 rw[<- I];clear I;refine K.out.mono ?_;rintro e w1 ⟨rfl,W⟩;have Z:=aO W;clear W K;go_wp2;go_ret;obtain⟨w9,h9,h8⟩:=Z.out;exact⟨rfl,w9,U.out.trans (h9.mono U.out.size),h8⟩
theorem aHw(t:Tw)(on r:Int)(s u:ByteArray)(B:Nat)(w:World)(ht:lI w B t)
  (Y:∀z,Below w.heap.size w z->Calls Tryz.prog 18 #[.pointer (some ⟨t.pb,0,none⟩),.int .i64 r,.string s] z λq w1=>∃T n,q=.returned (.tuple #[.string T,.int .i64 n])/\(0<=n/\n<=1000)/\iG z w1 B t 170 #[.pointer (some ⟨t.rb,0,none⟩),.int .i64 r,.string s] (.tuple #[.string T,.int .i64 n])) :
  Calls Tryz.prog 100 #[twV t,vF 8 on r s u] w λe w'=>e=.returned (.bool true)/\∃z,Below w.heap.size w z/\iO z w' B t:=by
 unfold twV vF;obtain⟨z,I⟩:∃z,z=(w.alloc (.cells #[.pointer (some ⟨t.pb,0,none⟩),.pointer (some ⟨t.rb,0,none⟩)] 99)).alloc (.cells #[.int .i64 8,.int .i64 on,.int .i64 r,.string s,.string u] 76):=⟨_,rfl⟩;have E:Below w.heap.size w z:=by rw[I];exact kH _ _ _
 have J:iL z w.heap.size t 8 on r s u:=by rw[I];exact iL.made _ _ _ _ _ _ _
 obtain⟨d0,d1,d2,d3,d4,d5⟩:=J.cells;have V:=aO (Y z E);have HT:=aO (ht.below E);have HB:=aO E;have HX:=aO J;clear Y E J ht;go_enter Tryz.func100,Tryz.ntmps100
 go_wp2_with fail
 rw[<- I];clear I;refine V.out.mono ?_;rintro e w1 ⟨T,c,rfl,K,U⟩;obtain⟨a0,a1,a2,a3,a4,a5⟩:=(HX.out.tn HT.out U.1).cells;have W:=aO (U.2 w1 (Below.refl _ _));obtain⟨c0,c1⟩:=K;clear U d0 d1 d2 d3 d4 d5 V
 go_wp2_with fail
 refine W.out.mono ?_;rintro e w2 ⟨rfl,Z⟩;have HD:=aO Z;clear Z W a0 a1 a2 a3 a4 a5
 go_wp2_with (go_at_call 53;refine(kN _ _ (by omega) (by omega)).mono ?_;rintro e w' ⟨rfl,rfl⟩)
 go_ret;exact⟨cB (by simp),_,HB.out,HD.out⟩
theorem aMn(t:Tw)(on r:Int)(s u:ByteArray)(B bb:Nat)(w:World)(Y:lI w B t)
  (V:∀z,Below w.heap.size w z->Calls Tryz.prog 18 #[.pointer (some ⟨t.pb,0,none⟩),.int .i64 r,.string s] z λq w1=>∃T n,q=.returned (.tuple #[.string T,.int .i64 n])/\(0<=n/\n<=1000)/\iG z w1 B t 170 #[.pointer (some ⟨t.rb,0,none⟩),.int .i64 r,.string s] (.tuple #[.string T,.int .i64 n])) :
  Calls Tryz.prog 58 #[.pointer (some ⟨bb,0,none⟩),twV t,vF 8 on r s u] w λe w'=>e=.returned (.bool true)/\∃z,Below w.heap.size w z/\iO z w' B t:=by
 unfold twV vF;obtain⟨z,I⟩:∃z,z=(w.alloc (.cells #[.pointer (some ⟨t.pb,0,none⟩),.pointer (some ⟨t.rb,0,none⟩)] 99)).alloc (.cells #[.int .i64 8,.int .i64 on,.int .i64 r,.string s,.string u] 76):=⟨_,rfl⟩;have E:Below w.heap.size w z:=by rw[I];exact kH _ _ _
 have J:iL z w.heap.size t 8 on r s u:=by rw[I];exact iL.made _ _ _ _ _ _ _
 obtain⟨d0,d1,d2,d3,d4,d5⟩:=J.cells;have d6:z.cell? ⟨w.heap.size+1,1,none⟩=some (.int .i64 on):=by simp[World.cell?,J.op]
 have K:=aO (aHw t on r s u B z (Y.below E) λw1 h1=>V w1 (E.trans (h1.mono E.size)));have U:=aO E;clear E J Y V;unfold twV vF at K;go_enter Tryz.func58,Tryz.ntmps58
 go_wp2_with fail
 rw[<- I];clear I;refine K.out.mono ?_;rintro e w1 ⟨rfl,W⟩;have Z:=aO W;clear W K;go_wp2;go_ret;obtain⟨w9,h9,h8⟩:=Z.out;exact⟨rfl,w9,U.out.trans (h9.mono U.out.size),h8⟩
theorem aM4(t:Tw)(on r:Int)(s u:ByteArray)(B:Nat)(w:World)(ht:lI w B t)
  (Y:∀z,Below w.heap.size w z->Calls Tryz.prog 17 #[.pointer (some ⟨t.pb,0,none⟩),.int .i64 r,.string s] z λq w1=>∃T n,q=.returned (.tuple #[.string T,.int .i64 n])/\(0<=n/\n<=1000)/\iG z w1 B t 54 #[.pointer (some ⟨t.rb,0,none⟩),.int .i64 r,.string s] (.tuple #[.string T,.int .i64 n])) :
  Calls Tryz.prog 100 #[twV t,vF 9 on r s u] w λe w'=>e=.returned (.bool true)/\∃z,Below w.heap.size w z/\iO z w' B t:=by
 unfold twV vF;obtain⟨z,I⟩:∃z,z=(w.alloc (.cells #[.pointer (some ⟨t.pb,0,none⟩),.pointer (some ⟨t.rb,0,none⟩)] 99)).alloc (.cells #[.int .i64 9,.int .i64 on,.int .i64 r,.string s,.string u] 76):=⟨_,rfl⟩;have E:Below w.heap.size w z:=by rw[I];exact kH _ _ _
 have J:iL z w.heap.size t 9 on r s u:=by rw[I];exact iL.made _ _ _ _ _ _ _
 obtain⟨d0,d1,d2,d3,d4,d5⟩:=J.cells;have V:=aO (Y z E);have HT:=aO (ht.below E);have HB:=aO E;have HX:=aO J;clear Y E J ht;go_enter Tryz.func100,Tryz.ntmps100
 go_wp2_with fail
 rw[<- I];clear I;refine V.out.mono ?_;rintro e w1 ⟨T,c,rfl,K,U⟩;obtain⟨a0,a1,a2,a3,a4,a5⟩:=(HX.out.tn HT.out U.1).cells;have W:=aO (U.2 w1 (Below.refl _ _));obtain⟨c0,c1⟩:=K;clear U d0 d1 d2 d3 d4 d5 V
 go_wp2_with fail
 refine W.out.mono ?_;rintro e w2 ⟨rfl,Z⟩;have HD:=aO Z;clear Z W a0 a1 a2 a3 a4 a5
 go_wp2_with (go_at_call 53;refine(kN _ _ (by omega) (by omega)).mono ?_;rintro e w' ⟨rfl,rfl⟩)
 go_ret;exact⟨cB (by simp),_,HB.out,HD.out⟩
theorem aSg(t:Tw)(on r:Int)(s u:ByteArray)(B bb:Nat)(w:World)(Y:lI w B t)
  (V:∀z,Below w.heap.size w z->Calls Tryz.prog 17 #[.pointer (some ⟨t.pb,0,none⟩),.int .i64 r,.string s] z λq w1=>∃T n,q=.returned (.tuple #[.string T,.int .i64 n])/\(0<=n/\n<=1000)/\iG z w1 B t 54 #[.pointer (some ⟨t.rb,0,none⟩),.int .i64 r,.string s] (.tuple #[.string T,.int .i64 n])) :
  Calls Tryz.prog 58 #[.pointer (some ⟨bb,0,none⟩),twV t,vF 9 on r s u] w λe w'=>e=.returned (.bool true)/\∃z,Below w.heap.size w z/\iO z w' B t:=by
 unfold twV vF;obtain⟨z,I⟩:∃z,z=(w.alloc (.cells #[.pointer (some ⟨t.pb,0,none⟩),.pointer (some ⟨t.rb,0,none⟩)] 99)).alloc (.cells #[.int .i64 9,.int .i64 on,.int .i64 r,.string s,.string u] 76):=⟨_,rfl⟩;have E:Below w.heap.size w z:=by rw[I];exact kH _ _ _
 have J:iL z w.heap.size t 9 on r s u:=by rw[I];exact iL.made _ _ _ _ _ _ _
 obtain⟨d0,d1,d2,d3,d4,d5⟩:=J.cells;have d6:z.cell? ⟨w.heap.size+1,1,none⟩=some (.int .i64 on):=by simp[World.cell?,J.op]
 have K:=aO (aM4 t on r s u B z (Y.below E) λw1 h1=>V w1 (E.trans (h1.mono E.size)));have U:=aO E;clear E J Y V;unfold twV vF at K;go_enter Tryz.func58,Tryz.ntmps58
 go_wp2_with fail
 rw[<- I];clear I;refine K.out.mono ?_;rintro e w1 ⟨rfl,W⟩;have Z:=aO W;clear W K;go_wp2;go_ret;obtain⟨w9,h9,h8⟩:=Z.out;exact⟨rfl,w9,U.out.trans (h9.mono U.out.size),h8⟩
theorem aVm(n:Int)(z:n<1\/3<n)(w:World):
  Calls Tryz.prog 15 #[.int .i64 n] w λe w'=>e=.returned (.tuple #[.pointer none,.int .i64 14])/\w'=w:=by
 go_enter Tryz.func15,Tryz.ntmps15;rcases z with h|h
 ·go_wp2;go_ret2;exact⟨rfl,rfl⟩
 ·have h1:¬ (n<1):=by omega
  go_wp2;go_ret2;exact⟨rfl,rfl⟩
theorem yH.lower{w:World}{B z gb fb:Nat}{pv:Value}{R:Rep}(h:yH w z gb fb pv R)(E:B<=z):yH w B gb fb pv R:=⟨aR E h.lo,bK h.own E,h.chs,h.files,h.ng,h.nf,h.far⟩
theorem nW.lower{w:World}{B E pb:Nat}{p:vG}{G:List cL}(h:nW w E pb p G)(z:B<=E):nW w B pb p G:=⟨h.1,λr I=>by
 have q:=h.2 r I
 exact⟨⟨aR z q.lo.1,aR z q.lo.2.1,aR z q.lo.2.2.1,aR z q.lo.2.2.2⟩,q.wb,q.row,q.given,bK q.own z,q.chs,q.files,q.ne,q.cap1,λi hi=>(q.oths i hi).lower z⟩⟩
theorem WO.lower{w:World}{B E rb:Nat}{D:RD}(h:WO w E rb D)(z:B<=E):WO w B rb D:=by
 obtain⟨pv,cv,I,V,J,h1,h2,K,U⟩:=h.wr.wb;exact⟨⟨aR z h.wr.lo,pv,cv,I,V,J,bK h1 z,bK h2 z,bK K z,bK U z⟩,h.ok,h.okr⟩
theorem RpI.nil{r:Nat}{D:RD}{v:Value×Value}{b:Nat}(h:D.repos[r]?=some (iD.nil v)):RpI [] D r (lK b) (iD.nil v) (λ_=>pl0):=
 ⟨h,⟨rfl,λj k P z _=>by simp[iD.nil] at z⟩,rfl,gM.nil,aKb,aA _⟩
def TwF(w:World)(B:Nat)(t:Tw)(f:ByteArray->Option ByteArray):Prop:=∃p e own D R s,yJ w B t p [] e own [] D 0 R s/\aX R.F=f
theorem TwF.at_{w:World}{B:Nat}{t:Tw}{f:ByteArray->Option ByteArray}(h:TwF w B t f):lI w B t:=by
 obtain⟨p,e,own,D,R,s,h,-⟩:=h;exact h.at_
theorem TwF.stays{w w':World}{B:Nat}{t:Tw}{f:ByteArray->Option ByteArray}(h:TwF w B t f)(E:bU aEb w w')(I:∀k,t.M k->w'.heap[k]?=w.heap[k]?):TwF w' B t f:=by
 obtain⟨p,e,own,D,R,s,h,z⟩:=h;exact⟨p,e,own,D,R,s,h.stays E I,z⟩
theorem TwF.below{w w':World}{B:Nat}{t:Tw}{f:ByteArray->Option ByteArray}(h:TwF w B t f)(z:Below w.heap.size w w'):TwF w' B t f:=h.stays (bU.of_below z) λk E=>z.block k (h.at_.hot E).2.lt
theorem TwF.lower{w:World}{B z:Nat}{t:Tw}{f:ByteArray->Option ByteArray}(h:TwF w z t f)(E:B<=z):TwF w B t f:=by
 obtain⟨p,e,own,D,R,s,h,I⟩:=h;exact⟨p,e,own,D,R,s,⟨h.pw.lower E,h.wo.lower E,h.m,h.mm,h.lt,h.ri⟩,I⟩
theorem aZ7{w w1 w2:World}{n pb rg gb fb rb:Nat}{cap:qR}{J:List (Value×Value)}(h1:1<=n)(h3:n<=3)(hn:cap.nr=n)(U:cap.r=0)(Z:∀i,cap.oth i->∃b,cap.rep i=lK b)(hO:cF w1 w.heap.size pb rg cap gb (.slice none 0 0) [] fb 0 (λ_=>none) [])
  (a4:Below w.heap.size w w1) (hv:J.length=n) (hW:WO w2 w1.heap.size rb ⟨[],[],[],J.map iD.nil⟩) (Y:Below w1.heap.size w1 w2):∃M,TwF w2 w.heap.size ⟨pb,rb,M⟩ (λ_=>none)/\∀k,M k->w.heap.size<=k:=by
 obtain⟨V,I,cr,z⟩:=cap;obtain rfl:I=n:=hn;obtain rfl:cr=0:=U;have K:nW w1 w.heap.size pb ((⟨rg,V,I,gb,z⟩:vG).put 0 (lK fb)) []:=nW.of (p:=⟨rg,V,I,gb,z⟩) (r:=0) (R:=lK fb) h1 hO;have a1:=K.stays (bU.of_below Y) λk q=>Y.block k (K.fts q).2.lt;have W:=hW.lower a4.size;have a0:∀r,r<I->∃v,RpI [] ⟨[],[],[],J.map iD.nil⟩ r (((⟨rg,V,I,gb,z⟩:vG).put 0 (lK fb)).rp r) (iD.nil v) (λ_=>pl0):=λr U=>by
  have a5:r<J.length:=by rw[hv];exact U
  have a3:(⟨[],[],[],J.map iD.nil⟩:RD).repos[r]?=some (iD.nil J[r]):=by
   show (J.map iD.nil)[r]?=_;rw[aP,aC a5];rfl
  have:∃b,((⟨rg,V,I,gb,z⟩:vG).put 0 (lK fb)).rp r=lK b:=by
   by_cases e:r=0
   ·exact⟨fb,by simp[vG.put,e]⟩
   ·obtain⟨b,hb⟩:=Z r ⟨U,e⟩;exact⟨b,by simp[vG.put,e];exact hb⟩
  obtain⟨b,hb⟩:=this;rw[hb];exact⟨_,RpI.nil a3⟩
 obtain⟨v0,a2⟩:=a0 0 h1;refine⟨λk=>((⟨rg,V,I,gb,z⟩:vG).put 0 (lK fb)).ft k\/xB w2 rb k,⟨_,⟨λ_=>0,λ_ _=>0⟩,[],_,_,_,⟨a1,W,?_,λk=>Iff.rfl,h1,a2⟩,rfl⟩,λk E=>?_⟩
 ·refine⟨⟨rfl,(λk P q E=>by simp at E),(λk P E=>by simp at E),(λk P E=>by simp at E),(λj k x hj=>by simp at hj),λj i hj=>?_⟩,rfl,(λP K=>by cases K),rfl,aKb,(λi hi=>by cases hi),by show (J.map iD.nil).length=I;rw[aT];exact hv,h3,λr U=>?_,by simp,by simp,(λP K=>by cases K),(λk l p E=>by simp at E),by simp⟩
  ·unfold RD.aft at hj;simp at hj
  ·obtain⟨v,hR⟩:=a0 r U;exact⟨_,_,hR⟩
 ·rcases E with q|q
  ·exact(K.fts q).1
  ·exact(aA1 W.wr q).1
theorem aZf:(Tryz.prog.info? 99).map (λi=>(i.zero,i.size,i.bytes))=some (some (.agg #[.pointer none,.pointer none]),2,16):=by kernel_rfl
theorem WA.begun{w w2 I:World}{B E:Nat}{K:List mX}{lv kv z:Value}{T:List Tw}{t:Tw}{o:Obj}(h0:WA w B E K lv kv T)(hb:Below w.heap.size w w2)(hT:T.length+1<=10000000)
  {f:ByteArray->Option ByteArray} (hX:TwF w2 w.heap.size t f) (a3:∀k,t.M k->w.heap.size<=k) (V:(w2.alloc o).grownBy I lv.ownBlock) (a1:I.ownsRow B 99 2 z (T.length+1) (T.flatMap Tw.cells++t.cells)) :
  WA (I.setCell ⟨E,0,none⟩ z) B E K z kv (T++[t])/\TwF (I.setCell ⟨E,0,none⟩ z) B t f:=by
 have h:=h0.below hb;have a6:(w2.alloc o).heap.size=w2.heap.size+1:=by simp
 have a2:w2.heap.size<=I.heap.size:=by have:=V.size;omega
 have J:∀i,i<w2.heap.size->some i≠lv.ownBlock->I.heap[i]?=w2.heap[i]?:=λi hi a4=>(V.block i (by omega) a4).trans (Below.heap_alloc _ _ _ hi);have t1:TB w2 E 73:=⟨_,_,h.book.cell⟩;have U:I.heap[E]?=some (.cells #[lv,kv] 73 (0,0)):=by
  rw[J E h.bbl λe=>(dI h.row e.symm).ne t1 (by decide) rfl];exact h.book.cell
 have Y:(I.setCell ⟨E,0,none⟩ z).heap.size=I.heap.size:=by simp[World.setCell]
 have hk:∀g t,TB w2 g t->t≠99->t≠73->(I.setCell ⟨E,0,none⟩ z).heap[g]?=w2.heap[g]?:=λg t ht n1 n2=>(Below.heap_setCell _ _ _ _ (ht.ne t1 n2)).trans (J g ht.lt λe=>(dI h.row e.symm).ne ht (λq=>n1 q.symm) rfl);have hm:∀k,Hot w2 k->(I.setCell ⟨E,0,none⟩ z).heap[k]?=w2.heap[k]?:=λk hh=>(Below.heap_setCell _ _ _ _ (λe=>by subst e;exact hh.ne t1 (by simp[pP,cE]))).trans (J k hh.lt λe=>hh.ne (dI h.row e.symm) (by simp[pP,cE]));have hH:bU aEb w2 (I.setCell ⟨E,0,none⟩ z):=⟨by rw[Y];exact a2,λg t' a5 hc=>hk g t' a5 hc.2.2.2 hc.2.1⟩;have hx:∀{B:Nat} {u:Tw},lI w2 B u->lI (I.setCell ⟨E,0,none⟩ z) B u:=λW=>W.stays hH λk q=>hm k (W.hot q).2;have hF:TwF (I.setCell ⟨E,0,none⟩ z) B t f:=(hX.lower h0.lo).stays hH λk q=>hm k (hX.at_.hot q).2;have sh:∀{v n m},eF w2 B (zG w2) v n m->eF (I.setCell ⟨E,0,none⟩ z) B (zG (I.setCell ⟨E,0,none⟩ z)) v n m:=λhv=>by
  have h1:=tA hv.1 λg V=>hk g 9 (dI hv.1 V) (by decide) (by decide);exact⟨h1,λg V=>(h1.lt g V).2⟩
 have a0:=tA h.book.row λg V=>hk g 142 (dI h.book.row V) (by decide) (by decide);refine⟨⟨⟨h.book.lo,?_,aMh U,a0,λg V=>(a0.lt g V).2,λe he=>⟨sh (h.book.ents e he).a,sh (h.book.ents e he).b,sh (h.book.ents e he).c,sh (h.book.ents e he).d,(h.book.ents e he).few⟩,h.book.few⟩,?_,?_,?_,by simpa using hT,by rw[Y];exact aR h.lo a2⟩,hF⟩
 ·show E<_;rw[Y];exact lt_of_block U
 ·have:=gO (o:=0) (u:=z) a1 U (by decide);simpa using this
 ·intro u W;rcases aG.1 W with W|W
  ·exact hx (h.tw u W)
  ·rw[bE] at W;subst W;exact hF.at_
 ·rw[List.pairwise_append];refine⟨h.apart,List.pairwise_singleton _ _,λa ha b Z k q1 q2=>?_⟩;rw[bE] at Z;subst Z;have:=((h0.tw a ha).hot q1).2.lt;have:=a3 k q2;omega
theorem aM7(n:Int)(E:n<1\/3<n)(I:Nat)(w:World):
  Calls Tryz.prog 52 #[.pointer (some ⟨I,0,none⟩),.int .i64 n] w λe w'=>e=.returned (.bool true)/\w'=w:=by
 have z:=aO E;clear E;go_enter Tryz.func52,Tryz.ntmps52
 go_wp2_with (first|(go_at_call 15;refine(aVm n z.out _).mono ?_;rintro e w' ⟨rfl,rfl⟩)|(go_at_call 81;refine(aXp n z.out _).mono ?_;rintro e w' ⟨rfl,rfl⟩)|(go_at_call 53;refine(kN _ _ (by omega) (by omega)).mono ?_;rintro e w' ⟨rfl,rfl⟩))
 go_ret;exact⟨rfl,rfl⟩
theorem aAo(n:Nat)(h1:1<=n)(h3:n<=3)(B E:Nat)(K:List mX)(lv kv:Value)(T:List Tw)(w:World)(h:WA w B E K lv kv T)(hT:T.length+1<=10000000):
  Calls Tryz.prog 52 #[.pointer (some ⟨E,0,none⟩),.int .i64 n] w λe w'=>e=.returned (.bool true)/\∃a3 t,WA w' B E K a3 kv (T++[t])/\TwF w' B t (λ_=>none)/\Below B w w':=by
 obtain⟨i0,c0,c2,c3,c4⟩:=info_parts aZf;have HW:=aO h;clear h;go_enter Tryz.func52,Tryz.ntmps52
 go_wp2_with fail
 refine(aUv _ n h1 h3).mono ?_;rintro e w1 ⟨pb,rg,cap,gb,fb,rfl,a8,a9,Y,a5,a1⟩;have a4:=aO a1;have J:Hid (∀(w2:World) (rb:Nat) (vs:List (Value×Value)),vs.length=n->WO w2 w1.heap.size rb ⟨[],[],[],vs.map iD.nil⟩->Below w1.heap.size w1 w2->∃M,TwF w2 w.heap.size ⟨pb,rb,M⟩ (λ_=>none)/\∀k,M k->w.heap.size<=k):=λw2 rb vs Z q2 q3=>aZ7 h1 h3 a8 a9 Y a5 a1 Z q2 q3;clear a5 a8 a9 Y a1
 go_wp2_with fail
 refine(aUx _ n h1 h3).mono ?_;rintro e w2 ⟨rb,vs,rfl,b5,a6,a2⟩;obtain⟨M,hX,a7⟩:=J.out w2 rb vs b5 a6 a2;have HX:=aO hX;have b6:=aO a7;have a0:Hid (Below w.heap.size w w2):=a4.out.trans (a2.mono a4.out.size);have I:=aO (HW.out.below a0.out);have W:w2.heap[E]?=some (.cells #[lv,kv] 73 (0,0)):=I.out.book.cell;have b8:w2.cell? ⟨E,0,none⟩=some lv:=(gW W).1;have b9:w2.frozen? ⟨E,0,none⟩=false:=aDa W;have b0:E<w2.heap.size:=lt_of_block W;clear a6 a2 W hX a7 b5 J;have b4:lv.ownBlock≠some E:=λe=>by
  obtain⟨c,t',Z,q2⟩:=qN (S:=λx=>x=99) I.out.row rfl e;rw[I.out.book.cell] at Z;injection Z with Z;injection Z with _ Z _;subst Z
  cases q2
 go_wp2_with fail
 refine(kN _ _ (by omega) (by omega)).mono ?_;rintro e w' ⟨rfl,rfl⟩;have c1:=I.out.lo
 go_wp2_with (at_builtin;refine wpList_append_lies _ rfl _ _ _ rfl B 99 i0 _ 2 16 Tryz.underlying68 c0 c2 c3 c4 rfl (by omega) lv T.length (T.flatMap Tw.cells) rfl (I.out.row.alloc _) ⟨w'.heap.size,0,none⟩ 1 1 [.pointer (some ⟨pb,0,none⟩),.pointer (some ⟨rb,0,none⟩)] rfl rfl (World.news_of_block (cs:=#[.pointer (some ⟨pb,0,none⟩),.pointer (some ⟨rb,0,none⟩)]) (t:=99) (fr:=(0,0)) (heap_alloc_new w' _)) (by simp[Value.oneCell']) (by omega) (by unfold maxLen;omega) (by omega) (by simp;omega) (w'.heap.size+1) (by simp) ?_;intro g U w3 V z b7 b3;have c5:w3.cell? ⟨E,0,none⟩=some lv:=(z.cell_far ⟨E,0,none⟩ (by simp;omega) (Ne.symm b4)).trans ((lJ (w:=w') _ b0).1.trans b8);have c6:w3.frozen? ⟨E,0,none⟩=false:=(z.frozen_far ⟨E,0,none⟩ (by simp;omega) (Ne.symm b4)).trans ((lJ (w:=w') _ b0).2.trans b9))
 have R:=WA.begun (t:=⟨pb,rb,M⟩) HW.out a0.out hT HX.out b6.out z V;have HE:Hid (∃a3 t,WA (w3.setCell ⟨E,0,none⟩ (.slice (some ⟨g,0,none⟩) (T.length+1) U)) B E K a3 kv (T++[t])/\TwF (w3.setCell ⟨E,0,none⟩ (.slice (some ⟨g,0,none⟩) (T.length+1) U)) B t (λ_=>none)/\Below B w (w3.setCell ⟨E,0,none⟩ (.slice (some ⟨g,0,none⟩) (T.length+1) U))):=by
  refine⟨_,_,R.1,R.2,?_⟩;have b1:Below B w w':=a0.out.mono HW.out.lo;have b2:Below B w w3:=(b1.alloc c1 _).grown z (by simp;omega) (λq e=>(I.out.row.lt q e).1);exact b2.setCell I.out.book.lo _
 clear R V z b7 b3;go_wp2;go_ret;exact⟨rfl,HE.out⟩
theorem qE.by_add:∀(n:Nat) {Ps:List PM} {s:ByteArray->PL},Ps.length=n->qE Ps s->∀x,(s x).by_=lF\/∃P∈Ps,∃c∈P.Cs,c.1=x/\P.id=(s x).by_/\∃i l v S,c.2=.add i l v S
 | 0,Ps,s,I,h,x=>by
  have e:Ps=[]:=aS I;subst e;have:s=λ_=>pl0:=by have:=h.chain;first|exact this|exact this.symm
  rw[this];exact .inl rfl
 | n+1,Ps,s,I,h,x=>by
  obtain⟨A,P,rfl⟩:∃A P,Ps=A++[P]:=⟨Ps.dropLast,Ps.getLast (by intro q;rw[q] at I;cases I),(jF _).symm⟩;obtain⟨t,h1,h2,-⟩:=h.last;have W:=qE.by_add n (by simpa using I) h1 x;have go:(s x).by_=(t x).by_->((s x).by_=lF\/∃Q∈A++[P],∃c∈Q.Cs,c.1=x/\Q.id=(s x).by_/\∃i l v S,c.2=.add i l v S):=λe=>by
   rw[e];exact W.imp id λ⟨Q,V,r⟩=>⟨Q,aG.2 (.inl V),r⟩
  by_cases U:∃c∈P.Cs,c.1=x
  ·obtain⟨c,J,rfl⟩:=U;have E:=h2.1 c J
   cases z:c.2 with
   | add i l v S=>
    rw[z] at E;obtain⟨-,-,-,e⟩:=E;refine .inr ⟨P,by simp,c,J,rfl,?_,i,l,v,S,z⟩;rw[e]
   | remove i v S=>
    rw[z] at E;obtain⟨-,K,-,e⟩:=E;exact go (by rw[e];exact K)
   | alter i v Hs=>
    rw[z] at E;obtain⟨-,K,-,e,-⟩:=E;exact go (by rw[e];exact K)
  ·exact go (by rw[h2.2 x λc J e=>U ⟨c,J,e⟩])
section
variable {w w1 w2 w':World} {B:Nat} {t:Tw} {p:vG} {G:List cL} {D:RD} {e:iA} {own:List ByteArray} {Pa:List PM} {R R':iD} {s:ByteArray->PL} {k nr:Nat} {rp:Nat->Rep} {X':Rep} {P:PM} {q:RPt}
theorem pF.grow{N:List Nat}{Ps:List PM}(h:pF Pa N Ps)(P:PM):pF (Pa++[P]) N Ps:=⟨h.1,λj k Q E z=>by
 have:=h.2 j k Q E z;rw[aZ (aB.1 this).1]
 exact this⟩
theorem pF.snoc{N:List Nat}{Ps:List PM}(h:pF Pa N Ps)(P:PM):pF (Pa++[P]) (N++[Pa.length]) (Ps++[P]):=⟨by simp[h.1],λj k Q E z=>by
 rcases qO E with ⟨h1,h2⟩|⟨rfl,rfl⟩
 ·rw[aZ (by rw[<- h.1];exact h2)] at z;exact(h.grow P).2 j k Q h1 z
 ·rw[h.1,bH (aA _),jQ] at z
  cases z
  simp⟩
theorem TwM.plus(h:TwM e own Pa D G nr rp)(a9:k<nr)(J:RpI Pa D k (rp k) R s)(hX:X'.Ps=(rp k).Ps++[P])(hf:X'.f=aX R.F)(Y:P.id∉G)(a0:pK P.id/\P.id≠lF)(a4:G.length<40)(W:R'.F=R.F)(hL:R'.L=R.L++[D.pts.length])(a2:∃s',gM X'.Ps (aX R.F) s')
  (hrel:qS e (own++(eK P.Cs).map (·.1)) (Pa++[P]) (D.plus q P.Cs)) (I:aIo (Pa++[P])) (a7:(eK P.Cs).length<=80 * ((rp k).Ps.length+1)) (a6:(gP P.Cs).length<=P.Cs.length) (V:P.Cs.length<=205) (hq:q.chs.length=P.Cs.length) (Z:∀u∈eK P.Cs,0<u.2.line.size/\u.2.line.size<=1000) :
  TwM e (own++(eK P.Cs).map (·.1)) (Pa++[P]) ((D.plus q P.Cs).setR k R') (G++[P.id]) nr (λj=>if j=k then X' else rp j):=by
 have a5:G.length=Pa.length:=by rw[<- h.ids,aT]
 have a1:=J.len;have hc:=h.cells;have a8:=h.files;refine⟨hrel.setR,?_,I,?_,?_,λi hi=>?_,?_,h.n3,λj hj=>?_,?_,?_,λQ E=>?_,λn l m z=>?_,?_⟩
 ·show (own++(eK P.Cs).map (·.1)).length=(D.cells++(eK P.Cs).map _).length;simp[h.ol]
 ·rw[bF,h.ids];rfl
 ·rw[cP];refine⟨h.nd,by simp,λa ha b hb e=>?_⟩;rw[bE.1 hb] at e;exact Y (e▸ha)
 ·rcases aG.1 hi with hi|hi
  ·exact h.ok i hi
  ·rw[bE.1 hi];exact a0
 ·show (D.repos.set k R').length=nr;simp[h.nrl]
 ·by_cases K:j=k
  ·subst K;obtain⟨s',a3⟩:=a2;refine⟨R',s',?_⟩;simp only[if_true];refine⟨RD.setR_at (show (D.plus q P.Cs).repos[j]?=some R from J.at_),?_,by rw[W];exact hf,by rw[W];exact a3,by rw[W];exact J.nd,?_⟩
   ·rw[hL,hX,h.rel.len];exact J.pk.snoc P
   ·rw[hX];simp;exact a1
  ·obtain⟨R2,s2,h2⟩:=h.rps j hj;refine⟨R2,s2,?_⟩;simp only[if_neg K];exact⟨by show (D.repos.set k R')[j]?=_;rw[dE (λq=>K q.symm)];exact h2.at_,h2.pk.grow P,h2.f,h2.rs,h2.nd,by have:=h2.len;simp;omega⟩
 ·show (D.cells++(eK P.Cs).map _).length<=40 * ((Pa++[P]).length * ((Pa++[P]).length+1));simp only[aJ,aT,eY];have e1:(Pa.length+1) * (Pa.length+1+1)=Pa.length * (Pa.length+1)+2 * (Pa.length+1):=by
   rw[aBk,Nat.mul_add,Nat.mul_add];omega
  rw[e1];omega
 ·show (D.files++(gP P.Cs).map _).length<=205 * (Pa++[P]).length;simp only[aJ,aT,eY];omega
 ·rcases aG.1 (show Q∈D.pts++[q] from E) with E|E
  ·exact h.chs Q E
  ·rw[bE.1 E,hq];exact V
 ·rcases sH (show (D.cells++(eK P.Cs).map λu=>(u.2.line,D.pts.length))[n]?=some (l,m) from z) with ⟨z,-⟩|⟨n',-,z⟩
  ·exact h.ln n l m z
  ·rw[aP] at z
   cases U:(eK P.Cs)[n']? with
   | none=>rw[U] at z;cases z
   | some u=>
    rw[U] at z
    cases z
    exact Z u (aD U)
 ·simp only[aJ,eY];omega
theorem aIo.snoc(h:aIo Pa)(U:∀c∈P.Cs,aMr ((Pa++[P]).map (·.id)) c.2/\(∀t∈jS c.2,mM t=P.id)/\∀i l v S,c.2=.add i l v S->i=P.id):aIo (Pa++[P]):=λQ z c E=>by
 rcases aG.1 z with z|z
 ·obtain⟨I,J,K⟩:=h Q z c E;exact⟨I.mono λi hi=>by rw[bF];exact aG.2 (.inl hi),J,K⟩
 ·rw[bE.1 z] at E ⊢;exact U c E
theorem TwM.given(h:TwM e own Pa D G nr rp){i:cL}(hi:pK i):i∈G↔∃P∈D.pts,P.id=dT i:=by
 rw[<- h.ids];constructor
 ·intro I;obtain⟨P,V,J⟩:=aI.1 I;obtain⟨j,z⟩:=bI.1 V;have E:j<D.pts.length:=by rw[h.rel.len];exact(aB.1 z).1
  refine⟨_,bZ E,?_⟩;rw[(h.rel.pt j P _ z (aC E)).1,J]
 ·rintro⟨Q,W,J⟩;obtain⟨j,z⟩:=bI.1 W;have E:j<Pa.length:=by rw[<- h.rel.len];exact(aB.1 z).1
  have K:=aC E;have U:=(h.rel.pt j _ Q K z).1;rw[J] at U;have I:=bZ E;exact aI.2 ⟨_,I,(aS3 hi (h.pids I).2.1 U).symm⟩
theorem TwM.glen(h:TwM e own Pa D G nr rp):D.pts.length=G.length:=by rw[h.rel.len,<- h.ids,aT]
theorem aSx{f:ByteArray->Option ByteArray}{K:List ByteArray}:cO f s K=[]↔∀x∈K,cZ f s x=false:=by
 unfold cO;rw[List.map_eq_nil_iff,aE5];exact⟨λh x z=>by have:=h x z;simpa using this,λh x z=>by rw[h x z];simp⟩
def aTi(G:List cL)(f:ByteArray->Option ByteArray)(s:ByteArray->PL)(i:cL)(L K:List ByteArray)(n:Int):Prop:=(n≠0/\xZ G f s i L n)\/(xZ G f s i L 0/\n=9/\cO f s K=[])
theorem xZ.zero{f:ByteArray->Option ByteArray}{i:cL}{L:List ByteArray}(h:xZ G f s i L 0):i∉G/\G.length<40/\oH f s L:=by
 rcases h with ⟨_,h⟩|⟨_,_,h⟩|⟨_,_,_,h⟩|⟨h1,h2,z,_⟩
 ·cases h
 ·cases h
 ·cases h
 ·exact⟨h1,h2,z⟩
theorem aUs{f:ByteArray->Option ByteArray}{i:cL}{L K:List ByteArray}{n W:Int}(h:aTi G f s i L K n)(V:i∈G↔∃P∈D.pts,P.id=dT i)(hl:D.pts.length=G.length)(hn:aE6 D f s (dT i) L K W):W=n:=by
 have no:(∀P∈D.pts,P.id≠dT i)->i∉G:=λh9 Z=>by
  obtain⟨P,hP,e⟩:=V.1 Z;exact h9 P hP e
 have E:∀{x:ByteArray},(f x).isSome=false->(s x).alive=false->¬ ((f x).isSome=true\/(s x).alive=true):=λa b c=>by rw[a,b] at c;simp at c
 rcases hn with ⟨rfl,h1⟩|⟨Y,h1⟩
 ·have hi:=V.2 h1;rcases h with ⟨z,h⟩|⟨h,rfl,-⟩
  ·rcases h with ⟨_,rfl⟩|⟨h,_⟩|⟨h,_⟩|⟨h,_⟩
   ·rfl
   ·exact absurd hi h
   ·exact absurd hi h
   ·exact absurd hi h
  ·exact absurd hi h.zero.1
 ·have hi:=no Y;rcases h1 with ⟨rfl,h1⟩|⟨h1,h2⟩
  ·rcases h with ⟨z,h⟩|⟨h,rfl,-⟩
   ·rcases h with ⟨h,_⟩|⟨_,_,rfl⟩|⟨_,h,_⟩|⟨_,h,_⟩
    ·exact absurd h hi
    ·rfl
    ·omega
    ·omega
   ·have:=h.zero.2.1;omega
  ·rcases h2 with ⟨rfl,x,I,J,U⟩|⟨h2,rfl,h3⟩
   ·rcases h with ⟨z,h⟩|⟨h,rfl,-⟩
    ·rcases h with ⟨h,_⟩|⟨_,h,_⟩|⟨_,_,_,rfl⟩|⟨_,_,h,_⟩
     ·exact absurd h hi
     ·omega
     ·rfl
     ·exact absurd (h x I) (E J U)
    ·exact absurd (h.zero.2.2 x I) (E J U)
   ·rcases h with ⟨z,h⟩|⟨h,rfl,-⟩
    ·rcases h with ⟨h,_⟩|⟨_,h,_⟩|⟨_,_,⟨x,I,J,U⟩,_⟩|⟨_,_,_,h⟩
     ·exact absurd h hi
     ·omega
     ·exact absurd (h2 x I) (E J U)
     ·exact absurd h z
    ·rfl
theorem aJh{f:ByteArray->Option ByteArray}{i:cL}{L K:List ByteArray}{n:Int}(h:aTi G f s i L K n)(Y:i∈G↔∃P∈D.pts,P.id=dT i)(hl:D.pts.length=G.length)(h1:∀P∈D.pts,P.id≠dT i)(h2:D.pts.length<40)(J:oH f s L)(U:∃x∈K,cZ f s x=true):False:=by
 have hi:i∉G:=λV=>by
  obtain⟨P,Z,e⟩:=Y.1 V;exact h1 P Z e
 rcases h with ⟨z,h⟩|⟨h,rfl,W⟩
 ·rcases h with ⟨h,_⟩|⟨_,h,_⟩|⟨_,_,⟨x,E,q1,q2⟩,_⟩|⟨_,_,_,h⟩
  ·exact hi h
  ·omega
  ·rcases J x E with q|q
   ·rw[q1] at q;cases q
   ·rw[q2] at q;cases q
  ·exact z h
 ·obtain⟨x,E,I⟩:=U;rw[aSx.1 W x E] at I
  cases I
theorem aTi.bd{f:ByteArray->Option ByteArray}{i:cL}{L K:List ByteArray}{n:Int}(h:aTi G f s i L K n):0<=n/\n<=1000:=by
 rcases h with ⟨_,h⟩|⟨_,rfl,_⟩
 ·rcases h with ⟨_,rfl⟩|⟨_,_,rfl⟩|⟨_,_,_,rfl⟩|⟨_,_,_,rfl⟩<;>omega
 ·omega
theorem aTy(f:ByteArray->Option ByteArray)(s:ByteArray->PL)(K:List ByteArray):cO f s K=cO f s (K.filter λx=>(f x).isSome || (s x).alive):=by
 unfold cO;congr 1;rw[List.filter_filter];refine List.filter_congr λx _=>?_
 cases h1:(f x).isSome with
 | true=>simp
 | false=>
  cases h2:(s x).alive with
  | true=>simp
  | false=>
   have z:f x=none:=by simpa using h1
   unfold cZ jJ oN;rw[z,h2];simp
end
theorem aAg(j:Nat)(t:Tw)(on r:Int)(s u:ByteArray)(B bb:Nat)(K:List mX)(lv kv:Value)(T:List Tw)(w:World)(h:WA w B bb K lv kv T)(hK:K.length+1<=10000000)(d6:T[j]?=some t)
  (c:Int) (e3:0<=c) (e4:c<=1000) (L:List ByteArray) (hL:L.length<=1000)
  (hP:∀z,Below w.heap.size w z->Calls Tryz.prog 98 #[.pointer (some ⟨t.pb,0,none⟩),.int .i64 r] z λe w'=>∃v,e=.returned (.tuple #[v,.int .i64 c])/\w'.ownsRow z.heap.size 9 1 v L.length (bW L)/\Below z.heap.size z w')
  (hD:∀z,Below w.heap.size w z->Calls Tryz.prog 99 #[.pointer (some ⟨t.rb,0,none⟩),.int .i64 r] z λe w'=>∃v,e=.returned (.tuple #[v,.int .i64 c])/\w'.ownsRow z.heap.size 9 1 v L.length (bW L)/\Below z.heap.size z w') :
  Calls Tryz.prog 58 #[.pointer (some ⟨bb,0,none⟩),twV t,vF 6 on r s u] w λe w'=>e=.returned (.bool true)/\dX w B bb K T w'/\nV w w' bb:=by
 unfold twV vF;obtain⟨z,a7⟩:∃z,z=(w.alloc (.cells #[.pointer (some ⟨t.pb,0,none⟩),.pointer (some ⟨t.rb,0,none⟩)] 99)).alloc (.cells #[.int .i64 6,.int .i64 on,.int .i64 r,.string s,.string u] 76):=⟨_,rfl⟩;have c2:Below w.heap.size w z:=by rw[a7];exact kH _ _ _
 have c0:iL z w.heap.size t 6 on r s u:=by rw[a7];exact iL.made _ _ _ _ _ _ _
 obtain⟨d0,d1,d2,d3,d4,d5⟩:=c0.cells;have HB:Hid (Below w.heap.size w z):=c2;have c1:Hid (iL z w.heap.size t 6 on r s u):=c0;have HW:Hid (WA w B bb K lv kv T):=h;have HP:Hid (∀z,Below w.heap.size w z->Calls Tryz.prog 98 #[.pointer (some ⟨t.pb,0,none⟩),.int .i64 r] z λe w'=>∃v,e=.returned (.tuple #[v,.int .i64 c])/\w'.ownsRow z.heap.size 9 1 v L.length (bW L)/\Below z.heap.size z w'):=hP;have HD:Hid (∀z,Below w.heap.size w z->Calls Tryz.prog 99 #[.pointer (some ⟨t.rb,0,none⟩),.int .i64 r] z λe w'=>∃v,e=.returned (.tuple #[v,.int .i64 c])/\w'.ownsRow z.heap.size 9 1 v L.length (bW L)/\Below z.heap.size z w'):=hD;clear c2 c0 h d6 hP hD;go_enter Tryz.func58,Tryz.ntmps58
 go_wp2_with fail
 rw[<- a7];clear a7;refine(HP.out _ HB.out).mono ?_;rintro e w1 ⟨v,rfl,J,W⟩;obtain⟨va,vc,rfl⟩:=bC J;obtain⟨a0,a1,a2,a3,a4,a5⟩:=(c1.out.below W).cells;have a8:Hid (iL w1 w.heap.size t 6 on r s u):=c1.out.below W;have b6:Hid (Below w.heap.size w w1):=HB.out.trans (W.mono HB.out.size);have c4:z.heap.size<=w1.heap.size:=W.size;have c8:Hid (w1.ownsRow z.heap.size 9 1 (.slice va L.length vc) L.length (bW L)):=J;clear J W d0 d1 d2 d3 d4 d5
 go_wp2_with fail
 refine(HD.out _ b6.out).mono ?_;rintro e w2 ⟨v,rfl,U,V⟩;obtain⟨ua,uc,rfl⟩:=bC U;obtain⟨b0,b1,b2,b3,b4,b5⟩:=(a8.out.below V).cells;have c5:Hid (Below w.heap.size w w2):=b6.out.trans (V.mono b6.out.size);have c9:Hid (w2.ownsRow w1.heap.size 9 1 (.slice ua L.length uc) L.length (bW L)):=U;have a9:Hid (w2.ownsRow z.heap.size 9 1 (.slice va L.length vc) L.length (bW L)):=bQ c8.out V (aA _);have e2:Hid (iL w2 w.heap.size t 6 on r s u):=a8.out.below V;have d7:z.heap.size<=w2.heap.size:=aR c4 V.size;clear U V a0 a1 a2 a3 a4 a5
 go_wp2_with fail
 refine(aAd L va ua vc uc _ _ _ a9.out c9.out (by omega)).mono ?_;rintro e w3 ⟨rfl,q,rfl⟩;have E:Hid (Below w.heap.size w (w2.drewN q)):=below_drewN c5.out q;have Z:Hid ((w2.drewN q).ownsRow z.heap.size 9 1 (.slice va L.length vc) L.length (bW L)):=bQ a9.out (below_drewN (Below.refl w2.heap.size w2) q) (aA _);have d8:z.heap.size<=(w2.drewN q).heap.size:=aR d7 (below_drewN (Below.refl w2.heap.size w2) q).size;generalize w2.drewN q=w3 at *;clear b0 b1 b2 b3 b4 b5;have c6:Hid (gG w3 B (zG w) bb K lv kv):=HW.out.book.same (zJ.of_below E.out (λg I=>I));have b9:=HW.out.lo;have d9:w.heap.size<=z.heap.size:=HB.out.size
 go_wp2_with fail
 refine(aCo L _ z.heap.size B bb (zG w) K lv kv _ c6.out (λg I=>bJ I E.out.size) Z.out (aR b9 d9) d8 (λg I ho=>by have:=(Z.out.lt g I).1;unfold zG at ho;omega) (by omega) hK).mono ?_;rintro e w4 ⟨rfl,x,e0,Y,a6,b8⟩;have c7:Hid (nV w w4 bb):=by
  have b7:=HW.out.book;have e1:∀g,vJ w (λt=>t=76\/t=99) g->some g≠kv.ownBlock:=λg I e=>by
   obtain⟨c',t',q1,q2⟩:=qN (S:=λx=>x=142) b7.row rfl e.symm;subst q2;exact I.ne q1 (by decide) rfl
  refine⟨λg I=>(b8 g (bJ I.lt E.out.size) (I.ne b7.cell (by decide)) (e1 g I) (λe=>by have:=(Z.out.lt g e.symm).1;have:=I.lt;omega)).trans (E.out.block g I.lt),?_⟩;rw[(gW Y.cell).1,(gW b7.cell).1]
 have HE:Hid (dX w B bb K T w4):=by
  have c3:B<=w4.heap.size:=aR (aR b9 E.out.size) a6.size;have R:=HW.out.booked Y c3 (aR E.out.size a6.size) (λg I n1 n2=>(b8 g (bJ I E.out.size) n1 n2 (λe=>by have:=(Z.out.lt g e.symm).1;omega)).trans (E.out.block g I));exact⟨_,lv,e0,T,R,by simp,aA _,by omega,(E.out.mono b9).trans a6⟩
 clear Y a6 b8
 go_wp2_with (go_at_call 53;refine(kN _ _ (by omega) (by omega)).mono ?_;rintro e w' ⟨rfl,rfl⟩)
 go_ret;exact⟨cB (by simp),HE.out,c7.out⟩
theorem aIn(j:Nat)(t:Tw)(on r:Int)(s u:ByteArray)(B z:Nat)(K:List mX)(lv I:Value)(T:List Tw)(w:World)(h:WA w B z K lv I T)(W:K.length+1<=10000000)(E:T[j]?=some t):
  Calls Tryz.prog 58 #[.pointer (some ⟨z,0,none⟩),twV t,vF 6 on r s u] w λe w'=>e=.returned (.bool true)/\dX w B z K T w'/\nV w w' z:=by
 obtain⟨c,L,J,U,Y,Z,V⟩:=aYh (h.tw t (aD E)) r;exact aAg j t on r s u B z K lv I T w h W E c J U L Y Z V
end Go.Proofs.YtgdfipmdmgkidaaGreatDoor
