import Derived.Test.YtgdfipmdmgkidaaGreatDoorPnames
import Derived.DeepKeys3
import Derived.Test.YtgdfipmdmgkidaaGreatDoorPchange
import Derived.BigRegion
import Derived.Test.YtgdfipmdmgkidaaGreatDoorPgrow
import Derived.Test.YtgdfipmdmgkidaaGreatDoorPmrow
import Derived.Test.YtgdfipmdmgkidaaGreatDoorQcell
import Derived.Lib.SliceRun
import Derived.Test.YtgdfipmdmgkidaaGreatDoorAl
set_option linter.all false
set_option maxHeartbeats 6400000
set_option maxRecDepth 100000
namespace Go.Proofs.YtgdfipmdmgkidaaGreatDoor
open Go.RowKit Go.WideMaps
def idV(i:cL):Value:=.agg #[.int .u8 i.a,.int .u8 i.b,.int .u8 i.c,.int .u8 i.d]
structure pK (i:cL):Prop where
 a:0<=i.a/\i.a<256
 b:0<=i.b/\i.b<256
 c:0<=i.c/\i.c<256
 d:0<=i.d/\i.d<256
def kid(i:cL):Lit:=.string (keyBytes [.int .u8 i.a,.int .u8 i.b,.int .u8 i.c,.int .u8 i.d])
theorem aNd:Tryz.prog.cellsOf 113=4:=by kernel_rfl
theorem bB5{n:Int}(h:0<=n/\n<256):(Lit.int .u8 n).wf=true:=by
 have h1:IntKind.u8.min=0:=rfl;have h2:IntKind.u8.max=255:=rfl;simp only[Lit.wf,h1,h2,jX,decide_eq_true_eq];omega
theorem aS6(d:Nat){n:Int}(h:0<=n/\n<256):Tryz.prog.keyLits (d+1) 5 [.int .u8 n]=some [.int .u8 n]:=by
 simp[Program.keyLits,Tryz.underlying5,bB5 h]
theorem aZj(d:Nat){i:cL}(h:pK i):Tryz.prog.keyLits (d+1+1) 113 [.int .u8 i.a,.int .u8 i.b,.int .u8 i.c,.int .u8 i.d]=some [.int .u8 i.a,.int .u8 i.b,.int .u8 i.c,.int .u8 i.d]:=by
 have z:List.range 4=[0,1,2,3]:=rfl;unfold Program.keyLits;rw[Tryz.underlying113];simp only[aNd,aY,cX,Nat.reduceAdd,if_true,z,Tryz.cells5,List.mapM_cons,List.mapM_nil,jW,rU,oY,oZ,zE,aS6 d h.a,aS6 d h.b,aS6 d h.c,aS6 d h.d];rfl
theorem aLd{i:cL}(h:pK i):keyOf Tryz.prog 113 (idV i)=some (kid i):=by
 have z:Tryz.prog.keyType 113=true:=by kernel_rfl
 have E:Tryz.prog.types.size+1=411+1+1:=by kernel_rfl
 have I:(idV i).formed Tryz.prog 113=true:=by simp[idV,Value.formed,Tryz.underlying113,aNd]
 unfold keyOf;rw[Tryz.underlying113];simp only[z,I,Bool.and_self,if_true];rw[E];have e:(idV i).cells.toList=[.int .u8 i.a,.int .u8 i.b,.int .u8 i.c,.int .u8 i.d]:=rfl;rw[e,aZj 411 h];rfl
theorem aEu:Maps.Keyed Tryz.prog 113:=Maps.Keyed.of_law (deep_law (m:=2) (by omega) (by kernel_rfl) (by kernel_rfl) (by rw[Tryz.underlying113]))
theorem aZh{i j:cL}(hi:pK i)(z:pK j)(h:kid i=kid j):i=j:=by
 have h1:=aLd hi;rw[h] at h1;have:=aEu.inj h1 (aLd z);unfold idV at this;simp at this
 cases i;cases j;simp_all
def yV:Value:=.agg #[]
theorem bAf(w:World):(zeroValue 174).run Tryz.prog w=.ok yV w:=by kernel_rfl
structure GAt (w:World) (gb:Nat) (G:List cL):Prop where
 ex:∃D:DataW Value,w.ownsMap Tryz.prog 113 gU gb (G.length) D/\(∀i,pK i->(Maps.has D (kid i)=true↔i∈G))/\(∀l,D.atKey l (.held yV)=.held yV)/\Maps.size D=G.length
 ok:∀i∈G,pK i
theorem GAt.lt{w:World}{gb:Nat}{G:List cL}(h:GAt w gb G):gb<w.heap.size:=by
 obtain⟨D,h1,_⟩:=h.ex;exact h1.lt
theorem GAt.map{w:World}{gb:Nat}{G:List cL}(h:GAt w gb G):∃z c,w.heap[gb]?=some (.map z c):=by
 obtain⟨D,⟨z,c,E,_⟩,_⟩:=h.ex;exact⟨z,c,E⟩
theorem GAt.same{w w':World}{gb:Nat}{G:List cL}(h:GAt w gb G)(I:w'.heap[gb]?=w.heap[gb]?):GAt w' gb G:=by
 obtain⟨D,⟨E,z,J,K⟩,h2⟩:=h.ex;exact⟨⟨D,⟨E,z,I.trans J,K⟩,h2⟩,h.ok⟩
theorem GAt.made(w:World):GAt (w.alloc (.map #[] 0)) w.heap.size []:=⟨⟨.map [],aQg w _ _ _,λi _=>by simp[Maps.has],λ_=>rfl,rfl⟩,by simp⟩
theorem GAt.look{w:World}{gb:Nat}{G:List cL}(h:GAt w gb G){i:cL}(hi:pK i):∃t,(Instr.lookup 80 (.map (some gb)) (idV i) true).run Tryz.prog w=.ok (.tuple #[yV,.bool t]) w/\(t=true↔i∈G):=by
 obtain⟨D,h1,h2,z,_⟩:=h.ex;obtain⟨v,I,E,hv⟩:=h1.look_ok aEu Tryz.underlying80 (bAf w) (show gU yV=some (.held yV,[]) from rfl) (aLd hi);rw[z] at hv;exact⟨_,by rw[E,oR hv],h2 i hi⟩
theorem GAt.len{w:World}{gb:Nat}{G:List cL}(h:GAt w gb G)(ty:TypeId):(Builtin.len_ #[80] ty #[.map (some gb)]).run Tryz.prog w=.ok (.int .i64 G.length) w:=by
 obtain⟨D,h1,_,_,z⟩:=h.ex;rw[h1.len Tryz.underlying80,z]
theorem GAt.put{w:World}{gb:Nat}{G:List cL}(h:GAt w gb G){i:cL}(hi:pK i)(Y:G.length<=1000)(U:i∉G):
  ∃w',(Instr.mapUpdate 80 (.map (some gb)) (idV i) yV).run Tryz.prog w=.ok () w'/\GAt w' gb (G++[i])/\w.grownBy w' (some gb):=by
 obtain⟨D,h1,h2,I,J⟩:=h.ex;obtain⟨w',W,V,K⟩:=h1.update aEu Tryz.underlying80 (by unfold maxLen;omega) (aLd hi) (show gU yV=some (.held yV,[]) from rfl);have E:WideAt.IsKeyLit (kid i):=trivial;refine⟨w',W,⟨⟨_,by simpa using V,λj z=>?_,λl=>?_,?_⟩,λj z=>?_⟩,K⟩
 ·rw[aG,bE];by_cases e:j=i
  ·subst e;rw[aBj h1.isMap E];simp
  ·rw[zF (λq=>e (aZh z hi q)),h2 j z];simp[e]
 ·by_cases e:l=kid i
  ·subst e;exact xA h1.isMap E _ _
  ·rw[vD (λq=>e q)];exact I l
 ·rw[Maps.size_put (h1.tidy aEu),J];have:Maps.has D (kid i)=false:=by
   cases e:Maps.has D (kid i)
   ·rfl
   ·exact absurd ((h2 i hi).1 e) U
  rw[this];simp
 ·rcases aG.1 z with z|z
  ·exact h.ok j z
  ·rw[bE] at z;subst z;exact hi
def xZ(G:List cL)(f:ByteArray->Option ByteArray)(st:ByteArray->PL)(i:cL)(L:List ByteArray)(c:Int):Prop:=
 (i∈G/\c=8)\/(i∉G/\40<=G.length/\c=4)\/(i∉G/\G.length<40/\(∃x∈L,(f x).isSome=false/\(st x).alive=false)/\c=5)\/(i∉G/\G.length<40/\(∀x∈L,(f x).isSome=true\/(st x).alive=true)/\c=0)
theorem aWz(x:ByteArray)(b:Bool)(t:ByteArray)(W:World):(Instr.field 118 (.agg #[.string x,.bool b,.string t]) 1).run Tryz.prog W=.ok (.bool b) W:=by kernel_rfl
theorem aLc(st:ByteArray->PL)(x:ByteArray):(jJ st x).there=(st x).alive:=by
 unfold jJ
 cases h:(st x).alive<;>simp
structure bAv (w2:World) (pb gb N:Nat) (t:Bool) (i:cL) (w':World):Prop where
 p:w'.cell? ⟨pb,1,none⟩=some (.map (some gb))
 a:w'.cell? ⟨N+1,0,none⟩=some (.int .u8 i.a)
 b:w'.cell? ⟨N+1,1,none⟩=some (.int .u8 i.b)
 c:w'.cell? ⟨N+1,2,none⟩=some (.int .u8 i.c)
 d:w'.cell? ⟨N+1,3,none⟩=some (.int .u8 i.d)
 look:(Instr.lookup 80 (.map (some gb)) (.agg #[.int .u8 i.a,.int .u8 i.b,.int .u8 i.c,.int .u8 i.d]) true).run Tryz.prog w'=.ok (.tuple #[.agg #[],.bool t]) w'
theorem aUr(G:List cL)(gb pb:Nat)(f:ByteArray->Option ByteArray)(fb fn rb ro:Nat)(st:ByteArray->PL)(mb n:Nat)(i:cL)(na:Option Addr)(nn nc:Nat)(L:List ByteArray)(w:World)(hG:GAt w gb G)(hi:pK i)(hp:w.cell? ⟨pb,1,none⟩=some (.map (some gb)))(e1:pb<w.heap.size)
  (hF:FK w fb f fn) (hr:w.cell? ⟨rb,ro+1,none⟩=some (.map (some fb))) (f6:rb<w.heap.size) (hT:cK w mb st n) (hn:n<=100000)
  (hN:gD w na L) (f5:nn=L.length) (hL:L.length<=100000) (hx:∀x∈L,x.size<=1000/\(st x).S.length<=1000000/\(dM (st x).S).size<=1000000000) :
  Calls Tryz.prog 125 #[.pointer (some ⟨pb,0,none⟩),.pointer (some ⟨rb,ro,none⟩),.agg #[.map (some mb)],.agg #[.int .u8 i.a,.int .u8 i.b,.int .u8 i.c,.int .u8 i.d],.slice na nn nc] w λe w'=>∃c,e=.returned (.int .i64 c)/\xZ G f st i L c/\Below w.heap.size w w':=by
 obtain⟨U,c7⟩:∃U,U=(w.alloc (.cells #[.map (some mb)] 121)).alloc (.cells #[.int .u8 i.a,.int .u8 i.b,.int .u8 i.c,.int .u8 i.d] 113):=⟨_,rfl⟩;obtain⟨a6,g0,d6,d4⟩:=iI w _ _ c7;obtain⟨p0,p1,p2,p3⟩:=iV d4;have d5:=hG.lt;have a0:GAt U.drew gb G:=hG.same (a6.block gb d5);have c1:U.cell? ⟨pb,1,none⟩=some (.map (some gb)):=(a6.cell (p:=⟨pb,1,none⟩) e1).trans hp;have a1:w.heap.size+1<U.heap.size:=by omega
 obtain⟨t,e4,c5⟩:∃t:Bool,(t=true↔i∈G)/\∀u:World,u.heap[gb]?=U.heap[gb]?->(Instr.lookup 80 (.map (some gb)) (.agg #[.int .u8 i.a,.int .u8 i.b,.int .u8 i.c,.int .u8 i.d]) true).run Tryz.prog u=.ok (.tuple #[.agg #[],.bool t]) u:=by
  refine⟨Classical.choose (a0.look hi),(Classical.choose_spec (a0.look hi)).2,λu hu=>?_⟩;obtain⟨t',h1,h2⟩:=(a0.same (w':=u) hu).look hi;have e:t'=Classical.choose (a0.look hi):=by
   have:=(Classical.choose_spec (a0.look hi)).2
   cases t'<;>cases hq:Classical.choose (a0.look hi)<;>simp_all
  rw[<- e];exact h1
 have K:Hid (bAv U pb gb w.heap.size t i U.drew):=⟨c1,p0,p1,p2,p3,c5 U.drew rfl⟩;have b2:Hid (∀o,bAv U pb gb w.heap.size t i (U.drew.alloc o)):=λo=>by
  have h0:=a6.size;have k:∀q:Addr,q.block<U.heap.size->(U.drew.alloc o).cell? q=U.cell? q:=λq hq=>(lJ (w:=U.drew) o hq).1;exact⟨(k ⟨pb,1,none⟩ (by show pb<_;omega)).trans c1,(k _ a1).trans p0,(k _ a1).trans p1,(k _ a1).trans p2,(k _ a1).trans p3,c5 _ (Below.heap_alloc U.drew _ _ (by show gb<U.heap.size;omega))⟩
 have HT:=aO e4;clear e4 c5 a0 p0 p1 p2 p3;go_enter Tryz.func125,Tryz.ntmps125
 go_wp2_with fail
 rw[<- c7];clear c7;refine dF (bAv U pb gb w.heap.size t i) 99 (by kernel_rfl) ?_;refine zt 0 (v:=?v0) K.out (λw0 z=>?hy) ?_
 case hy=>obtain⟨s1,s2,s3,s4,s5,s6⟩:=z;go_simp;with_reducible rfl
 simp only[Act.put,aW];refine zt 1 (v:=?v1) K.out (λw0 z=>?hy) ?_
 case hy=>obtain⟨s1,s2,s3,s4,s5,s6⟩:=z;go_simp;with_reducible rfl
 simp only[Act.put];refine zt 2 (v:=?v2) K.out (λw0 z=>?hy) ?_
 case hy=>obtain⟨s1,s2,s3,s4,s5,s6⟩:=z;go_simp;with_reducible rfl
 simp only[Act.put];refine zt 3 (v:=?v3) K.out (λw0 z=>?hy) ?_
 case hy=>obtain⟨s1,s2,s3,s4,s5,s6⟩:=z;go_simp;with_reducible rfl
 simp only[Act.put];refine zt 4 (v:=?v4) K.out (λw0 z=>?hy) ?_
 case hy=>obtain⟨s1,s2,s3,s4,s5,s6⟩:=z;go_simp;with_reducible rfl
 simp only[Act.put];refine zt 5 (v:=?v5) K.out (λw0 z=>?hy) ?_
 case hy=>obtain⟨s1,s2,s3,s4,s5,s6⟩:=z;go_simp;with_reducible rfl
 simp only[Act.put];refine zt 6 (v:=?v6) K.out (λw0 z=>?hy) ?_
 case hy=>obtain⟨s1,s2,s3,s4,s5,s6⟩:=z;go_simp;with_reducible rfl
 simp only[Act.put];refine zt 7 (v:=?v7) K.out (λw0 z=>?hy) ?_
 case hy=>obtain⟨s1,s2,s3,s4,s5,s6⟩:=z;go_simp;with_reducible rfl
 simp only[Act.put];refine zt 8 (v:=?v8) K.out (λw0 z=>?hy) ?_
 case hy=>obtain⟨s1,s2,s3,s4,s5,s6⟩:=z;go_simp;with_reducible rfl
 simp only[Act.put];refine bT 9 _ rfl (by kernel_rfl) (λKK hK=>?_);go_simp;refine hK.out _ _ (λ_=>b2.out _) ?_;clear hK;refine bT 10 _ rfl (by kernel_rfl) (λKK hK=>?_);go_simp;refine hK.out _ _ (λ_=>b2.out _) ?_;clear hK;refine bT 11 _ rfl (by kernel_rfl) (λKK hK=>?_);go_simp;refine hK.out _ _ (λ_=>b2.out _) ?_;clear hK;refine fJ (by kernel_rfl) ?_ _;clear b2 K;obtain⟨J,b4⟩:∃J,J=(U.alloc (.cells #[] 174)).drew:=⟨_,rfl⟩;have E:Below w.heap.size w J:=by rw[b4];exact(a6.alloc (by omega) _).drew
 have a7:Below U.heap.size U J:=by rw[b4];exact((Below.refl _ _).alloc (aA _) _).drew
 have d7:=(a7.block _ (by omega)).trans d6;rw[<- b4];clear b4
 cases t
 ·have b3:i∉G:=λh=>by have:=HT.out.2 h;cases this
  have c3:J.cell? ⟨pb,1,none⟩=some (.map (some gb)):=(E.cell (p:=⟨pb,1,none⟩) e1).trans hp;have d2:GAt J gb G:=hG.same (E.block gb d5);have f9:(Builtin.len_ #[80] 3 #[.map (some gb)]).run Tryz.prog J=.ok (.int .i64 G.length) J:=d2.len 3;by_cases d0:40<=G.length
  ·have HR:Hid (xZ G f st i L 4):=.inr (.inl ⟨b3,d0,rfl⟩);clear b3 HT;go_wp2;go_ret;exact⟨4,rfl,HR.out,E⟩
  ·have d1:((G.length:Int)≥40)=False:=by simp;omega
   have f8:decide ((40:Int)<=(G.length:Int))=false:=by simp;omega
   have d3:G.length<40:=by omega
   subst f5;have e5:=hN;have f4:Hid (gD J na L):=gD.below (e5) (E);have e7:Hid (∀u x,Below J.heap.size J u->x.size<=1000->Calls Tryz.prog 179 #[.pointer (some ⟨rb,ro,none⟩),.string x] u λe w'=>e=.returned (.agg #[.string x,.bool (f x).isSome,.string ((f x).getD ⟨#[]⟩)])/\Below u.heap.size u w'):=λu x hu b5=>by
    have a9:=E.size;have b0:Below w.heap.size w u:=E.trans (hu.mono a9);exact aC8 f fb fn rb ro x (by omega) u (hF.same (b0.block fb hF.lt)) ((b0.cell (p:=⟨rb,ro+1,none⟩) f6).trans hr) (by have:=b0.size;omega)
   have e9:Hid (∀u x,Below J.heap.size J u->x∈L->Calls Tryz.prog 78 #[.agg #[.map (some mb)],.string x] u λe w'=>e=.returned (.agg #[.string (jJ st x).name,.bool (st x).alive,.string (jJ st x).text])/\Below u.heap.size u w'):=λu x hu b5=>by
    have a9:=E.size;have b0:Below w.heap.size w u:=E.trans (hu.mono a9);have:=qI st mb n x (by have:=(hx x b5).1;omega) u (hT.below b0 (aA _)) (by omega) (hx x b5).2.1 (hx x b5).2.2;rw[aJc] at this;unfold flV at this;rw[aLc] at this;exact this
   have f3:Hid (∀x∈L,x.size<=1000):=λx h=>(hx x h).1;have c9:=aO b3;have c8:=aO E;have e8:=aO d7;have a9:w.heap.size<J.heap.size:=by have:=a7.size;omega
   have f1:=aWz;clear hG hF hT hx b3 HT e5 E d2 d7 a7 a6 d6 d4 d0 d1;go_wp2
   go_loopw [33] (λx wr=>∃k:Nat,k<=L.length/\x=.int .i64 k/\Hid (∀j,j<k->∀y,L[j]?=some y->(f y).isSome=true\/(st y).alive=true)/\Below J.heap.size J wr) (λx _=>L.length - (intOf x).toNat)
   case atStart=>exact⟨0,aE _,rfl,λj hj=>absurd hj (Nat.not_lt_zero _),Below.refl _ _⟩
   case round=>
    obtain⟨k,hk,rfl,HO,V⟩:=hrel;have e3:=V.size;by_cases e0:k<L.length
    ·obtain⟨x,b1⟩:∃x,L[k]?=some x:=⟨_,aC e0⟩;have b6:x∈L:=aD b1;have c4:L.getD k ByteArray.empty=x:=by rw[aQ,b1];rfl
     have f7:=f3.out x b6;obtain⟨b,o,rfl,hb,c2⟩:=f4.out.resolve_left (by omega);have c0:wr.cell? ⟨b,o+k,none⟩=some (.string x):=by rw[<- c4];exact(V.cell (p:=⟨b,o+k,none⟩) hb).trans (c2 k e0)
     have Y:=aO (e7.out wr x V f7);have a4:=aO b1;have a5:=aO b6;obtain⟨tx,c6⟩:∃tx,(f x).getD ⟨#[]⟩=tx:=⟨_,rfl⟩;rw[c6] at Y
     cases a3:(f x).isSome
     ·rw[a3] at Y;have b8:=aO a3;clear c2 c4 b1 c6 a3 b6
      go_wp2_with fail
      refine Y.out.mono ?_;rintro e w5 ⟨rfl,a8⟩;clear Y;have I:Below J.heap.size J w5:=V.trans (a8.mono e3);have e6:w5.heap[w.heap.size]?=some (.cells #[.map (some mb)] 121 (0,0)):=(I.block _ a9).trans e8.out;have s0:w5.cell? ⟨w.heap.size,0,none⟩=some (.map (some mb)):=by simp[World.cell?,e6]
      have Z:=aO (e9.out w5 x I a5.out);have e2:=I.size;clear e6 a8 V c0;obtain⟨kn,d8⟩:∃kn,(jJ st x).name=kn:=⟨_,rfl⟩;obtain⟨kt,d9⟩:∃kt,(jJ st x).text=kt:=⟨_,rfl⟩;rw[d8,d9] at Z;clear d8 d9
      cases a2:(st x).alive
      ·rw[a2] at Z;have HR:Hid (xZ G f st i L 5):=.inr (.inr (.inl ⟨c9.out,d3,⟨x,a5.out,b8.out,a2⟩,rfl⟩));clear a2 b8 a4 a5
       go_wp2_with fail
       refine Z.out.mono ?_;rintro e w6 ⟨rfl,b9⟩;clear Z;have W:Below w.heap.size w w6:=c8.out.trans ((I.trans (b9.mono e2)).mono (by omega));go_wp2;go_ret;exact⟨5,rfl,HR.out,W⟩
      ·rw[a2] at Z;have b7:Hid (∀j,j<k+1->∀y,L[j]?=some y->(f y).isSome=true\/(st y).alive=true):=λj hj y hy=>by
        by_cases e:j=k
        ·subst e;rw[a4.out] at hy
         cases hy
         exact .inr a2
        ·exact HO.out j (by omega) y hy
       clear a2 b8 a4 a5 HO
       go_wp2_with fail
       refine Z.out.mono ?_;rintro e w6 ⟨rfl,b9⟩;clear Z;have W:Below J.heap.size J w6:=I.trans (b9.mono e2);go_wp2
       go_roundw
       case rel=>exact⟨k+1,by omega,by go_num,b7,W⟩
       case measure=>simp[intOf];omega
     ·rw[a3] at Y;have b7:Hid (∀j,j<k+1->∀y,L[j]?=some y->(f y).isSome=true\/(st y).alive=true):=λj hj y hy=>by
       by_cases e:j=k
       ·subst e;rw[a4.out] at hy
        cases hy
        exact .inl a3
       ·exact HO.out j (by omega) y hy
      clear c2 c4 b1 c6 a3 b6 a4 a5 HO
      go_wp2_with fail
      refine Y.out.mono ?_;rintro e w5 ⟨rfl,a8⟩;clear Y;have I:Below J.heap.size J w5:=V.trans (a8.mono e3);clear a8 V c0;go_wp2
      go_roundw
      case rel=>exact⟨k+1,by omega,by go_num,b7,I⟩
      case measure=>simp[intOf];omega
    ·obtain rfl:k=L.length:=by omega
     have HR:Hid (xZ G f st i L 0):=.inr (.inr (.inr ⟨c9.out,d3,λx hx=>by
      obtain⟨j,hj⟩:=bI.1 hx
      exact HO.out j (aB.1 hj).1 x hj,rfl⟩))
     have W:Below w.heap.size w wr:=c8.out.trans (V.mono (by omega));clear HO V;go_wp2;go_ret;exact⟨0,rfl,HR.out,W⟩
 ·have HR:Hid (xZ G f st i L 8):=.inl ⟨HT.out.1 rfl,rfl⟩;clear HT;go_wp2;go_ret;exact⟨8,rfl,HR.out,E⟩
def yY(c:fM)(p p':PL):Prop:=match c with
 | .add i _ _ S=>p'=⟨i,true,S⟩
 | .remove i _ S=>p'=⟨i,false,cD S⟩/\S.length<=100000
 | .alter i _ Hs=>∃g:Nat->List aU,g 0=aM p.S/\aWb g Hs/\p'=⟨i,true,cV (g Hs.length)⟩/\p.S.length<=100000/\Hs.length<=100000
theorem aTp{c:fM}{p V:PL}(h:yY c p V){u:World}{l:Lat}(I:aBm u c)(hl:qV l p)(hs:SV u l.rv l.S):
  Calls Tryz.prog (tP c) #[aAq c,kT l] u λe w'=>∃J,e=.returned (kT J)/\qV J V/\SV w' J.rv J.S/\Below u.heap.size u w':=by
 obtain⟨l1,l2,l3⟩:=hl;obtain⟨W,Y,U⟩:=hs.shape
 cases c with
 | add i l rv S=>
  refine(aQi i l S rv _ _ _ W _ Y U u I).mono ?_;rintro e w' ⟨rfl,E⟩;rw[h];exact⟨⟨i,true,rv,S⟩,rfl,⟨rfl,rfl,rfl⟩,SV.below I E (aA _),E⟩
 | remove i rv S=>
  refine(aIi i S rv _ _ _ W _ Y U u I h.2).mono ?_;rintro e w' ⟨v,rfl,z,E⟩;rw[h.1];exact⟨⟨i,false,v,cD S⟩,rfl,⟨rfl,rfl,rfl⟩,z,E⟩
 | alter i hv Hs=>
  obtain⟨g,K,g1,g2,g3,Z⟩:=h;rw[<- l3] at K g3;refine(aKk i Hs g _ K g1 hv _ _ _ u I hs g3 Z).mono ?_;rintro e w' ⟨v,rfl,z,E⟩;rw[g2];exact⟨⟨i,true,v,_⟩,rfl,⟨rfl,rfl,rfl⟩,z,E⟩
def fU(c:fM)(name:ByteArray)(p:PL)(t:ByteArray):Prop:=match c with
 | .add _ _ _ S=>yI S/\t=pM name++gI ⟨#[43]⟩ S
 | .remove _ _ S=>yI S/\t=oC name++gI ⟨#[45]⟩ S
 | .alter _ _ Hs=>∃g:Nat->ByteArray,g 0=kO name/\aSp (aM p.S) Hs g/\t=g Hs.length/\p.S.length<=90000/\Hs.length<=100000
theorem aYa{c:fM}{name:ByteArray}{p:PL}{t:ByteArray}(h:fU c name p t)(E:name.size<=1000){u:World}{l:Lat}(z:aBm u c)(W:qV l p)(hs:SV u l.rv l.S):
  Calls Tryz.prog (aQp c) #[aAq c,.string name,kT l] u λe w'=>e=.returned (.string t)/\Below u.heap.size u w':=by
 obtain⟨l1,l2,l3⟩:=W;obtain⟨J,K,I⟩:=hs.shape
 cases c with
 | add i l rv S=>
  rw[h.2];exact aFb i l S rv name E _ _ _ J _ K I u z h.1
 | remove i rv S=>
  rw[h.2];exact aG3 i S rv name E _ _ _ J _ K I u z h.1
 | alter i hv Hs=>
  obtain⟨g,U,g1,g2,g3,V⟩:=h;rw[<- l3] at g1 g3;rw[g2];exact aHv i Hs g _ name E U g1 hv _ _ _ u z hs g3 V
structure hU (Ps:List PM) (st:Nat->Nat->ByteArray->PL) (cnt:Nat->Nat):Prop where
 start:st 0 0=λ_=>pl0
 next:∀p P,Ps[p]?=some P->st (p+1) 0=st p P.Cs.length
 other:∀p P k c,Ps[p]?=some P->P.Cs[k]?=some c->∀x,x≠c.1->st p (k+1) x=st p k x
 app:∀p P k c,Ps[p]?=some P->P.Cs[k]?=some c->yY c.2 (st p k c.1) (st p (k+1) c.1)
 names:∀P∈Ps,∀c∈P.Cs,c.1.size<=1000
 few:∀P∈Ps,P.Cs.length<=1000
 count:∀p P,Ps[p]?=some P->cnt (p+1)=cnt p+P.Cs.length
 small:∀p,cnt p<=100000
theorem hU.grows{Ps:List PM}{st:Nat->Nat->ByteArray->PL}{cnt:Nat->Nat}(h:hU Ps st cnt){w:World}{pv:Value}(W:PV w pv Ps):aMt w Ps st cnt:=by
 refine⟨h.start,h.next,h.other,λp P k c K U u l Y V hs=>?_,h.names,h.few,h.count,h.small⟩;obtain⟨Z,cap,rfl,z⟩:=W.below Y (aA _);obtain⟨b,o,_,_,_,_,_,_,_,I⟩:=z p P K;obtain⟨_,_,_,E⟩:=I;obtain⟨_,_,_,_,_,_,J⟩:=E k c U;exact aTp (h.app p P k c K U) J V hs
theorem wE{Ps:List PM}{st:Nat->Nat->ByteArray->PL}{cnt:Nat->Nat}(h:hU Ps st cnt){w:World}{pv:Value}(K:PV w pv Ps)(z:Ps.length<=10000){rb J:Nat}(U:w.cell? ⟨rb,J,none⟩=some pv)(E:rb<w.heap.size):
  Calls Tryz.prog 77 #[.pointer (some ⟨rb,J,none⟩)] w λe w'=>∃I n,e=.returned (.agg #[.map (some I)])/\cK w' I (st Ps.length 0) n/\n<=100000/\w.heap.size<=I/\Below w.heap.size w w':=
 aF8 Ps pv st cnt rb J w K (λW V=>h.grows (K.below V (aA _))) z U E
def dK(t:Nat->ByteArray):Nat->List UInt8
 | 0=>[]
 | k+1=>dK t k++(t k).data.toList
theorem qQ(t:Nat->ByteArray)(m:Nat)(h:∀k,(t k).size<=m):∀k,(dK t k).length<=k * m
 | 0=>by simp[dK]
 | k+1=>by
  have:=qQ t m h k;have h1:=h k;have e:(t k).data.toList.length=(t k).size:=rfl;simp only[dK,aJ,e];rw[aBk];omega
theorem aHj(i:cL){Cs:List (ByteArray×fM)}{cv:Value}{U n:Nat}{st:ByteArray->PL}{w:World}(V:CV w cv Cs)(hT:cK w U st n)(hn:n<=1000000)(Z:Cs.length<=300)(E:∀c∈Cs,c.1.size<=1000)(t:Nat->ByteArray)
  (ht:∀k c,Cs[k]?=some c->fU c.2 c.1 (st c.1) (t k)) (I:∀k,(t k).size<=1000000) :
  Calls Tryz.prog 113 #[.agg #[.int .u8 i.a,.int .u8 i.b,.int .u8 i.c,.int .u8 i.d,cv],.agg #[.map (some U)]] w λe w'=>e=.returned (.string ⟨(dK t Cs.length).toArray⟩)/\Below w.heap.size w w':=by
 obtain⟨f,has,W,hl,hs⟩:=hT.kat hn;refine aPh i Cs cv U f has t (dK t) w V W (by omega) E (λk c z u Y=>?_) rfl (λk _=>rfl) (λk W=>?_) (λk=>by have:=I k;omega)
 ·obtain⟨_,_,_,J⟩:=V.below Y (aA _);obtain⟨_,_,_,_,_,_,K⟩:=J k c z;exact aYa (ht k c z) (E c (aD z)) K (hl c.1) ((hs c.1).below Y (aA _))
 ·have:=qQ t 1000000 I k;have:k * 1000000<=300 * 1000000:=dV _ (by omega);omega
abbrev kI(Ps:List PM):List Value:=Ps.flatMap λP=>[.int .u8 P.id.a,.int .u8 P.id.b,.int .u8 P.id.c,.int .u8 P.id.d,P.cv]
theorem aL4:∀(Ps:List PM) (k:Nat) (r:PM),Ps[k]?=some r->(kI Ps)[k * 5]?=some (.int .u8 r.id.a)/\(kI Ps)[k * 5+1]?=some (.int .u8 r.id.b)/\(kI Ps)[k * 5+2]?=some (.int .u8 r.id.c)/\(kI Ps)[k * 5+3]?=some (.int .u8 r.id.d)/\(kI Ps)[k * 5+4]?=some r.cv
 | [],k,r,h=>by simp at h
 | x::Cs,0,r,h=>by simp at h;subst h;simp
 | x::Cs,k+1,r,h=>by
  have z:=aL4 Cs k r (by simpa using h);have e:(k+1) * 5=k * 5+5:=by omega
  rw[e];simp only[kI,bL,cI,cY,fB];exact z
theorem aZx{w:World}{B:Nat}{v:Value}{Ps:List PM}(h:w.ownsRow B 149 5 v Ps.length (kI Ps))(J:∀P∈Ps,CV w P.cv P.Cs):PV w v Ps:=by
 have z:=λg=>eZ h (g:=g);rcases h.2 with ⟨rfl,V⟩|⟨g,cp,I,rfl,_,Y,W,_⟩
 ·have:Ps=[]:=aS V;subst this;exact⟨none,0,rfl,λk r E=>by simp at E⟩
 ·obtain⟨add⟩:Nonempty (∀j:Nat,((⟨g,0,none⟩:Addr).add j)=⟨g,0+j,none⟩):=⟨λj=>by cases j<;>simp[Addr.add]⟩;refine⟨some ⟨g,0,none⟩,cp,rfl,λk r E=>?_⟩;obtain⟨f0,f1,f2,K,U⟩:=aL4 Ps k r E;refine⟨g,0,rfl,⟨I,_,Y⟩,?_,?_,?_,?_,?_,J r (aD E)⟩
  ·have:=z g rfl (k * 5) _ f0;rw[add] at this;exact this
  ·have:=z g rfl (k * 5+1) _ f1;rw[add] at this;rw[dB];exact this
  ·have:=z g rfl (k * 5+2) _ f2;rw[add] at this;rw[dB];exact this
  ·have:=z g rfl (k * 5+3) _ K;rw[add] at this;rw[dB];exact this
  ·have:=z g rfl (k * 5+4) _ U;rw[add] at this;rw[dB];exact this
structure Rep where
 pv:Value
 Ps:List PM
 fb:Nat
 fn:Nat
 f:ByteArray->Option ByteArray
structure qR where
 cap:Nat
 nr:Nat
 r:Nat
 rep:Nat->Rep
structure yH (w:World) (B gb fb:Nat) (pv:Value) (R:Rep):Prop where
 lo:B<=R.fb
 own:w.ownsRow B 149 5 R.pv R.Ps.length (kI R.Ps)
 chs:∀P∈R.Ps,CV w P.cv P.Cs
 files:FK w R.fb R.f R.fn
 ng:R.fb≠gb
 nf:R.fb≠fb
 far:∀k,R.pv.ownBlock=some k->pv.ownBlock≠some k
def qR.oth(c:qR)(i:Nat):Prop:=i<c.nr/\i≠c.r
def qR.apart(c:qR):Prop:=∀i j,c.oth i->c.oth j->i≠j->(c.rep i).fb≠(c.rep j).fb/\∀k,(c.rep i).pv.ownBlock=some k->(c.rep j).pv.ownBlock≠some k
structure cF (w:World) (B pb rg:Nat) (cap:qR) (gb:Nat) (pv:Value) (Ps:List PM) (fb fn:Nat) (f:ByteArray->Option ByteArray) (G:List cL):Prop where
 lo:B<=pb/\B<=rg/\B<=gb/\B<=fb
 wb:w.heap[pb]?=some (.cells #[.slice (some ⟨rg,0,none⟩) cap.nr cap.cap,.map (some gb)] 83 (0,0))
 row:∃A:Array Value,w.heap[rg]?=some (.cells A 87 (0,0))/\A[cap.r * 2]?=some pv/\A[cap.r * 2+1]?=some (.map (some fb))/\∀i,cap.oth i->A[i * 2]?=some (cap.rep i).pv/\A[i * 2+1]?=some (.map (some (cap.rep i).fb))
 given:GAt w gb G
 own:w.ownsRow B 149 5 pv Ps.length (kI Ps)
 chs:∀P∈Ps,CV w P.cv P.Cs
 files:FK w fb f fn
 ne:gb≠fb
 cap1:cap.r<cap.nr/\cap.nr<=cap.cap/\cap.nr<=1000/\cap.apart
 oths:∀i,cap.oth i->yH w B gb fb pv (cap.rep i)
theorem yH.same{w w':World}{B gb fb:Nat}{pv z:Value}{R:Rep}(h:yH w B gb fb pv R)(h1:w'.heap[R.fb]?=w.heap[R.fb]?)(h2:∀k,R.pv.ownBlock=some k->w'.heap[k]?=w.heap[k]?)(J:∀P∈R.Ps,CV w' P.cv P.Cs)(K:∀k,R.pv.ownBlock=some k->z.ownBlock≠some k):yH w' B gb fb z R:=by
 refine⟨h.lo,⟨h.own.1,?_⟩,J,h.files.same h1,h.ng,h.nf,K⟩;rcases h.own.2 with q|⟨g,cap,I,e,U,V,E⟩
 ·exact .inl q
 ·exact .inr ⟨g,cap,I,e,U,(h2 g (by rw[e];rfl)).trans V,E⟩
theorem yH.below{w w':World}{B gb fb:Nat}{pv:Value}{R:Rep}(h:yH w B gb fb pv R)(z:Below w.heap.size w w'):yH w' B gb fb pv R:=
 h.same (z.block _ h.files.lt) (λk I=>z.block _ (h.own.lt k I).2) (λP E=>(h.chs P E).below z (aA _)) h.far
section
variable {w:World} {B pb rg:Nat} {cap:qR} {gb:Nat} {pv:Value} {Ps:List PM} {fb fn:Nat} {f:ByteArray->Option ByteArray} {G:List cL}
theorem cF.lts(h:cF w B pb rg cap gb pv Ps fb fn f G):pb<w.heap.size/\rg<w.heap.size/\gb<w.heap.size/\fb<w.heap.size:=by
 obtain⟨A,z,_⟩:=h.row;exact⟨(aV.1 h.wb).1,(aV.1 z).1,h.given.lt,h.files.lt⟩
theorem cF.below(h:cF w B pb rg cap gb pv Ps fb fn f G){w':World}(z:Below w.heap.size w w'):cF w' B pb rg cap gb pv Ps fb fn f G:=by
 obtain⟨l1,l2,l3,l4⟩:=h.lts;obtain⟨A,I,E⟩:=h.row;exact⟨h.lo,(z.block _ l1).trans h.wb,⟨A,(z.block _ l2).trans I,E⟩,h.given.same (z.block _ l3),bQ h.own z (aA _),λP J=>(h.chs P J).below z (aA _),h.files.same (z.block _ l4),h.ne,h.cap1,λi hi=>(h.oths i hi).below z⟩
theorem cF.drew(h:cF w B pb rg cap gb pv Ps fb fn f G):cF w.drew B pb rg cap gb pv Ps fb fn f G:=h.below (Below.refl _ _).drew
theorem cF.view(h:cF w B pb rg cap gb pv Ps fb fn f G):PV w pv Ps:=aZx h.own h.chs
theorem cF.c0(h:cF w B pb rg cap gb pv Ps fb fn f G):w.cell? ⟨pb,0,none⟩=some (.slice (some ⟨rg,0,none⟩) cap.nr cap.cap):=by simp[World.cell?,h.wb]
theorem cF.c1(h:cF w B pb rg cap gb pv Ps fb fn f G):w.cell? ⟨pb,1,none⟩=some (.map (some gb)):=by simp[World.cell?,h.wb]
theorem cF.r0(h:cF w B pb rg cap gb pv Ps fb fn f G):w.cell? ⟨rg,cap.r * 2,none⟩=some pv:=by
 obtain⟨A,E,z,_⟩:=h.row;simp[World.cell?,E,z]
theorem cF.r1(h:cF w B pb rg cap gb pv Ps fb fn f G):w.cell? ⟨rg,cap.r * 2+1,none⟩=some (.map (some fb)):=by
 obtain⟨A,z,_,h1,_⟩:=h.row;simp[World.cell?,z,h1]
theorem FK.map{E n:Nat}(h:FK w E f n):∃z c,w.heap[E]?=some (.map z c):=by
 obtain⟨D,⟨z,c,I,_⟩,_⟩:=h;exact⟨z,c,I⟩
theorem cF.map_put(h:cF w B pb rg cap gb pv Ps fb fn f G){w':World}{m:Nat}(E:w.grownBy w' (some m))(K:∃U c,w.heap[m]?=some (.map U c))(Y:m=gb\/m=fb){G':List cL}{f':ByteArray->Option ByteArray}{I:Nat}(h1:GAt w' gb G')(h2:FK w' fb f' I):cF w' B pb rg cap gb pv Ps fb I f' G':=by
 obtain⟨l1,l2,l3,l4⟩:=h.lts;obtain⟨A,hA,V⟩:=h.row;obtain⟨U,c,K⟩:=K;have ne:∀{k:Nat} {cs:Array Value} {t:TypeId} {fz:Nat×Nat},w.heap[k]?=some (.cells cs t fz)->some k≠some m:=λJ e=>by
  injection e with e;subst e;rw[K] at J
  cases J
 refine⟨h.lo,(E.block _ l1 (ne h.wb)).trans h.wb,⟨A,(E.block _ l2 (ne hA)).trans hA,V⟩,h1,h.own.kept E (Or.inr ?_),λP W=>(h.chs P W).held (bU.of_map E ⟨U,c,K⟩),h2,h.ne,h.cap1,λi hi=>?_⟩
 ·rcases h.own.2 with ⟨rfl,_⟩|⟨g,cp,a0,rfl,_,Z,_⟩
  ·simp[Value.ownBlock]
  ·simp only[Value.ownBlock];exact ne Z
 ·have z:=h.oths i hi;refine z.same (E.block _ z.files.lt (λe=>?_)) (λk J=>E.block k (z.own.lt k J).2 ?_) (λP W=>(z.chs P W).held (bU.of_map E ⟨U,c,K⟩)) z.far
  ·injection e with e;rcases Y with q|q
   ·exact z.ng (e.trans q)
   ·exact z.nf (e.trans q)
  ·obtain⟨cs,fz,Z⟩:=dI z.own J;exact ne Z
theorem cF.push(h:cF w B pb rg cap gb pv Ps fb fn f G){I U:World}{P:PM}{g c:Nat}(a6:Below w.heap.size w I)(hg:I.grownBy U pv.ownBlock)(a5:pv.ownBlock=some g\/I.heap.size<=g)(Z:U.ownsRow B 149 5 (.slice (some ⟨g,0,none⟩) (Ps.length+1) c) (Ps.length+1) (kI Ps++[.int .u8 P.id.a,.int .u8 P.id.b,.int .u8 P.id.c,.int .u8 P.id.d,P.cv]))(hP:CV I P.cv P.Cs):
  cF (U.setCell ⟨rg,cap.r * 2,none⟩ (.slice (some ⟨g,0,none⟩) (Ps.length+1) c)) B pb rg cap gb (.slice (some ⟨g,0,none⟩) (Ps.length+1) c) (Ps++[P]) fb fn f G/\(∀T:TypeId->Prop,¬ T 149->¬ T 87->bU T I (U.setCell ⟨rg,cap.r * 2,none⟩ (.slice (some ⟨g,0,none⟩) (Ps.length+1) c)))/\∀k,k<I.heap.size->k≠rg->(∀q,pv.ownBlock=some q->k≠q)->(U.setCell ⟨rg,cap.r * 2,none⟩ (.slice (some ⟨g,0,none⟩) (Ps.length+1) c)).heap[k]?=I.heap[k]?:=by
 have h1:=h.below a6;obtain⟨l1,l2,l3,l4⟩:=h1.lts;obtain⟨A,hA,a2,a3,a4⟩:=h1.row;have tb:∀q,pv.ownBlock=some q->TB I q 149:=λq E=>dI h1.own E;have ne:∀{k:Nat} {o:Obj},I.heap[k]?=some o->(∀cs V,o≠.cells cs 149 V)->∀q,pv.ownBlock=some q->k≠q:=λJ ho q E e=>by
  subst e;obtain⟨cs,V,a1⟩:=tb _ E;rw[J] at a1;injection a1 with e;exact ho cs V e
 have far:∀k,k<I.heap.size->(∀q,pv.ownBlock=some q->k≠q)->U.heap[k]?=I.heap[k]?:=λk J E=>hg.block k J (λe=>E k e.symm rfl);have z:∀k,k<I.heap.size->k≠rg->(∀q,pv.ownBlock=some q->k≠q)->(U.setCell ⟨rg,cap.r * 2,none⟩ (.slice (some ⟨g,0,none⟩) (Ps.length+1) c)).heap[k]?=I.heap[k]?:=λk J hr E=>(Below.heap_setCell _ _ _ _ hr).trans (far k J E);have a0:U.heap[rg]?=some (.cells A 87 (0,0)):=(far rg l2 (ne hA (λcs V e=>by simp at e))).trans hA;have K:∀T:TypeId->Prop,¬ T 149->¬ T 87->bU T I (U.setCell ⟨rg,cap.r * 2,none⟩ (.slice (some ⟨g,0,none⟩) (Ps.length+1) c)):=λT t1 t2=>(bU.of_grown hg (λq E=>⟨149,tb q E,t1⟩)).trans (bU.set ⟨A,_,a0⟩ t2 _);have held:=K aBe (by simp[aBe]) (by simp[aBe]);obtain⟨a8,c1,m1⟩:=h1.given.map;obtain⟨a9,c2,m2⟩:=h1.files.map;refine⟨⟨h.lo,(z pb l1 (λe=>?_) (ne h1.wb (λcs V e=>by simp at e))).trans h1.wb,⟨_,heap_setCell_same U rg (cap.r * 2) A 87 _ a0,?_,?_,λi hi=>?_⟩,h1.given.same (z gb l3 (λe=>?_) (ne m1 (λcs V e=>by cases e))),?_,λQ Y=>?_,h1.files.same (z fb l4 (λe=>?_) (ne m2 (λcs V e=>by cases e))),h.ne,h.cap1,λi hi=>?_⟩,K,z⟩
 ·have:=h1.wb;rw[e,hA] at this;simp at this
 ·have:cap.r * 2<A.size:=(aV.1 a2).1;simp[this]
 ·rw[lM (by omega)];exact a3
 ·have b1:=hi.2;rw[lM (by omega),lM (by omega)];exact a4 i hi
 ·rw[e,hA] at m1
  cases m1
 ·have e2:kI (Ps++[P])=kI Ps++[.int .u8 P.id.a,.int .u8 P.id.b,.int .u8 P.id.c,.int .u8 P.id.d,P.cv]:=by simp[kI]
  rw[e2,aJ,eY];refine Z.kept (w':=U.setCell ⟨rg,cap.r * 2,none⟩ _) (row:=some rg) ⟨rfl,rfl,rfl,by simp[World.setCell],λk _ a7=>Below.heap_setCell _ _ _ _ (λe=>a7 (by rw[e]))⟩ (Or.inr ?_);intro e;simp only[Value.ownBlock,cJ] at e;obtain⟨cs,V,E⟩:=dI Z (g:=g) rfl;rw[e,a0] at E;simp at E
 ·rcases aG.1 Y with Y|Y
  ·exact(h1.chs Q Y).held held
  ·rw[bE] at Y;subst Y;exact hP.held held
 ·rw[e,hA] at m2
  cases m2
 ·have W:=h1.oths i hi;obtain⟨b0,c3,m3⟩:=W.files.map;refine W.same (z _ W.files.lt (λe=>?_) (ne m3 (λcs V e=>by cases e))) (λk J=>z k (W.own.lt k J).2 (λe=>?_) (λq E e=>W.far k J (by rw[E,e]))) (λQ Y=>(W.chs Q Y).held held) (λk J e=>?_)
  ·rw[e,hA] at m3
   cases m3
  ·obtain⟨cs,V,E⟩:=dI W.own J;rw[e,hA] at E;simp at E
  ·have eg:g=k:=by simpa[Value.ownBlock] using e
   subst eg;rcases a5 with q|q
   ·exact W.far g J q
   ·have:=(W.own.lt g J).2;omega
end
structure aMw (f:ByteArray->Option ByteArray) (s:ByteArray->PL):Prop where
 each:∀x,(f x).isSome=true\/(s x).alive=true->x.size<=1000/\(s x).S.length<=9000/\(dM (s x).S).size<=1000000000/\aVx s (oN f x)
 few:∀K,pG K->(∀x,x∈K↔(f x).isSome=true\/(s x).alive=true)->K.length<=300
def aCw(f:ByteArray->Option ByteArray)(s:ByteArray->PL)(K:List ByteArray):Prop:=pG K/\∀x,x∈K↔(f x).isSome=true\/(s x).alive=true
def cO(f:ByteArray->Option ByteArray)(s:ByteArray->PL)(K:List ByteArray):List Fl:=(K.filter (cZ f s)).map (oN f)
theorem aJr{w:World}{B n c:Nat}{I:Option Addr}{L:List ByteArray}(h:w.ownsRow B 9 1 (.slice I n c) L.length (bW L)):lN w.heap.size w (.slice I n c) L:=by
 have z:=h.lt;have U:=λg=>eZ h (g:=g);rcases h.2 with ⟨h1,K⟩|⟨g,cp,J,h1,_⟩
 ·cases h1
  exact .inl ⟨rfl,aS K⟩
 ·cases h1
  refine .inr ⟨g,0,c,rfl,(z g rfl).2,λj E=>?_⟩;have:=U g rfl j (.string (L.getD j ByteArray.empty)) (by unfold bW;rw[aP,aC E,aQ,aC E];rfl);rw[<- this]
  cases j<;>simp[Addr.add]
section
variable {B pb rg:Nat} {cap:qR} {gb:Nat} {pv:Value} {Ps:List PM} {fb fn:Nat} {f:ByteArray->Option ByteArray} {G:List cL} {st:Nat->Nat->ByteArray->PL} {cnt:Nat->Nat}
theorem cF.allNames{u:World}(h:cF u B pb rg cap gb pv Ps fb fn f G)(W:fn<=1000){I n:Nat}{s:ByteArray->PL}(V:cK u I s n)(Y:n<=100000):
  Calls Tryz.prog 112 #[.pointer (some ⟨rg,cap.r * 2,none⟩),.agg #[.map (some I)]] u λe w'=>∃z J E L,e=.returned (.slice z J E)/\w'.ownsRow u.heap.size 9 1 (.slice z J E) L.length (bW L)/\(∀x,x∈L↔(f x).isSome=true\/(s x).alive=true)/\L.length<=fn+n/\Below u.heap.size u w':=by
 refine(aFc f fb fn rg (cap.r * 2) s I n u h.files (by omega) h.r1 h.lts.2.1 V Y).mono ?_;rintro e w' ⟨v,L,rfl,h1,h2,K,U⟩;obtain⟨z,E,rfl⟩:=bC h1;exact⟨z,_,E,L,rfl,h1,h2,K,U⟩
theorem cF.changed{u:World}(h:cF u B pb rg cap gb pv Ps fb fn f G){U n:Nat}{s:ByteArray->PL}(hT:cK u U s n)(hn:n<=100000)(a0:fn<=1000)(J:aMw f s){V:Option Addr}{Y W:Nat}{L:List ByteArray}{B':Nat}(hL:u.ownsRow B' 9 1 (.slice V Y W) L.length (bW L))(Z:∀x,x∈L↔(f x).isSome=true\/(s x).alive=true)(hl:L.length<=fn+n):
  Calls Tryz.prog 111 #[.pointer (some ⟨rg,cap.r * 2,none⟩),.agg #[.map (some U)],.slice V Y W] u λe w'=>∃z E K,e=.returned (.slice z (cO f s K).length E)/\FV w' (.slice z (cO f s K).length E) (cO f s K)/\aCw f s K/\Below u.heap.size u w':=by
 refine(yL f fb fn rg (cap.r * 2) s U n V Y W L u h.files h.r1 h.lts.2.1 hT (by omega) (aJr hL) (by omega) (λx hx=>?_)).mono ?_
 ·obtain⟨h1,h2,I,_⟩:=J.each x ((Z x).1 hx);exact⟨h1,by omega,I⟩
 ·rintro e w' ⟨v,K,rfl,h1,h2,I,h4⟩;obtain⟨z,E,rfl,h5⟩:=h1;exact⟨z,E,K,rfl,⟨z,E,rfl,h5⟩,⟨h2,λx=>by rw[I,Z]⟩,h4⟩
theorem aWn{s:ByteArray->PL}(z:aMw f s){K:List ByteArray}(E:aCw f s K):(cO f s K).length<=300/\∀g∈cO f s K,aVx s g:=by
 constructor
 ·unfold cO;rw[aT];exact aR (dZ _ _) (z.few K E.1 E.2)
 ·intro g I;obtain⟨x,J,rfl⟩:=aI.1 I;exact(z.each x ((E.2 x).1 (cT.1 J).1)).2.2.2
end
theorem dS.det{O N:List ByteArray}{i j:Nat}{Q:List dL}(h:dS O N i j Q):∀{E:List dL},dS O N i j E->Q=E:=by
 induction h with
 | stop h1 h2=>
  intro E I
  cases I with
  | stop z k2=>rw[h1] at z;cases z;rfl
  | go z k2 k3=>rw[h1] at z;cases z;omega
 | go h1 h2 h3 ih=>
  intro E I
  cases I with
  | stop z k2=>rw[h1] at z;cases z;omega
  | go z k2 k3=>rw[h1] at z;cases z;rw[ih k3]
section
variable {S:List aU} {N:List ByteArray} {i:cL} {n:Int} {Q:List dL} {Hs:List Hk}
theorem xD:∀(Q:List dL) (n:Int),n+(kL i N n Q).length=eO n N Q
 | [],n=>by simp[kL,eO]
 | q::Q,n=>by
  unfold kL;rw[aJ,kP];simp only[eO];rw[<- xD Q (n+(bX N q).length)];omega
theorem aDn(E:oJ (aM S) i n N Q Hs)(hg:dS (aL S) N 0 0 Q)(K:(aM S).Nodup)(aO:∀s∈aM S,¬ (s.a=i.a/\s.b=i.b/\s.c=i.c/\s.d=i.d))(hS:S.length<=9000)(hR:(aL S).length<=400)(hN:N.length<=400):
  aWb (kS (aM S) (nF Q Hs)) Hs/\aL (cV (kS (aM S) (nF Q Hs) Hs.length))=N/\(kS (aM S) (nF Q Hs) Hs.length).length<=200000:=by
 have ho:=hg.ord (aE _) (aE _);have b0:=ho.len;have a0:=fK S;have b4:Hs.length=Q.length:=E.1;have J:∀r∈nF Q Hs,∀s∈r.2,s∉aM S:=λr V s hs a9=>by
  obtain⟨m,h⟩:=aGx E r V;rw[h] at hs;exact aO s a9 (vU hs)
 have hM:∀r∈nF Q Hs,r.2.length<=400:=λr V=>by
  obtain⟨m,h⟩:=aGx E r V;have:=rK N r.1;rw[h,kP];omega
 have W:oI (aM S) (nF Q Hs) 0:=oI.start (nK S) (by omega) (by rw[aAa E,a0];exact ho);have a8:=aL5 E;have b3:(aM S).length=S.length+2:=by simp[aM]
 have z:∀k,k<=Hs.length->(kS (aM S) (nF Q Hs) k).length<=200000/\2<=(kS (aM S) (nF Q Hs) k).length:=λk U=>by
  obtain⟨a,b⟩:=aNx K J W 400 hM k (by omega);have:k * 400<=402 * 400:=dV _ (by omega);omega
 refine⟨⟨λk h U=>?_,λk h U=>?_,(z _ (aA _)).2,by have:=(z _ (aA _)).1;omega⟩,?_,(z _ (aA _)).1⟩
 ·have Z:k<Hs.length:=(aB.1 U).1;obtain⟨q,e1,I,Y,e4⟩:=aPi E U;obtain⟨_,p,a1,a2,a3,a4,a5,a6,a7⟩:=(oI.all K J W k (by omega)).step K I (J _ (aD I));rw[Y];exact⟨_,p,a1,a2,a3,a4,a6⟩
 ·have Z:k<Hs.length:=(aB.1 U).1;obtain⟨q,e1,I,Y,e4⟩:=aPi E U;obtain⟨_,p,a1,a2,a3,a4,a5,a6,a7⟩:=(oI.all K J W k (by omega)).step K I (J _ (aD I));have b1:=(z k (by omega)).1;have b2:=hM _ (aD I);rw[Y];simp only at b2;omega
 ·rw[<- a8,(oI.all K J W _ (aA _)).last,aU3 S N _ (by rw[aAa E];exact ho) (λr V=>?_),aAa E]
  ·have:=hg.gives (aE _) (aE _);rw[this,rU]
  ·obtain⟨m,h⟩:=aGx E r V;rw[h,iS]
end
theorem aUl{ids:List cL}{p:PL}(h:fV ids p){i:cL}(hi:i∉ids)(hz:lF∉ids)(a1:i≠lF){n n':Int}(hn:0<=n){there:Bool}{text:ByteArray}{c:fM}(hc:jE p i n there text c n')(a2:p.alive=false->there=true)(hS:p.S.length<=9000)(hR:(aL p.S).length<=90)(hN:(bM text).length<=20):
  ∃V,yY c p V/\fV (ids++[i]) V/\(∀x∈pH V,x∈pH p\/x.1=i)/\V.alive=there/\(there=true->aL V.S=bM text)/\V.S.length<=p.S.length+(bM text).length:=by
 cases c with
 | add i' l rv S=>
  obtain⟨h1,rfl,_,rfl,_⟩:=hc;refine⟨⟨i',true,eD i' n (bM text)⟩,rfl,⟨zO _ _ _,λs hs=>?_,λ_=>by simp,.inl (by simp),λe=>by cases e⟩,λx I=>?_,(a2 h1).symm,λ_=>iS _ _ _,by simp only[kP];omega⟩
  ·have K:s∈eD i' n (bM text):=hs;obtain⟨a,b,c,d⟩:=vU K;refine⟨?_,?_⟩
   ·have:mM s=i':=by unfold mM;rw[a,b,c,d]
    rw[this];simp
   ·unfold eD qT at K;obtain⟨k,_,rfl⟩:=aI.1 K;simp only[brS];omega
  ·obtain⟨_,I⟩:=nJ I;right;rcases I with rfl|⟨s,hs,_,rfl⟩
   ·rfl
   ·obtain⟨a,b,c,d⟩:=vU (show s∈eD i' n (bM text) from hs);show mM s=i';unfold mM;rw[a,b,c,d]
 | remove i' rv S=>
  obtain⟨h1,h2,rfl,rfl,_⟩:=hc;refine⟨⟨p.by_,false,cD p.S⟩,⟨rfl,by omega⟩,⟨by rw[xF];exact h.nd,λs hs=>?_,(λe=>by cases e),?_,λ_ s hs=>?_⟩,λx I=>?_,h2.symm,(λe=>by rw[h2] at e;cases e),?_⟩
  ·obtain⟨t,z,rfl⟩:=aI.1 hs;obtain⟨a,b⟩:=h.own t z;exact⟨iU _ a,b⟩
  ·rcases h.byZ with a|a
   ·exact .inl (iU _ a)
   ·exact .inr a
  ·obtain⟨t,z,rfl⟩:=aI.1 hs;rfl
  ·have:=(nJ I).1
   cases this
  ·simp[cD]
 | alter i' hv Hs=>
  obtain⟨h1,h2,rfl,Q,W,Z,_⟩:=hc;have a0:=mZ h hz;have hF:=nL a0;have aO:=pN h hi a1;obtain⟨s1,s2,s3⟩:=aDn Z W hF aO hS (by omega) (by omega);have hQ:=W.len (aE _) (aE _);have a4:Hs.length=Q.length:=Z.1;have E:=aWe Z W hF aO;have a3:=W.num (aE _) (aE _) n;have a5:=xD (i:=i) (N:=bM text) Q n;have J:∀s∈vO p.S Q Hs,(∃t∈p.S,jO s=jO t)\/∃t∈kL i (bM text) n Q,jO s=jO t:=λs hs=>by
   have:=E.mem_iff.1 (aI.2 ⟨s,hs,rfl⟩);rcases aG.1 this with h|h
   ·obtain⟨t,z,e⟩:=aI.1 h;exact .inl ⟨t,z,e.symm⟩
   ·obtain⟨t,z,e⟩:=aI.1 h;exact .inr ⟨t,z,e.symm⟩
  refine⟨⟨p.by_,true,vO p.S Q Hs⟩,⟨_,rfl,s1,rfl,by omega,by omega⟩,⟨?_,λs hs=>?_,λ_=>iU _ (h.byA h1),.inl (iU _ (h.byA h1)),λe=>by cases e⟩,λx I=>?_,h2.symm,λ_=>s2,?_⟩
  ·refine E.nodup_iff.2 ?_;rw[cP];refine⟨h.nd,vT Q n,λa Y b hb e=>?_⟩;obtain⟨s,hs,rfl⟩:=aI.1 Y;obtain⟨t,z,rfl⟩:=aI.1 hb;have h3:=(nY Q n t z).1;have h4:mM s=mM t:=congrArg Prod.fst e;exact hi (by rw[<- h3,<- h4];exact(h.own s hs).1)
  ·rcases J s hs with ⟨t,z,e⟩|⟨t,z,e⟩
   ·have e1:mM s=mM t:=congrArg Prod.fst e;have U:s.num=t.num:=congrArg Prod.snd e;rw[e1,U];exact⟨iU _ (h.own t z).1,(h.own t z).2⟩
   ·have e1:mM s=mM t:=congrArg Prod.fst e;have U:s.num=t.num:=congrArg Prod.snd e;obtain⟨b1,b2,_⟩:=nY Q n t z;rw[e1,U,b1];exact⟨by simp,by omega⟩
  ·obtain⟨_,I⟩:=nJ I;rcases I with rfl|⟨s,hs,Y,rfl⟩
   ·left;unfold pH;rw[if_pos h1];exact eT
   ·rcases aY8 Z W hF aO hs with k|⟨t,_,rfl⟩|k
    ·rcases J s hs with ⟨t,z,e⟩|⟨t,z,e⟩
     ·left;have U:s.num=t.num:=congrArg Prod.snd e;have h0:=(h.own t z).2;rcases kE k with rfl|k|rfl
      ·simp[jR,gE] at U;omega
      ·exact aA0 h1 k Y
      ·simp[lD,gE] at U;omega
     ·right;exact(congrArg Prod.fst e).trans (nY Q n t z).1
    ·cases Y
    ·right;exact(nY Q n s k).1
  ·have hl:=E.length_eq;rw[aJ,aT,aT,aT] at hl;show (vO p.S Q Hs).length<=_;rw[hl];omega
theorem aW1{α:Type}{L:List α}{p:α->Bool}{k:Nat}(I:k<L.length)(h:p L[k]=true)(z:∀i (hi:i<L.length),i<k->p L[i]=false):L.findIdx? p=some k:=by
 rw[cQ];exact⟨I,h,λj E=>by rw[z j (by omega) E];simp⟩
theorem aT5{α:Type}{L:List α}{p:α->Bool}(z:∀i (hi:i<L.length),p L[i]=false):L.findIdx? p=none:=by
 rw[fE];intro x E;obtain⟨i,hi,rfl⟩:=aMu E;exact z i hi
def pmV(P:PM):Value:=.agg #[.int .u8 P.id.a,.int .u8 P.id.b,.int .u8 P.id.c,.int .u8 P.id.d,P.cv]
theorem aOd(S:List PM)(p:PM->Bool)(g:FuncId)(lb:Array Value)(eg:∀args w,(callFunc g args).run Tryz.prog w=.ok (.enter g args) w)(v0:Value)(w:World)(hv:PV w v0 S)(Z:S.length<=1000000)
  (hp:∀s∈S,∀u,Below w.heap.size w u->Calls Tryz.prog g (#[pmV s]++lb) u λe w'=>e=.returned (.bool (p s))/\Below u.heap.size u w') :
  Calls Tryz.prog 187 #[v0,.func (.func g) #[] lb] w λe w'=>e=.returned (.int .i64 (aB3 (S.findIdx? p)))/\Below w.heap.size w w':=by
 have HV:=aO hv;obtain⟨ao,cap,rfl,_⟩:=hv;have HP:=aO hp;clear hp;go_enter Tryz.func187,Tryz.ntmps187;go_wp2
 go_loopw [5,8] (λ_ i wr=>∃k:Nat,k<=S.length/\i=.int .i64 k/\Hid (∀i (hi:i<S.length),i<k->p S[i]=false)/\Below w.heap.size w wr) (λ_ i _=>S.length - (intOf i).toNat)
 case atStart=>exact⟨0,aE _,rfl,(λi _ h=>by omega),Below.refl _ _⟩
 case round=>
  obtain⟨k,hk,rfl,W,E⟩:=hrel;by_cases J:k<S.length
  ·have hs:S[k]?=some S[k]:=aC J;obtain⟨_,_,e1,U⟩:=HV.out.below E (aA _)
   cases e1
   obtain⟨b,o,rfl,hb,c0,c1,c2,c3,c4,_⟩:=U k _ hs;clear U;obtain⟨s,K⟩:∃s,S[k]=s:=⟨_,rfl⟩;have z:=HP.out S[k] (bZ J) wr E;rw[K] at c0 c1 c2 c3 c4 z;have Y:=aO K;clear K hs;unfold pmV at z
   cases V:p s with
   | true=>
    rw[V] at z
    go_wp2_with (go_at_fn g;refine z.mono ?_;rintro e w' ⟨rfl,I⟩)
    go_ret;exact⟨fW (by rw[aW1 J (by rw[Y.out];exact V) W.out];rfl),E.trans (I.mono E.size)⟩
   | false=>
    rw[V] at z
    go_wp2_with (go_at_fn g;refine z.mono ?_;rintro e w' ⟨rfl,I⟩)
    go_roundw
    case rel=>
     refine⟨k+1,by omega,by go_num,λi hi h=>?_,E.trans (I.mono E.size)⟩;by_cases e:i=k
     ·subst e;rw[Y.out];exact V
     ·exact W.out i hi (by omega)
    case measure=>simp[intOf];omega
  ·obtain rfl:k=S.length:=by omega
   go_wp2;go_ret;exact⟨fW (by rw[aT5 (λi hi=>W.out i hi hi)];rfl),E⟩
theorem aR4(i j:cL)(w:World):(binOp .eql 113 (.agg #[.int .u8 i.a,.int .u8 i.b,.int .u8 i.c,.int .u8 i.d]) (.agg #[.int .u8 j.a,.int .u8 j.b,.int .u8 j.c,.int .u8 j.d])).run Tryz.prog w=.ok (.bool (decide (i=j))) w:=by
 rw[run_eql_struct,aJy 9998];have:(i.a=j.a/\i.b=j.b/\i.c=j.c/\i.d=j.d)↔i=j:=by
  cases i;cases j;simp
 simp[this]
section
variable {base size g cap n:Nat} {e:TypeId} {xs:List Value}
theorem aDb{a b c:World}{r:Option Nat}(h:a.grownBy b r)(k:b.grownBy c r):a.grownBy c r:=
 ⟨k.os.trans h.os,k.tape.trans h.tape,k.output.trans h.output,aR h.size k.size,λj E z=>(k.block j (bJ E h.size) z).trans (h.block j E z)⟩
end
def bB9:fM->FuncId
 | .add ..=>335
 | .remove ..=>343
 | .alter ..=>353
def qU:fM->Prop
 | .add _ _ _ S=>S.length<=100000
 | .remove _ _ S=>S.length<=100000
 | .alter _ _ Hs=>Hs.length<=900/\∀x∈Hs,x.N.length<=1000/\2<=x.N.length
theorem aZk{p:PL}{i:cL}{n z:Int}{there:Bool}{text:ByteArray}{c:fM}(h:jE p i n there text c z):n<=z:=by
 cases c with
 | add i' l rv S=>obtain⟨_,_,_,_,rfl⟩:=h;omega
 | remove i' rv S=>obtain⟨_,_,_,_,rfl⟩:=h;omega
 | alter i' hv Hs=>
  obtain⟨_,_,_,Q,_,_,rfl⟩:=h;exact wL _ _ _
theorem aLo{ids:List cL}{p:PL}(h:fV ids p){i:cL}(hi:i∉ids)(Z:lF∉ids)(I:i≠lF){n n':Int}{there:Bool}{text:ByteArray}{c:fM}(E:jE p i n there text c n')(hS:p.S.length<=900)(hR:(aL p.S).length<=90)(hN:(bM text).length<=20):qU c:=by
 cases c with
 | add i' l rv S=>
  obtain⟨_,_,_,rfl,_⟩:=E;show (eD i n (bM text)).length<=100000;rw[kP];omega
 | remove i' rv S=>
  obtain⟨_,_,_,rfl,_⟩:=E;show p.S.length<=100000;omega
 | alter i' hv Hs=>
  obtain⟨h1,h2,rfl,Q,K,J,_⟩:=E;have V:=nL (mZ h Z);have aO:=pN h hi I;obtain⟨s1,_,_⟩:=aDn J K V aO (by omega) (by omega) (by omega);have hQ:=K.len (aE _) (aE _);have W:Hs.length=Q.length:=J.1;refine⟨by omega,λx Y=>?_⟩;obtain⟨k,U⟩:=bI.1 Y;obtain⟨_,_,_,_,_,z,_⟩:=s1.step k x U;obtain⟨q,_,e,_⟩:=J.2 k x U;refine⟨?_,z⟩;rw[e];have:(dA (aM p.S) q).length<=(aM p.S).length:=by unfold dA;simp;omega
  have:(aM p.S).length=p.S.length+2:=by simp[aM]
  omega
theorem dG.pos{s:ByteArray->PL}{i:cL}{E:List Fl}{Cs:List (ByteArray×fM)}{m:Nat->Int}(h:dG s i E Cs m):∀k,k<=Cs.length->0<=m k
 | 0,_=>by rw[h.zero];exact aBg _
 | k+1,hk=>by
  have J:=dG.pos h k (by omega);have z:k<E.length:=by rw[<- h.len];omega
  obtain⟨_,I⟩:=h.at_ k _ _ (aC z) (aC (by omega));exact Int.le_trans J (aZk I)
theorem aJm{Cs:List (ByteArray×fM)}(I:(Cs.map (·.1)).Nodup){j k:Nat}{c d:ByteArray×fM}(K:Cs[j]?=some c)(U:Cs[k]?=some d)(e:c.1=d.1):j=k:=by
 obtain⟨h1,z⟩:=aB.1 K;obtain⟨h2,E⟩:=aB.1 U;rw[List.Nodup,jB] at I;have J:=cW.1 I;rcases aBl j k with h|h|h
 ·exact absurd (by rw[z,E];exact e) (J j k h1 h2 h)
 ·exact h
 ·exact absurd (by rw[z,E];exact e.symm) (J k j h2 h1 h)
end Go.Proofs.YtgdfipmdmgkidaaGreatDoor
