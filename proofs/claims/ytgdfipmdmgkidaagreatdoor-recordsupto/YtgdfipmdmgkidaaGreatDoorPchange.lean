import Derived.Test.YtgdfipmdmgkidaaGreatDoorPalter
import Derived.Deep.RegionHeld3
import Derived.Maps.OwnSet
import Derived.Laws.CopyRow
import Derived.Test.YtgdfipmdmgkidaaGreatDoorAl
set_option linter.all false
set_option maxHeartbeats 6400000
set_option maxRecDepth 100000
namespace Go.Proofs.YtgdfipmdmgkidaaGreatDoor
open Go.RowKit
theorem qJ{w:World}{g:Nat}{k:cL}{x y:Value}{t:TypeId}{f:Nat×Nat}(h:w.heap[g]?=some (.cells #[.int .u8 k.a,.int .u8 k.b,.int .u8 k.c,.int .u8 k.d,x,y] t f)):
  w.cell? ⟨g,0,none⟩=some (.int .u8 k.a)/\w.cell? ⟨g,1,none⟩=some (.int .u8 k.b)/\w.cell? ⟨g,2,none⟩=some (.int .u8 k.c)/\w.cell? ⟨g,3,none⟩=some (.int .u8 k.d)/\w.cell? ⟨g,4,none⟩=some x/\w.cell? ⟨g,5,none⟩=some y:=by
 simp[World.cell?,h]
theorem iI(w:World){z:World}(x y:Obj)(h:z=(w.alloc x).alloc y):Below w.heap.size w z/\z.heap.size=w.heap.size+2/\z.heap[w.heap.size]?=some x/\z.heap[w.heap.size+1]?=some y:=by
 subst h;have E:Below w.heap.size w (w.alloc x):=(Below.refl _ _).alloc (aA _) _;have s1:(w.alloc x).heap.size=w.heap.size+1:=by simp
 refine⟨E.alloc (by omega) _,by simp,?_,?_⟩
 ·rw[Below.heap_alloc _ _ _ (by omega)];exact(aH w x).1
 ·have:=(aH (w.alloc x) y).1;rwa[s1] at this
theorem aHy(i E:cL)(n:Int)(z:Nat)(ka:Option Addr)(kn kc:Nat)(name text:ByteArray)(there:Bool)(w:World)(hm:pC w z i n)(ht:text.size<=10000)(hL:(bM text).length<=10000)(hn:0<=n)(c9:n<=1000000):
  Calls Tryz.prog 175 #[.pointer (some ⟨z,0,none⟩),.agg #[.int .u8 E.a,.int .u8 E.b,.int .u8 E.c,.int .u8 E.d,.bool false,.slice ka kn kc],.agg #[.string name,.bool there,.string text]] w λe w'=>
   ∃v,e=.returned (.iface 282 (.agg #[.int .u8 i.a,.int .u8 i.b,.int .u8 i.c,.int .u8 i.d,.int .u8 E.a,.int .u8 E.b,.int .u8 E.c,.int .u8 E.d,v]))/\w'.ownsRow w.heap.size 313 7 v (eD i n (bM text)).length (gN (eD i n (bM text)))/\pC w' z i (n+(bM text).length)/\lZ w w' z:=by
 obtain⟨J,b5⟩:∃J,J=(w.alloc (.cells #[.int .u8 E.a,.int .u8 E.b,.int .u8 E.c,.int .u8 E.d,.bool false,.slice ka kn kc] 185)).alloc (.cells #[.string name,.bool there,.string text] 118):=⟨_,rfl⟩;obtain⟨b9,c6,a9,a8⟩:=iI w _ _ b5;have c1:=hm.lt;have b4:pC J z i n:=hm.below b9 c1;obtain⟨m0,m1,m2,m3,m4⟩:=b4.cells;obtain⟨k0,k1,k2,k3,k4,k5⟩:=qJ a9;obtain⟨f0,f1,f2⟩:=dW a8;obtain⟨L,a6⟩:∃L,bM text=L:=⟨_,rfl⟩;have b6:=aO a6;rw[a6] at hL;have c7:w.heap.size+1<J.heap.size:=by omega
 clear c6;go_enter Tryz.func175,Tryz.ntmps175
 go_wp2_with fail
 rw[<- b5];clear b5;have c8:Hid (J.cell? ⟨z,0,none⟩=some (.int .u8 i.a)/\J.cell? ⟨z,1,none⟩=some (.int .u8 i.b)/\J.cell? ⟨z,2,none⟩=some (.int .u8 i.c)/\J.cell? ⟨z,3,none⟩=some (.int .u8 i.d)/\J.cell? ⟨w.heap.size,0,none⟩=some (.int .u8 E.a)/\J.cell? ⟨w.heap.size,1,none⟩=some (.int .u8 E.b)/\J.cell? ⟨w.heap.size,2,none⟩=some (.int .u8 E.c)/\J.cell? ⟨w.heap.size,3,none⟩=some (.int .u8 E.d)/\J.cell? ⟨w.heap.size+1,2,none⟩=some (.string text)):=⟨m0,m1,m2,m3,k0,k1,k2,k3,f2⟩;have c3:Hid (Calls Tryz.prog 103 #[.string text] J.drew λe I=>∃la lc,e=.returned (.slice la L.length lc)/\(I.ownsRow J.heap.size 9 1 (.slice la L.length lc) L.length (bW L)/\Below J.heap.size J I/\pC I z i n/\I.cell? ⟨z,0,none⟩=some (.int .u8 i.a)/\I.cell? ⟨z,1,none⟩=some (.int .u8 i.b)/\I.cell? ⟨z,2,none⟩=some (.int .u8 i.c)/\I.cell? ⟨z,3,none⟩=some (.int .u8 i.d)/\I.cell? ⟨w.heap.size,0,none⟩=some (.int .u8 E.a)/\I.cell? ⟨w.heap.size,1,none⟩=some (.int .u8 E.b)/\I.cell? ⟨w.heap.size,2,none⟩=some (.int .u8 E.c)/\I.cell? ⟨w.heap.size,3,none⟩=some (.int .u8 E.d)/\I.cell? ⟨w.heap.size+1,2,none⟩=some (.string text))):=by
  have HC:=sL text J.drew (by omega);rw[a6] at HC;refine HC.mono ?_;rintro e I ⟨lv,rfl,W,U⟩;obtain⟨la,lc,rfl⟩:=bC W;have Y:Below J.heap.size J I:=(Below.refl _ J).drew.trans U;have V:pC I z i n:=b4.below Y (by omega);obtain⟨a0,a1,a2,a3,_⟩:=V.cells;obtain⟨b0,b1,b2,b3,_,_⟩:=qJ ((Y.block w.heap.size (by omega)).trans a9);obtain⟨_,_,c2⟩:=dW ((Y.block (w.heap.size+1) (by omega)).trans a8);exact⟨la,lc,rfl,W,Y,V,a0,a1,a2,a3,b0,b1,b2,b3,c2⟩
 have c4:Hid (∀(I:World) la lc,I.ownsRow J.heap.size 9 1 (.slice la L.length lc) L.length (bW L)->Below J.heap.size J I->pC I z i n->Calls Tryz.prog 216 #[.pointer (some ⟨z,0,none⟩),.slice la L.length lc] I λe K=>∃ba bl bc,e=.returned (.slice ba bl bc)/\(K.ownsRow w.heap.size 313 7 (.slice ba bl bc) (eD i n L).length (gN (eD i n L))/\pC K z i (n+L.length)/\lZ w K z/\K.cell? ⟨z,0,none⟩=some (.int .u8 i.a)/\K.cell? ⟨z,1,none⟩=some (.int .u8 i.b)/\K.cell? ⟨z,2,none⟩=some (.int .u8 i.c)/\K.cell? ⟨z,3,none⟩=some (.int .u8 i.d)/\K.cell? ⟨w.heap.size,0,none⟩=some (.int .u8 E.a)/\K.cell? ⟨w.heap.size,1,none⟩=some (.int .u8 E.b)/\K.cell? ⟨w.heap.size,2,none⟩=some (.int .u8 E.c)/\K.cell? ⟨w.heap.size,3,none⟩=some (.int .u8 E.d)/\K.cell? ⟨w.heap.size+1,2,none⟩=some (.string text))):=λI la lc W U V=>by
  refine(aAp i n L la lc z I (gD.own W) V (by omega) hn (by omega)).mono ?_;rintro e K ⟨bv,rfl,a4,a7,a5⟩;obtain⟨ba,bc,c5⟩:=bC a4;have d0:=U.size;have c0:lZ w K z:=(lZ.of_below z ((b9.trans (U.mono (by omega))))).trans a5;obtain⟨a0,a1,a2,a3,_⟩:=a7.cells;obtain⟨b0,b1,b2,b3,_,_⟩:=qJ ((a5.block w.heap.size (by omega) (by omega)).trans ((U.block w.heap.size (by omega)).trans a9));obtain⟨_,_,c2⟩:=dW ((a5.block (w.heap.size+1) (by omega) (by omega)).trans ((U.block (w.heap.size+1) (by omega)).trans a8));subst c5;exact⟨ba,_,bc,rfl,bK a4 (by omega),a7,c0,a0,a1,a2,a3,b0,b1,b2,b3,c2⟩
 clear k4 k5 f0 f1 m4 a9 a8 b4 a6
 go_region_held3 (λw'=>w'.cell? ⟨z,0,none⟩=some (.int .u8 i.a)/\w'.cell? ⟨z,1,none⟩=some (.int .u8 i.b)/\w'.cell? ⟨z,2,none⟩=some (.int .u8 i.c)/\w'.cell? ⟨z,3,none⟩=some (.int .u8 i.d)/\w'.cell? ⟨w.heap.size,0,none⟩=some (.int .u8 E.a)/\w'.cell? ⟨w.heap.size,1,none⟩=some (.int .u8 E.b)/\w'.cell? ⟨w.heap.size,2,none⟩=some (.int .u8 E.c)/\w'.cell? ⟨w.heap.size,3,none⟩=some (.int .u8 E.d)/\w'.cell? ⟨w.heap.size+1,2,none⟩=some (.string text))
  (first|exact b8.out|exact b7.out|exact⟨m0,m1,m2,m3,k0,k1,k2,k3,f2⟩|go_keep)
  (first
   | (go_at_call 103;refine c3.out.mono ?_;rintro e I ⟨la,lc,rfl,W,U,V,Z⟩;have b7:Hid (I.cell? ⟨z,0,none⟩=some (.int .u8 i.a)/\I.cell? ⟨z,1,none⟩=some (.int .u8 i.b)/\I.cell? ⟨z,2,none⟩=some (.int .u8 i.c)/\I.cell? ⟨z,3,none⟩=some (.int .u8 i.d)/\I.cell? ⟨w.heap.size,0,none⟩=some (.int .u8 E.a)/\I.cell? ⟨w.heap.size,1,none⟩=some (.int .u8 E.b)/\I.cell? ⟨w.heap.size,2,none⟩=some (.int .u8 E.c)/\I.cell? ⟨w.heap.size,3,none⟩=some (.int .u8 E.d)/\I.cell? ⟨w.heap.size+1,2,none⟩=some (.string text)):=Z;clear Z)
   | (go_at_call 216;refine(c4.out _ _ _ W U V).mono ?_;rintro e K ⟨ba,bl,bc,rfl,a4,a7,a5,Z⟩;have b8:Hid (K.cell? ⟨z,0,none⟩=some (.int .u8 i.a)/\K.cell? ⟨z,1,none⟩=some (.int .u8 i.b)/\K.cell? ⟨z,2,none⟩=some (.int .u8 i.c)/\K.cell? ⟨z,3,none⟩=some (.int .u8 i.d)/\K.cell? ⟨w.heap.size,0,none⟩=some (.int .u8 E.a)/\K.cell? ⟨w.heap.size,1,none⟩=some (.int .u8 E.b)/\K.cell? ⟨w.heap.size,2,none⟩=some (.int .u8 E.c)/\K.cell? ⟨w.heap.size,3,none⟩=some (.int .u8 E.d)/\K.cell? ⟨w.heap.size+1,2,none⟩=some (.string text)):=Z;clear Z))
 all_goals
  have HO:=aO a4;clear a4 b7 b8 W U V m0 m1 m2 m3 k0 k1 k2 k3 f2;go_wp2;go_ret;exact⟨_,rfl,by rw[b6.out];exact HO.out,by rw[b6.out];exact a7,a5⟩
theorem aEc(i z:cL)(n:Int)(W:Nat)(S:List aU)(rv:Value)(name text:ByteArray)(w:World)(hm:pC w W i n)(hr:SV w rv S)(ht:text.size<=10000)(hL:(bM text).length<=9000)(hS:S.length<=9000)(hn:0<=n)(c1:n<=1000000)
  (a1:∀Q,dS (aL S) (bM text) 0 0 Q->∀k,eO n (bM text) (Q.take k)<=10000000/\0<=eO n (bM text) (Q.take k)) :
  Calls Tryz.prog 175 #[.pointer (some ⟨W,0,none⟩),.agg #[.int .u8 z.a,.int .u8 z.b,.int .u8 z.c,.int .u8 z.d,.bool true,rv],.agg #[.string name,.bool true,.string text]] w λe w'=>
   ∃v,e=.returned (.iface 288 (.agg #[.int .u8 z.a,.int .u8 z.b,.int .u8 z.c,.int .u8 z.d,v]))/\aAk S (bM text) i n W w w' v/\lZ w w' W:=by
 obtain⟨ka,kc,rfl⟩:=hr.shape;obtain⟨U,a6⟩:∃U,U=(w.alloc (.cells #[.int .u8 z.a,.int .u8 z.b,.int .u8 z.c,.int .u8 z.d,.bool true,.slice ka S.length kc] 185)).alloc (.cells #[.string name,.bool true,.string text] 118):=⟨_,rfl⟩;obtain⟨a5,c4,a4,a3⟩:=iI w _ _ a6;have b6:=hm.lt;have a9:pC U W i n:=hm.below a5 b6;have c3:=hr.below a5 (aA _);obtain⟨k0,k1,k2,k3,k4,k5⟩:=qJ a4;obtain⟨f0,f1,f2⟩:=dW a3;obtain⟨L,a2⟩:∃L,bM text=L:=⟨_,rfl⟩;have b9:=aO a2;rw[a2] at hL a1;have c5:w.heap.size+1<U.heap.size:=by omega
 clear c4;go_enter Tryz.func175,Tryz.ntmps175
 go_wp2_with fail
 rw[<- a6];clear a6;have b7:Hid (Calls Tryz.prog 103 #[.string text] U.drew λe E=>∃la lc,e=.returned (.slice la L.length lc)/\(E.ownsRow U.heap.size 9 1 (.slice la L.length lc) L.length (bW L)/\Below U.heap.size U E/\pC E W i n/\E.cell? ⟨w.heap.size,0,none⟩=some (.int .u8 z.a)/\E.cell? ⟨w.heap.size,1,none⟩=some (.int .u8 z.b)/\E.cell? ⟨w.heap.size,2,none⟩=some (.int .u8 z.c)/\E.cell? ⟨w.heap.size,3,none⟩=some (.int .u8 z.d)/\E.cell? ⟨w.heap.size,5,none⟩=some (.slice ka S.length kc)/\E.cell? ⟨w.heap.size+1,2,none⟩=some (.string text))):=by
  have HC:=sL text U.drew (by omega);rw[a2] at HC;refine HC.mono ?_;rintro e E ⟨lv,rfl,K,I⟩;obtain⟨la,lc,rfl⟩:=bC K;have V:Below U.heap.size U E:=(Below.refl _ U).drew.trans I;have Y:pC E W i n:=a9.below V (by omega);obtain⟨b0,b1,b2,b3,_,b5⟩:=qJ ((V.block w.heap.size (by omega)).trans a4);obtain⟨_,_,c2⟩:=dW ((V.block (w.heap.size+1) (by omega)).trans a3);exact⟨la,lc,rfl,K,V,Y,b0,b1,b2,b3,b5,c2⟩
 have b8:Hid (∀(E:World) la lc,E.ownsRow U.heap.size 9 1 (.slice la L.length lc) L.length (bW L)->Below U.heap.size U E->pC E W i n->Calls Tryz.prog 217 #[.pointer (some ⟨W,0,none⟩),.slice ka S.length kc,.slice la L.length lc] E λe J=>∃ba bl bc,e=.returned (.slice ba bl bc)/\(aAk S L i n W w J (.slice ba bl bc)/\lZ w J W/\J.cell? ⟨w.heap.size,0,none⟩=some (.int .u8 z.a)/\J.cell? ⟨w.heap.size,1,none⟩=some (.int .u8 z.b)/\J.cell? ⟨w.heap.size,2,none⟩=some (.int .u8 z.c)/\J.cell? ⟨w.heap.size,3,none⟩=some (.int .u8 z.d)/\J.cell? ⟨w.heap.size,5,none⟩=some (.slice ka S.length kc)/\J.cell? ⟨w.heap.size+1,2,none⟩=some (.string text))):=λE la lc K I Y=>by
  have c6:=I.size;refine(aK4 S L i n W _ _ E (c3.below I (aA _)) (LV.own K) Y hS hL hn c1 a1).mono ?_;rintro e J ⟨bv,rfl,hO,a0⟩;have b4:lZ w J W:=(lZ.of_below W ((a5.trans (I.mono (by omega))))).trans a0;obtain⟨b0,b1,b2,b3,_,b5⟩:=qJ ((a0.block w.heap.size (by omega) (by omega)).trans ((I.block w.heap.size (by omega)).trans a4));obtain⟨_,_,c2⟩:=dW ((a0.block (w.heap.size+1) (by omega) (by omega)).trans ((I.block (w.heap.size+1) (by omega)).trans a3));obtain⟨Hs,Q,h1,h2,h3,h4⟩:=hO;obtain⟨ba,bc,c0⟩:=bC h1.row;subst c0;exact⟨ba,_,bc,rfl,⟨Hs,Q,h1.mono (by omega),h2,h3,h4⟩,b4,b0,b1,b2,b3,b5,c2⟩
 clear k4 f0 f1 a4 a3 a9 a2 a1
 go_region_held3 (λw'=>w'.cell? ⟨w.heap.size,0,none⟩=some (.int .u8 z.a)/\w'.cell? ⟨w.heap.size,1,none⟩=some (.int .u8 z.b)/\w'.cell? ⟨w.heap.size,2,none⟩=some (.int .u8 z.c)/\w'.cell? ⟨w.heap.size,3,none⟩=some (.int .u8 z.d)/\w'.cell? ⟨w.heap.size,5,none⟩=some (.slice ka S.length kc)/\w'.cell? ⟨w.heap.size+1,2,none⟩=some (.string text))
  (first|exact a8.out|exact a7.out|exact⟨k0,k1,k2,k3,k5,f2⟩|go_keep)
  (first
   | (go_at_call 103;refine b7.out.mono ?_;rintro e E ⟨la,lc,rfl,K,I,Y,Z⟩;have a7:Hid (E.cell? ⟨w.heap.size,0,none⟩=some (.int .u8 z.a)/\E.cell? ⟨w.heap.size,1,none⟩=some (.int .u8 z.b)/\E.cell? ⟨w.heap.size,2,none⟩=some (.int .u8 z.c)/\E.cell? ⟨w.heap.size,3,none⟩=some (.int .u8 z.d)/\E.cell? ⟨w.heap.size,5,none⟩=some (.slice ka S.length kc)/\E.cell? ⟨w.heap.size+1,2,none⟩=some (.string text)):=Z;clear Z)
   | (go_at_call 217;refine(b8.out _ _ _ K I Y).mono ?_;rintro e J ⟨ba,bl,bc,rfl,hO,a0,Z⟩;have a8:Hid (J.cell? ⟨w.heap.size,0,none⟩=some (.int .u8 z.a)/\J.cell? ⟨w.heap.size,1,none⟩=some (.int .u8 z.b)/\J.cell? ⟨w.heap.size,2,none⟩=some (.int .u8 z.c)/\J.cell? ⟨w.heap.size,3,none⟩=some (.int .u8 z.d)/\J.cell? ⟨w.heap.size,5,none⟩=some (.slice ka S.length kc)/\J.cell? ⟨w.heap.size+1,2,none⟩=some (.string text)):=Z;clear Z))
 all_goals
  have HO:=aO hO;clear hO a7 a8 K I Y k0 k1 k2 k3 k5 f2;go_wp2;go_ret;exact⟨_,rfl,by rw[b9.out];exact HO.out,a0⟩
open Go.ChangeMaps Go.MapKept
structure Lat where
 by_:cL
 alive:Bool
 rv:Value
 S:List aU
def kT(l:Lat):Value:=.agg #[.int .u8 l.by_.a,.int .u8 l.by_.b,.int .u8 l.by_.c,.int .u8 l.by_.d,.bool l.alive,l.rv]
def zU:Lat:=⟨⟨0,0,0,0⟩,false,.slice none 0 0,[]⟩
def gU:Value->Option (DataW Value×List MemPlace)
 | .agg cs=>some (.held (.agg cs),[])
 | _=>none
theorem uB(l:Lat):gU (kT l)=some (.held (kT l),[]):=rfl
theorem oR{v u:Value}{z:List MemPlace}(h:gU v=some (.held u,z)):v=u:=by
 unfold gU at h;split at h
 ·simp at h;exact h.1
 ·cases h
theorem aBs{s t:ByteArray}(h:s.data.toList=t.data.toList):s=t:=gL (aVr.1 h)
def kl(s:ByteArray):Lit:=.string s.data.toList
theorem wF{s t:ByteArray}(h:kl s=kl t):s=t:=by
 unfold kl at h;injection h with h;exact aBs h
theorem aB5(s:ByteArray):WideAt.IsKeyLit (kl s):=trivial
theorem aDg{s:ByteArray}(hs:s.size<=maxLen):keyOf Tryz.prog 9 (.string s)=some (kl s):=WideMaps.keyOf_string_mk Tryz.underlying9 hs
theorem aMp(w:World):(zeroValue 185).run Tryz.prog w=.ok (kT zU) w:=Tryz.zeroValue185 w
def KAt(w:World)(mb:Nat)(f:ByteArray->Lat)(has:ByteArray->Bool):Prop:=∃(n:Nat) (D:DataW Value),n<=1000000/\w.ownsMap Tryz.prog 9 gU mb n D/\(∀x,D.atKey (kl x) (.held (kT zU))=.held (kT (f x)))/\(∀x,Maps.has D (kl x)=has x)/\(∀x,has x=false->f x=zU)
theorem KAt.lt{w:World}{z:Nat}{f:ByteArray->Lat}{has:ByteArray->Bool}(h:KAt w z f has):z<w.heap.size:=by
 obtain⟨n,D,_,h1,_⟩:=h;exact h1.lt
theorem KAt.look{w:World}{z:Nat}{f:ByteArray->Lat}{has:ByteArray->Bool}(h:KAt w z f has)(x:ByteArray)(I:x.size<=1000000):(Instr.lookup 119 (.map (some z)) (.string x) false).run Tryz.prog w=.ok (kT (f x)) w:=by
 obtain⟨n,D,_,h1,h2,_⟩:=h;obtain⟨v,J,E,hv⟩:=h1.lookup (fT Tryz.underlying9) Tryz.underlying119 (aMp w) (uB zU) (aDg (s:=x) (by unfold maxLen;omega));rw[h2 x] at hv;rw[E,oR hv]
theorem KAt.put{w:World}{z:Nat}{f:ByteArray->Lat}{has:ByteArray->Bool}(n:Nat)(D:DataW Value)(V:n+1<=1000000)(h1:w.ownsMap Tryz.prog 9 gU z n D)(h2:∀x,D.atKey (kl x) (.held (kT zU))=.held (kT (f x)))(J:∀x,Maps.has D (kl x)=has x)(K:∀x,has x=false->f x=zU)(a:ByteArray)(l:Lat)(Y:a.size<=1000000):
  ∃w',(Instr.mapUpdate 119 (.map (some z)) (.string a) (kT l)).run Tryz.prog w=.ok () w'/\w'.ownsMap Tryz.prog 9 gU z (n+1) (D.put (kl a) (.held (kT l)))/\KAt w' z (λx=>if x=a then l else f x) (λx=>decide (x=a) || has x)/\w.grownBy w' (some z):=by
 obtain⟨w',W,E,U⟩:=h1.update (fT Tryz.underlying9) Tryz.underlying119 (by unfold maxLen;omega) (aDg (s:=a) (by unfold maxLen;omega)) (uB l);refine⟨w',W,E,⟨n+1,_,V,E,λx=>?_,λx=>?_,λx I=>?_⟩,U⟩
 ·show _=DataW.held (kT (if x=a then l else f x));by_cases e:x=a
  ·subst e;rw[xA h1.isMap (aB5 x),if_pos rfl]
  ·rw[vD (λq=>e (wF q)),h2,if_neg e]
 ·by_cases e:x=a
  ·subst e;rw[aBj h1.isMap (aB5 x)];simp
  ·rw[zF (λq=>e (wF q)),J];simp[e]
 ·have e:x≠a:=λe=>by simp[e] at I
  show (if x=a then l else f x)=zU;rw[if_neg e];exact K x (by simpa[e] using I)
theorem KAt.same{w w':World}{E:Nat}{f:ByteArray->Lat}{has:ByteArray->Bool}(h:KAt w E f has)(J:w'.heap[E]?=w.heap[E]?):KAt w' E f has:=by
 obtain⟨n,D,U,⟨I,z,K,V⟩,h2⟩:=h;exact⟨n,D,U,⟨I,z,J.trans K,V⟩,h2⟩
theorem aXg(w:World):SV w zU.rv zU.S:=.inl ⟨rfl,rfl⟩
def aFz(name:ByteArray)(there:Bool)(text:ByteArray):Value:=.agg #[.string name,.bool there,.string text]
def oQ(f:ByteArray->Lat)(x:ByteArray):Value:=if (f x).alive=true then aFz x true (dM (f x).S) else aFz x false ⟨#[]⟩
theorem eG{w:World}{g:Nat}{c:Array Value}{t:TypeId}(h:w.heap[g]?=some (.cells c t (0,0)))(o:Nat):w.frozen? ⟨g,o,none⟩=false:=by
 simp[World.frozen?,h]
theorem zP(w J K Z U:World)(g:Nat)(t:TypeId)(c:Array Value)(hc:c.size=3)(z E I:Value)(hg:w.heap[g]?=some (.cells c t (0,0)))
  (e1:J=w.setCell ⟨g,0,none⟩ z) (e2:K=J.setCell ⟨g,1,none⟩ E) (e3:Z=K.setCell ⟨g,2,none⟩ I) (e9:U=Z) :
  U.heap[g]?=some (.cells #[z,E,I] t (0,0))/\iN g w U:=by
 have g1:=heap_setCell_same w g 0 _ t z hg;have V:=iN.set w g 0 z;rw[<- e1] at g1 V;have g2:=heap_setCell_same J g 1 _ t E g1;have W:=V.trans (iN.set J g 1 E);rw[<- e2] at g2 W;have g3:=heap_setCell_same K g 2 _ t I g2;have Y:=W.trans (iN.set K g 2 I);rw[<- e3] at g3 Y;have ha:((c.setIfInBounds 0 z).setIfInBounds 1 E).setIfInBounds 2 I=#[z,E,I]:=by
  obtain⟨l⟩:=c
  match l,hc with
  | [y0,y1,y2],_=>simp
 rw[ha] at g3;rw[e9];exact⟨g3,Y⟩
theorem aNy(f:ByteArray->Lat)(has:ByteArray->Bool)(mb:Nat)(x:ByteArray)(hx:x.size<=1000000)(w:World)(h:KAt w mb f has)(hr:SV w (f x).rv (f x).S)(ha:(f x).alive=false):
  Calls Tryz.prog 78 #[.agg #[.map (some mb)],.string x] w λe w'=>e=.returned (oQ f x)/\Below w.heap.size w w':=by
 have HK:Hid (oQ f x=aFz x false ⟨#[]⟩):=by show _=_;unfold oQ;rw[if_neg (by rw[ha];simp)]
 have a1:=h.lt;obtain⟨l,hl⟩:∃l,f x=l:=⟨_,rfl⟩;rw[hl] at hr ha;obtain⟨ra,rc,W⟩:=hr.shape;obtain⟨⟨ba,bb,bc,bd⟩,al,rv,S⟩:=l;simp only at ha W hr;subst ha W;obtain⟨V,J⟩:∃V,V=(w.alloc (.cells #[.map (some mb)] 121)).alloc (.cells #[.string ⟨#[]⟩,.bool false,.string ⟨#[]⟩] 118):=⟨_,rfl⟩;obtain⟨z,a2,a4,E⟩:=iI w _ _ J;have I:=(h.same (z.block mb a1)).look x hx;rw[hl] at I;unfold kT at I;simp only at I;go_enter Tryz.func78,Tryz.ntmps78;go_wp2;rw[<- J,I];clear I J;have Y:w.heap.size+1<V.heap.size:=by omega
 clear a2;obtain⟨r0,r1,r2⟩:=dW E;have z0:=eG E 0;have z1:=eG E 1;have z2:=eG E 2;have a5:w.heap.size+1≠V.heap.size:=by omega
 go_wp2;obtain⟨K,Z⟩:∃K,K=((V.setCell ⟨w.heap.size+1,0,none⟩ (.string x)).setCell ⟨w.heap.size+1,1,none⟩ (.bool false)).setCell ⟨w.heap.size+1,2,none⟩ (.string ⟨#[]⟩):=⟨_,rfl⟩;obtain⟨s1,U⟩:=zP V _ _ _ K (w.heap.size+1) 118 _ rfl _ _ _ E rfl rfl rfl Z;rw[<- Z];have a3:w.heap.size+1<K.heap.size:=by rw[U.size];exact Y
 have a0:Below w.heap.size w K:=⟨U.os.trans z.os,U.tape.trans z.tape,U.output.trans z.output,by rw[U.size];exact z.size,λk hk=>(U.block k (by omega)).trans (z.block k hk)⟩;have s9:(K.alloc (.cells #[.int .u8 ba,.int .u8 bb,.int .u8 bc,.int .u8 bd,.bool false,.slice ra S.length rc] 185)).heap[w.heap.size+1]?=_:=(Below.heap_alloc K _ _ a3).trans s1;refine bodyPost_ret (results_cell_row (p:=4) (ty:=118) (by kernel_rfl) _ _ (w.heap.size+1) 118 _ (0,0) _ rfl s9 Tryz.underlying118 rfl (by kernel_rfl)) rfl ?_;exact⟨by rw[HK.out];rfl,a0.alloc (by omega) _⟩
theorem aKx(f:ByteArray->Lat)(has:ByteArray->Bool)(mb:Nat)(x:ByteArray)(hx:x.size<=1000000)(w:World)(h:KAt w mb f has)(hr:SV w (f x).rv (f x).S)(ha:(f x).alive=true)(hS:(f x).S.length<=1000000)(hT:(dM (f x).S).size<=1000000000):
  Calls Tryz.prog 78 #[.agg #[.map (some mb)],.string x] w λe w'=>e=.returned (oQ f x)/\Below w.heap.size w w':=by
 have HK:Hid (oQ f x=aFz x true (dM (f x).S)):=by show _=_;unfold oQ;rw[if_pos ha]
 have a7:=h.lt;obtain⟨l,hl⟩:∃l,f x=l:=⟨_,rfl⟩;rw[hl] at hr ha hS hT HK;obtain⟨ra,rc,a1⟩:=hr.shape;obtain⟨⟨ba,bb,bc,bd⟩,al,rv,S⟩:=l;simp only at ha a1 hr hS hT HK;subst ha a1;obtain⟨w2,W⟩:∃w2,w2=(w.alloc (.cells #[.map (some mb)] 121)).alloc (.cells #[.string ⟨#[]⟩,.bool false,.string ⟨#[]⟩] 118):=⟨_,rfl⟩;obtain⟨K,a8,a6,a0⟩:=iI w _ _ W;have J:=(h.same (K.block mb a7)).look x hx;rw[hl] at J;unfold kT at J;simp only at J;obtain⟨T,V⟩:∃T,dM S=T:=⟨_,rfl⟩;have a4:=aO V;go_enter Tryz.func78,Tryz.ntmps78;go_wp2;rw[<- W,J];clear J W;have a2:w.heap.size+1<w2.heap.size:=by omega
 clear a8;obtain⟨Z,Y⟩:∃Z,Z=w2.alloc (.cells #[.int .u8 ba,.int .u8 bb,.int .u8 bc,.int .u8 bd,.bool true,.slice ra S.length rc] 185):=⟨_,rfl⟩;have E:Below w2.heap.size w2 Z:=by rw[Y];exact(Below.refl _ _).alloc (aA _) _
 have HX:Hid (Calls Tryz.prog 135 #[.slice ra S.length rc] Z λe w'=>e=.returned (.string T)/\Below Z.heap.size Z w'):=by
  have:=aR8 S _ Z ((hr.below K (aA _)).below E (aA _)) hS hT;rw[V] at this;exact this
 clear V hT
 go_wp2_with fail
 rw[<- Y];clear Y;refine HX.out.mono ?_;rintro e w4 ⟨rfl,U⟩;clear HX;have a9:=E.size;have b0:=U.size;have z:Below w.heap.size w w4:=(K.trans (E.mono (by omega))).trans (U.mono (by omega));have I:w4.heap[w.heap.size+1]?=some (.cells #[.string ⟨#[]⟩,.bool false,.string ⟨#[]⟩] 118 (0,0)):=(U.block _ (by omega)).trans ((E.block _ a2).trans a0);obtain⟨r0,r1,r2⟩:=dW I;have z0:=eG I 0;have z1:=eG I 1;have z2:=eG I 2;clear E U a0 a6 K;go_wp2;obtain⟨w5,a3⟩:∃w5,w5=((w4.setCell ⟨w.heap.size+1,0,none⟩ (.string x)).setCell ⟨w.heap.size+1,1,none⟩ (.bool true)).setCell ⟨w.heap.size+1,2,none⟩ (.string T):=⟨_,rfl⟩;obtain⟨s1,s2⟩:=zP w4 _ _ _ w5 (w.heap.size+1) 118 _ rfl _ _ _ I rfl rfl rfl a3;rw[<- a3];have a5:Below w.heap.size w w5:=⟨s2.os.trans z.os,s2.tape.trans z.tape,s2.output.trans z.output,by rw[s2.size];exact z.size,λk hk=>(s2.block k (by omega)).trans (z.block k hk)⟩;refine bodyPost_ret (results_cell_row (p:=4) (ty:=118) (by kernel_rfl) _ _ (w.heap.size+1) 118 _ (0,0) _ rfl s1 Tryz.underlying118 rfl (by kernel_rfl)) rfl ?_;exact⟨by rw[HK.out,a4.out];rfl,a5⟩
inductive fM where
 | add (i l:cL) (rv:Value) (S:List aU)
 | remove (i:cL) (rv:Value) (S:List aU)
 | alter (i:cL) (hv:Value) (Hs:List Hk)
def aAq:fM->Value
 | .add i l rv _=>.agg #[.int .u8 i.a,.int .u8 i.b,.int .u8 i.c,.int .u8 i.d,.int .u8 l.a,.int .u8 l.b,.int .u8 l.c,.int .u8 l.d,rv]
 | .remove i rv _=>.agg #[.int .u8 i.a,.int .u8 i.b,.int .u8 i.c,.int .u8 i.d,rv]
 | .alter i hv _=>.agg #[.int .u8 i.a,.int .u8 i.b,.int .u8 i.c,.int .u8 i.d,hv]
def chT:fM->TypeId
 | .add ..=>282
 | .remove ..=>284
 | .alter ..=>288
def aQp:fM->FuncId
 | .add ..=>336
 | .remove ..=>344
 | .alter ..=>354
def tP:fM->FuncId
 | .add ..=>332
 | .remove ..=>340
 | .alter ..=>350
def chV(c:fM):Value:=.iface (chT c) (aAq c)
def aBm(w:World):fM->Prop
 | .add _ _ rv S=>SV w rv S
 | .remove _ rv S=>SV w rv S
 | .alter _ hv Hs=>HV w hv Hs
theorem aBm.below{w w':World}{c:fM}(h:aBm w c){B:Nat}(E:Below B w w')(z:w.heap.size<=B):aBm w' c:=by
 cases c
 ·exact SV.below h E z
 ·exact SV.below h E z
 ·exact HV.below h E z
theorem aC1{w w':World}{T e:TypeId}{B b:Nat}{p:Value}{J:List Value}(h:Lib.BuilderAtF T e B b p J w)(K:Below w.heap.size w w'):Lib.BuilderAtF T e B b p J w':=by
 have lt:∀{k:Nat} {o:Obj},w.heap[k]?=some o->k<w.heap.size:=λ{k o} U=>by
  rcases yA k w.heap.size with h'|h'
  ·exact h'
  ·rw[eI h'] at U;cases U
 obtain⟨h1,v,h2,⟨h3,E⟩,h5⟩:=h;refine⟨h1,v,(K.block b (lt h2)).trans h2,⟨h3,?_⟩,h5⟩;rcases E with E|⟨g,cap,z,Z,V,W,I,Y⟩
 ·exact .inl E
 ·exact .inr ⟨g,cap,z,Z,V,W,(K.block g (lt I)).trans I,Y⟩
theorem aBr{w w':World}{T e:TypeId}{B b:Nat}{z:List Value}(h:Lib.IsBuilderF T e B b z w)(E:Below w.heap.size w w'):Lib.IsBuilderF T e B b z w':=
 h.elim (λx=>.inl (aC1 x E)) (λx=>.inr (aC1 x E))
theorem aLq (v : Value) (w : World) : (method 512 282 v "stitch/patch.tell").run Tryz.prog w = .ok (336, v) w := by kernel_rfl
theorem aLr (v : Value) (w : World) : (method 512 284 v "stitch/patch.tell").run Tryz.prog w = .ok (344, v) w := by kernel_rfl
theorem aLs (v : Value) (w : World) : (method 512 288 v "stitch/patch.tell").run Tryz.prog w = .ok (354, v) w := by kernel_rfl
theorem aIc (v : Value) (w : World) : (method 512 282 v "stitch/patch.apply").run Tryz.prog w = .ok (332, v) w := by kernel_rfl
theorem aId (v : Value) (w : World) : (method 512 284 v "stitch/patch.apply").run Tryz.prog w = .ok (340, v) w := by kernel_rfl
theorem aIe (v : Value) (w : World) : (method 512 288 v "stitch/patch.apply").run Tryz.prog w = .ok (350, v) w := by kernel_rfl
def CV(w:World)(v:Value)(Cs:List (ByteArray×fM)):Prop:=∃ao cap,v=.slice ao Cs.length cap/\∀(k:Nat) (c:ByteArray×fM),Cs[k]?=some c->∃b o,ao=some ⟨b,o,none⟩/\TB w b 226/\w.cell? ⟨b,o+k * 2,none⟩=some (.string c.1)/\w.cell? ⟨b,o+k * 2+1,none⟩=some (chV c.2)/\aBm w c.2
theorem CV.below{w w':World}{v:Value}{Cs:List (ByteArray×fM)}(h:CV w v Cs){B:Nat}(z:Below B w w')(E:w.heap.size<=B):CV w' v Cs:=by
 obtain⟨I,cap,rfl,U⟩:=h;refine⟨I,cap,rfl,λk r V=>?_⟩;obtain⟨b,o,e,h1,h2,J,K⟩:=U k r V;have W:=h1.lt;exact⟨b,o,e,h1.below z E,(z.cell (p:=⟨b,o+k * 2,none⟩) (by simp;omega)).trans h2,(z.cell (p:=⟨b,o+k * 2+1,none⟩) (by simp;omega)).trans J,K.below z E⟩
theorem aPh(i:cL)(Cs:List (ByteArray×fM))(cv:Value)(Z:Nat)(f:ByteArray->Lat)(has:ByteArray->Bool)(t:Nat->ByteArray)(g:Nat->List UInt8)(w:World)(hc:CV w cv Cs)(hk:KAt w Z f has)(e3:Cs.length<=100000)(d4:∀c∈Cs,c.1.size<=1000)
  (ht:∀(k:Nat) (c:ByteArray×fM),Cs[k]?=some c->∀u,Below w.heap.size w u->Calls Tryz.prog (aQp c.2) #[aAq c.2,.string c.1,kT (f c.1)] u λe w'=>e=.returned (.string (t k))/\Below u.heap.size u w')
  (b0:g 0=[]) (hg:∀k,k<Cs.length->g (k+1)=g k++(t k).data.toList) (b1:∀k,k<=Cs.length->(g k).length<=1000000000) (W:∀k,(t k).size<=1000000000) :
  Calls Tryz.prog 113 #[.agg #[.int .u8 i.a,.int .u8 i.b,.int .u8 i.c,.int .u8 i.d,cv],.agg #[.map (some Z)]] w λe w'=>e=.returned (.string ⟨(g Cs.length).toArray⟩)/\Below w.heap.size w w':=by
 have b5:=aO hc;obtain⟨ca,cc,rfl,c9⟩:=hc;clear c9;have d2:=hk.lt;obtain⟨w3,Y⟩:∃w3,w3=((w.alloc (.cells #[.int .u8 i.a,.int .u8 i.b,.int .u8 i.c,.int .u8 i.d,.slice ca Cs.length cc] 149)).alloc (.cells #[.map (some Z)] 121)).alloc (.cells #[.pointer none,.slice none 0 0] 158):=⟨_,rfl⟩;obtain⟨c6,d5,hA,hR⟩:=nQ w _ _ _ Y;have a6:w3.heap[w.heap.size+1]?=some (.cells #[.map (some Z)] 121 (0,0)):=by
  rw[Y];have s1:(w.alloc (.cells #[.int .u8 i.a,.int .u8 i.b,.int .u8 i.c,.int .u8 i.d,.slice ca Cs.length cc] 149)).heap.size=w.heap.size+1:=by simp
  rw[Below.heap_alloc _ _ _ (by simp)];have:=(aH (w.alloc (.cells #[.int .u8 i.a,.int .u8 i.b,.int .u8 i.c,.int .u8 i.d,.slice ca Cs.length cc] 149)) (.cells #[.map (some Z)] 121)).1;rwa[s1] at this
 have e0:w.heap.size+1+1<w3.heap.size:=by omega
 have c4:w3.cell? ⟨w.heap.size,4,none⟩=some (.slice ca Cs.length cc):=by simp[World.cell?,hA]
 have a3:Hid (Lib.IsBuilderF 158 5 (w.heap.size+1+1) (w.heap.size+1+1) (Lib.byteCells []) w3):=.inl ⟨aA _,.slice none 0 0,hR,aTl (aK _ _ _ _),by simp[Value.ownBlock]⟩;have b6:=aO b0;have HG:=aO hg;have b9:=aO b1;have HT:=aO ht;have c3:=aO W;clear d5 b0 hg b1 ht W hA hR;go_enter Tryz.func113,Tryz.ntmps113;go_wp2;rw[<- Y];clear Y;have c2:=aO a6;clear a6
 go_loopw [11] (λx wr=>∃k:Nat,k<=Cs.length/\x=.int .i64 k/\Hid (Lib.IsBuilderF 158 5 (w.heap.size+1+1) (w.heap.size+1+1) (Lib.byteCells (g k)) wr)/\Below (w.heap.size+1+1) w3 wr) (λx _=>Cs.length - (intOf x).toNat)
 case atStart=>exact⟨0,aE _,rfl,by show Lib.IsBuilderF _ _ _ _ _ _;rw[b6.out];exact a3.out,Below.refl _ _⟩
 case round=>
  clear a3 c4;obtain⟨k,d0,rfl,HB,U⟩:=hrel;have e2:=U.size;have z:Below w.heap.size w wr:=c6.trans (U.mono (by omega));by_cases b3:k<Cs.length
  ·obtain⟨c,V⟩:∃c,Cs[k]?=some c:=⟨_,aC b3⟩;obtain⟨_,_,e1,a9⟩:=b5.out.below z (aA _)
   cases e1
   obtain⟨b,o,rfl,hb,c0,c1,_⟩:=a9 k c V;have d3:=d4 c (aD V);have E:=HT.out k c V;obtain⟨nm,ch⟩:=c;simp only at c0 c1 d3 E;have a2:=HG.out k b3;have b2:=b9.out k d0;have W:=c3.out k;obtain⟨T,hT⟩:∃T,t k=T:=⟨_,rfl⟩;rw[hT] at E a2 W;have b8:=aO a2;obtain⟨A,hA⟩:∃A,g k=A:=⟨_,rfl⟩;rw[hA] at b2;have b7:=aO hA;obtain⟨L,hL⟩:∃L,kT (f nm)=L:=⟨_,rfl⟩;rw[hL] at E;obtain⟨e5,c5⟩:∃cs,L=.agg cs:=⟨_,hL.symm⟩;have J:(Instr.lookup 119 (.map (some Z)) (.string nm) false).run Tryz.prog (wr.alloc (.cells #[.string nm,chV ch] 226))=.ok L (wr.alloc (.cells #[.string nm,chV ch] 226)):=by
    rw[<- hL];refine(hk.same ?_).look nm (by omega);rw[Below.heap_alloc wr _ _ (by have:=z.size;omega)];exact z.block Z d2
   have d1:wr.cell? ⟨w.heap.size+1,0,none⟩=some (.map (some Z)):=by
    have:=(U.block (w.heap.size+1) (by omega)).trans c2.out;simp[World.cell?,this]
   have d9:w.heap.size+1≠wr.heap.size:=by omega
   have b4:(wr.alloc (.cells #[.string nm,chV ch] 226)).cell? ⟨w.heap.size+1,0,none⟩=some (.map (some Z)):=(((Below.refl wr.heap.size wr).alloc (aA _) _).cell (p:=⟨w.heap.size+1,0,none⟩) (by show w.heap.size+1<wr.heap.size;omega)).trans d1;have a1:Below w.heap.size w (wr.alloc (.cells #[.string nm,chV ch] 226)):=z.alloc (by omega) _;have I:=aO (E _ a1);have a0:Hid (Lib.IsBuilderF 158 5 (w.heap.size+1+1) (w.heap.size+1+1) (Lib.byteCells A) (wr.alloc (.cells #[.string nm,chV ch] 226))):=by
    show Lib.IsBuilderF _ _ _ _ _ _;rw[<- hA];exact Lib.IsBuilderF.alloc HB.out _
   clear a2 hT hA hL E HB a9 V;subst c5;have d6:=aLq;have d7:=aLr;have d8:=aLs
   cases ch
   all_goals
    simp only[chV,aAq,chT,aQp] at c1 J a1 I a0 b4
    go_wp2_with fail
    refine I.out.mono ?_;rintro e w5 ⟨rfl,K⟩;have a4:=aBr a0.out K;have e4:wr.heap.size<w5.heap.size:=by have:=K.size;simp at this;omega
    have a7:Below (w.heap.size+1+1) w3 w5:=(U.alloc (by omega) _).trans (K.mono (by simp;omega));have HW:Hid (Calls Tryz.prog 114 #[.pointer (some ⟨w.heap.size+1+1,0,none⟩),.string T] w5 λe w'=>e=.returned (.tuple #[.int .i64 T.size,.nilIface])/\(Lib.BuilderAtF 158 5 (w.heap.size+1+1) (w.heap.size+1+1) (.pointer (some ⟨w.heap.size+1+1,0,none⟩)) (Lib.byteCells A++Lib.strCells T) w'/\Below (w.heap.size+1+1) w5 w'/\Lib.OthersKept 5 (some (w.heap.size+1+1)) w5 w')):=Tryz.Builder_WriteString_k _ _ (Lib.byteCells A) T w5 a4 (by rw[Lib.byteCells_length];omega) (by omega);clear I J b4 c0 c1 d6 d7 d8 a0 a1 a4 K
    go_wp2_with fail
    refine HW.out.mono ?_;rintro e w6 ⟨rfl,a5,c7,_⟩;clear HW;rw[Lib.strCells_eq,<- oD] at a5;have a8:=a7.trans c7;go_wp2
    go_roundw
    case rel=>exact⟨k+1,by omega,by go_num,.inr (by rw[b8.out,b7.out];exact a5),a8⟩
    case measure=>simp[intOf];omega
  ·have e:k=Cs.length:=by omega
   subst e;have HS:Hid (Calls Tryz.prog 116 #[.pointer (some ⟨w.heap.size+1+1,0,none⟩)] wr λe w'=>e=.returned (.string ⟨(g Cs.length).toArray⟩)/\(Lib.IsBuilderF 158 5 (w.heap.size+1+1) (w.heap.size+1+1) (Lib.byteCells (g Cs.length)) w'/\Below (w.heap.size+1+1) wr w'/\Lib.OthersKept 5 (some (w.heap.size+1+1)) wr w')):=Tryz.Builder_String_any_k _ _ (g Cs.length) wr HB.out (by omega);clear HB
   go_wp2_with fail
   refine HS.out.mono ?_;rintro e w4 ⟨rfl,_,c8,_⟩;clear HS;go_wp2;go_ret;exact⟨rfl,z.trans (c8.mono (by omega))⟩
theorem aMb(w:World)(g:Nat)(z:Array Value)(t:TypeId)(W:z.size=4)(J:w.heap[g]?=some (.cells z t (0,0)))(a b c d:UInt8):
  (Builtin.copy_ #[156,9] 3 #[.slice (some ⟨g,0,none⟩) 4 4,.string ⟨#[a,b,c,d]⟩]).run Tryz.prog w=.ok (goInt 4) (w.setRow g #[.int .u8 a.toNat,.int .u8 b.toNat,.int .u8 c.toNat,.int .u8 d.toNat]):=by
 obtain⟨i0,hi,K,U,V⟩:=info_parts Tryz.info5;have E:=run_storeCells_at Tryz.prog g 0 t [.int .u8 a.toNat,.int .u8 b.toNat,.int .u8 c.toNat,.int .u8 d.toNat] 0 z w J (by simp;omega) (by intro v hv;simp only[cC,fN,or_false] at hv;rcases hv with rfl|rfl|rfl|rfl<;>rfl);have I:z.toList.drop 4=[]:=by rw[vC];simp;omega
 simp[I] at E;have hs:(⟨#[a,b,c,d]⟩:ByteArray).size=4:=rfl;simp[Builtin.copy_,run_underlying Tryz.underlying156,Builtin.lenOf,Builtin.firstCells,sizeOf,typeInfo,hi,hs,E]
theorem aQn(w K U V w4 Y:World)(g:Nat)(t:TypeId)(c:Array Value)(hc:c.size=4)(z E I J:Value)(hg:w.heap[g]?=some (.cells c t (0,0)))
  (e1:K=w.setCell ⟨g,0,none⟩ z) (e2:U=K.setCell ⟨g,1,none⟩ E) (e3:V=U.setCell ⟨g,2,none⟩ I) (e4:w4=V.setCell ⟨g,3,none⟩ J) (e9:Y=w4) :
  Y.heap[g]?=some (.cells #[z,E,I,J] t (0,0))/\iN g w Y:=by
 have g1:=heap_setCell_same w g 0 _ t z hg;have Z:=iN.set w g 0 z;rw[<- e1] at g1 Z;have g2:=heap_setCell_same K g 1 _ t E g1;have o2:=Z.trans (iN.set K g 1 E);rw[<- e2] at g2 o2;have g3:=heap_setCell_same U g 2 _ t I g2;have o3:=o2.trans (iN.set U g 2 I);rw[<- e3] at g3 o3;have W:=heap_setCell_same V g 3 _ t J g3;have o4:=o3.trans (iN.set V g 3 J);rw[<- e4] at W o4;have ha:(((c.setIfInBounds 0 z).setIfInBounds 1 E).setIfInBounds 2 I).setIfInBounds 3 J=#[z,E,I,J]:=by
  obtain⟨l⟩:=c
  match l,hc with
  | [y0,y1,y2,y3],_=>simp
 rw[ha] at W;rw[e9];exact⟨W,o4⟩
theorem iV{w:World}{g:Nat}{z E I J:Value}{t:TypeId}{f:Nat×Nat}(h:w.heap[g]?=some (.cells #[z,E,I,J] t f)):w.cell? ⟨g,0,none⟩=some z/\w.cell? ⟨g,1,none⟩=some E/\w.cell? ⟨g,2,none⟩=some I/\w.cell? ⟨g,3,none⟩=some J:=by
 simp[World.cell?,h]
theorem aF5(a b c d:UInt8)(w:World):
  Calls Tryz.prog 70 #[.string ⟨#[a,b,c,d]⟩] w λe w'=>e=.returned (.agg #[.int .u8 a.toNat,.int .u8 b.toNat,.int .u8 c.toNat,.int .u8 d.toNat])/\Below w.heap.size w w':=by
 obtain⟨U,K⟩:∃U,U=(w.alloc (.cells #[.int .u8 0,.int .u8 0,.int .u8 0,.int .u8 0] 113)).alloc (.cells #[.int .u8 0,.int .u8 0,.int .u8 0,.int .u8 0] 113):=⟨_,rfl⟩;obtain⟨Y,a2,Z,J⟩:=iI w _ _ K;have I:=aMb U (w.heap.size+1) _ 113 rfl J a b c d;go_enter Tryz.func70,Tryz.ntmps70;go_wp2;rw[<- K,I];clear I K;obtain⟨V,E⟩:∃V,V=U.setRow (w.heap.size+1) #[.int .u8 a.toNat,.int .u8 b.toNat,.int .u8 c.toNat,.int .u8 d.toNat]:=⟨_,rfl⟩;have z:Below w.heap.size w V:=by rw[E];exact Y.trans ⟨rfl,rfl,rfl,by simp[World.setRow],λk hk=>setRow_other U _ k _ (by omega)⟩
 have h1:V.heap[w.heap.size+1]?=some (.cells #[.int .u8 a.toNat,.int .u8 b.toNat,.int .u8 c.toNat,.int .u8 d.toNat] 113 (0,0)):=by rw[E];exact setRow_heap U _ _ _ 113 _ J
 have W:V.heap[w.heap.size]?=some (.cells #[.int .u8 0,.int .u8 0,.int .u8 0,.int .u8 0] 113 (0,0)):=by rw[E,setRow_other U _ _ _ (by omega)];exact Z
 rw[<- E];clear E Y a2 Z J;obtain⟨p0,p1,p2,p3⟩:=iV h1;obtain⟨r0,r1,r2,r3⟩:=iV W;have z0:=eG W 0;have z1:=eG W 1;have z2:=eG W 2;have z3:=eG W 3;go_wp2;obtain⟨w5,a0⟩:∃w5,w5=(((V.setCell ⟨w.heap.size,0,none⟩ (.int .u8 a.toNat)).setCell ⟨w.heap.size,1,none⟩ (.int .u8 b.toNat)).setCell ⟨w.heap.size,2,none⟩ (.int .u8 c.toNat)).setCell ⟨w.heap.size,3,none⟩ (.int .u8 d.toNat):=⟨_,rfl⟩;obtain⟨s1,s2⟩:=aQn V _ _ _ _ w5 w.heap.size 113 _ rfl _ _ _ _ W rfl rfl rfl rfl a0;rw[<- a0];have a1:Below w.heap.size w w5:=⟨s2.os.trans z.os,s2.tape.trans z.tape,s2.output.trans z.output,by rw[s2.size];exact z.size,λk hk=>(s2.block k (by omega)).trans (z.block k hk)⟩;refine bodyPost_ret (results_cell_row (p:=2) (ty:=113) (by kernel_rfl) _ _ w.heap.size 113 _ (0,0) _ rfl s1 Tryz.underlying113 rfl (by kernel_rfl)) rfl ?_;exact⟨rfl,a1⟩
def rE(t:ByteArray):Value:=.agg #[.string t]
def FK(w:World)(mb:Nat)(f:ByteArray->Option ByteArray)(n:Nat):Prop:=∃(D:DataW Value),w.ownsMap Tryz.prog 9 gU mb n D/\(∀x,D.atKey (kl x) (.held (rE ⟨#[]⟩))=.held (rE ((f x).getD ⟨#[]⟩)))/\(∀x,Maps.has D (kl x)=(f x).isSome)
theorem bBj(w:World):(zeroValue 105).run Tryz.prog w=.ok (rE ⟨#[]⟩) w:=Tryz.zeroValue105 w
theorem aFy(t:ByteArray):gU (rE t)=some (.held (rE t),[]):=rfl
theorem FK.lt{w:World}{z n:Nat}{f:ByteArray->Option ByteArray}(h:FK w z f n):z<w.heap.size:=by
 obtain⟨D,h1,_⟩:=h;exact h1.lt
theorem FK.same{w w':World}{E n:Nat}{f:ByteArray->Option ByteArray}(h:FK w E f n)(J:w'.heap[E]?=w.heap[E]?):FK w' E f n:=by
 obtain⟨D,⟨I,z,K,U⟩,h2⟩:=h;exact⟨D,⟨I,z,J.trans K,U⟩,h2⟩
theorem FK.look{w:World}{z n:Nat}{f:ByteArray->Option ByteArray}(h:FK w z f n)(x:ByteArray)(J:x.size<=1000000):(Instr.lookup 85 (.map (some z)) (.string x) true).run Tryz.prog w=.ok (.tuple #[rE ((f x).getD ⟨#[]⟩),.bool (f x).isSome]) w:=by
 obtain⟨D,h1,h2,E⟩:=h;obtain⟨v,K,I,hv⟩:=h1.look_ok (fT Tryz.underlying9) Tryz.underlying85 (bBj w) (aFy ⟨#[]⟩) (aDg (s:=x) (by unfold maxLen;omega));rw[h2 x] at hv;rw[I,oR hv,E x]
theorem FK.made(w:World):FK (w.alloc (.map #[] 0)) w.heap.size (λ_=>none) 0:=⟨.map [],aQg w _ _ _,λ_=>rfl,λ_=>rfl⟩
theorem FK.put{w:World}{z n:Nat}{f:ByteArray->Option ByteArray}(h:FK w z f n)(V:n+1<=1000000)(a t:ByteArray)(U:a.size<=1000000):
  ∃w',(Instr.mapUpdate 85 (.map (some z)) (.string a) (rE t)).run Tryz.prog w=.ok () w'/\FK w' z (λx=>if x=a then some t else f x) (n+1)/\w.grownBy w' (some z):=by
 obtain⟨D,h1,h2,E⟩:=h;obtain⟨w',K,J,I⟩:=h1.update (fT Tryz.underlying9) Tryz.underlying85 (by unfold maxLen;omega) (aDg (s:=a) (by unfold maxLen;omega)) (aFy t);refine⟨w',K,⟨_,J,λx=>?_,λx=>?_⟩,I⟩
 ·show _=DataW.held (rE ((if x=a then some t else f x).getD ⟨#[]⟩));by_cases e:x=a
  ·subst e;rw[xA h1.isMap (aB5 x),if_pos rfl];rfl
  ·rw[vD (λq=>e (wF q)),h2,if_neg e]
 ·show _=(if x=a then some t else f x).isSome;by_cases e:x=a
  ·subst e;rw[aBj h1.isMap (aB5 x),if_pos rfl];rfl
  ·rw[zF (λq=>e (wF q)),E,if_neg e]
theorem aC8(f:ByteArray->Option ByteArray)(mb n rb ro:Nat)(x:ByteArray)(hx:x.size<=1000000)(w:World)(h:FK w mb f n)(hr:w.cell? ⟨rb,ro+1,none⟩=some (.map (some mb)))(a5:rb<w.heap.size):
  Calls Tryz.prog 179 #[.pointer (some ⟨rb,ro,none⟩),.string x] w λe w'=>e=.returned (aFz x (f x).isSome ((f x).getD ⟨#[]⟩))/\Below w.heap.size w w':=by
 have a2:=h.lt;obtain⟨K,I⟩:∃K,K=w.alloc (.cells #[.string ⟨#[]⟩,.bool false,.string ⟨#[]⟩] 118):=⟨_,rfl⟩;have z:Below w.heap.size w K:=by rw[I];exact(Below.refl _ _).alloc (aA _) _
 have E:K.heap[w.heap.size]?=some (.cells #[.string ⟨#[]⟩,.bool false,.string ⟨#[]⟩] 118 (0,0)):=by rw[I];exact(aH w _).1
 have Y:w.heap.size<K.heap.size:=by rw[I];simp
 have J:=(h.same (z.block mb a2)).look x hx;obtain⟨t,ht⟩:∃t,(f x).getD ⟨#[]⟩=t:=⟨_,rfl⟩;obtain⟨bo,U⟩:∃b,(f x).isSome=b:=⟨_,rfl⟩;rw[ht,U] at J;have HT:=aO ht;have a0:=aO U;unfold rE at J;clear ht U;go_enter Tryz.func179,Tryz.ntmps179;go_wp2;rw[<- I,J];clear J I;obtain⟨r0,r1,r2⟩:=dW E;have z0:=eG E 0;have z1:=eG E 1;have z2:=eG E 2;have a4:w.heap.size≠K.heap.size:=by omega
 go_wp2;obtain⟨V,Z⟩:∃V,V=((K.setCell ⟨w.heap.size,0,none⟩ (.string x)).setCell ⟨w.heap.size,1,none⟩ (.bool bo)).setCell ⟨w.heap.size,2,none⟩ (.string t):=⟨_,rfl⟩;obtain⟨s1,W⟩:=zP K _ _ _ V w.heap.size 118 _ rfl _ _ _ E rfl rfl rfl Z;rw[<- Z];have a3:w.heap.size<V.heap.size:=by rw[W.size];exact Y
 have a1:Below w.heap.size w V:=⟨W.os.trans z.os,W.tape.trans z.tape,W.output.trans z.output,by rw[W.size];exact z.size,λk hk=>(W.block k (by omega)).trans (z.block k hk)⟩;have s9:(V.alloc (.cells #[.string t] 105)).heap[w.heap.size]?=_:=(Below.heap_alloc V _ _ a3).trans s1;refine bodyPost_ret (results_cell_row (p:=4) (ty:=118) (by kernel_rfl) _ _ w.heap.size 118 _ (0,0) _ rfl s9 Tryz.underlying118 rfl (by kernel_rfl)) rfl ?_;exact⟨by rw[HT.out,a0.out];rfl,a1.alloc (by omega) _⟩
end Go.Proofs.YtgdfipmdmgkidaaGreatDoor
