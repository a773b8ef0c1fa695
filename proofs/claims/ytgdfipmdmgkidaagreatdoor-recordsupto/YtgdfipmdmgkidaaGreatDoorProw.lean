import Derived.Test.YtgdfipmdmgkidaaGreatDoorWids
import Derived.Laws.AppendOwnNone
import Derived.Lib.BufferMore
import Derived.Deep.QuietTactic
import Derived.BigQuiet
import Derived.Test.YtgdfipmdmgkidaaGreatDoorAl
set_option linter.all false
set_option maxHeartbeats 3200000
set_option maxRecDepth 100000
namespace Go.Proofs.YtgdfipmdmgkidaaGreatDoor
open Go.RowKit
abbrev aBj:=@Maps.has_put_same
abbrev aH:=@MapKept.heap_alloc
abbrev aK:=@World.ownsRow_nil
abbrev aQg:=@World.ownsMap_made
abbrev aTl:=@World.ownsRowF_of
abbrev dQ:=@World.ownsRow.cellAt
abbrev eZ:=@World.ownsRow.cells
abbrev fT:=@Maps.string_keyed
abbrev lC:=@Value.slice.injEq
abbrev nX:=@World.cell?_of_block
abbrev qG:=@World.grownBy.refl
abbrev vD:=@Maps.atKey_put_other
abbrev xA:=@Maps.atKey_put_same
abbrev zF:=@Maps.has_put_other
structure aU where
 a:Int
 b:Int
 c:Int
 d:Int
 num:Int
 line:ByteArray
 alive:Bool
 deriving DecidableEq
abbrev spC(s:aU):List Value:=[.int .u8 s.a,.int .u8 s.b,.int .u8 s.c,.int .u8 s.d,.int .i64 s.num,.string s.line,.bool s.alive]
abbrev gN(S:List aU):List Value:=S.flatMap spC
def spV(s:aU):Value:=.agg #[.int .u8 s.a,.int .u8 s.b,.int .u8 s.c,.int .u8 s.d,.int .i64 s.num,.string s.line,.bool s.alive]
theorem wO(S:List aU):(gN S).length=S.length * 7:=by
 induction S with
 | nil=>rfl
 | cons s S ih=>simp only[gN,bL,aJ,aY] at *;rw[ih];simp;omega
theorem aPm(S:List aU)(k:Nat)(s:aU)(h:S[k]?=some s)(j:Nat)(z:j<7):(gN S)[k * 7+j]?=(spC s)[j]?:=by
 induction S generalizing k with
 | nil=>simp at h
 | cons q S ih=>
  cases k with
  | zero=>
   simp at h;subst h;simp only[gN,bL,Nat.zero_mul,dC];rw[aZ (by simpa using z)]
  | succ k=>
   simp only[fB] at h;simp only[gN,bL];rw[bH (by simp;omega)];have e:(k+1) * 7+j - (spC q).length=k * 7+j:=by simp;omega
   rw[e];exact ih k h
theorem aPn(S:List aU):∀u∈gN S,u.oneCell'=true:=by
 intro u z;obtain⟨s,_,hs⟩:=dD.1 z;simp only[cC,fN,or_false] at hs;rcases hs with rfl|rfl|rfl|rfl|rfl|rfl|rfl<;>rfl
theorem wN(S T:List aU):gN (S++T)=gN S++gN T:=eE
def TB(w:World)(b:Nat)(t:TypeId):Prop:=∃A fz,w.heap[b]?=some (.cells A t fz)
theorem TB.lt{w:World}{b:Nat}{t:TypeId}(h:TB w b t):b<w.heap.size:=by
 obtain⟨A,z,h⟩:=h;exact(aV.1 h).1
theorem TB.same{w w':World}{b:Nat}{t:TypeId}(h:TB w b t)(hs:w'.heap[b]?=w.heap[b]?):TB w' b t:=by
 obtain⟨A,z,h⟩:=h;exact⟨A,z,hs.trans h⟩
theorem TB.below{w w':World}{b:Nat}{t:TypeId}(h:TB w b t){B:Nat}(E:Below B w w')(z:w.heap.size<=B):TB w' b t:=h.same (E.block b (bJ h.lt z))
theorem bN{w w':World}{b:Nat}(hs:w'.heap[b]?=w.heap[b]?)(o:Nat):w'.cell? ⟨b,o,none⟩=w.cell? ⟨b,o,none⟩:=by
 unfold World.cell?;rw[hs]
def SV(w:World)(v:Value)(S:List aU):Prop:=(v=.slice none 0 0/\S=[])\/∃b o cap,v=.slice (some ⟨b,o,none⟩) S.length cap/\S.length<=cap/\TB w b 313/\∀(j:Nat) (u:Value),(gN S)[j]?=some u->w.cell? ⟨b,o+j,none⟩=some u
theorem SV.below{w w':World}{v:Value}{S:List aU}(h:SV w v S){B:Nat}(I:Below B w w')(J:w.heap.size<=B):SV w' v S:=by
 rcases h with h|⟨b,o,cap,rfl,E,z,K⟩
 ·exact .inl h
 ·refine .inr ⟨b,o,cap,rfl,E,z.below I J,λj v U=>?_⟩;have V:=z.lt;exact(I.cell (p:=⟨b,o+j,none⟩) (by simp;omega)).trans (K j v U)
theorem SV.own{w:World}{B:Nat}{v:Value}{S:List aU}(h:w.ownsRow B 313 7 v S.length (gN S)):SV w v S:=by
 have J:=λg=>eZ h (g:=g);rcases h.2 with ⟨h1,I⟩|⟨g,cp,z,h1,_,K,E,_⟩
 ·exact .inl ⟨h1,aS I⟩
 ·subst h1;refine .inr ⟨g,0,cp,rfl,E,⟨z,_,K⟩,λj v U=>?_⟩;have:=J g rfl j v U;rw[dC];rw[<- this]
  cases j<;>simp[Addr.add]
theorem SV.shape{w:World}{v:Value}{S:List aU}(h:SV w v S):∃z cap,v=.slice z S.length cap:=by
 rcases h with ⟨rfl,rfl⟩|⟨b,o,cap,rfl,_⟩
 ·exact⟨_,_,rfl⟩
 ·exact⟨_,_,rfl⟩
theorem SV.at{w:World}{E:Option Addr}{n cap:Nat}{S:List aU}(h:SV w (.slice E n cap) S){k:Nat}{s:aU}(I:S[k]?=some s):
  ∃b o,E=some ⟨b,o,none⟩/\b<w.heap.size/\w.cell? ⟨b,o+k * 7,none⟩=some (.int .u8 s.a)/\w.cell? ⟨b,o+k * 7+1,none⟩=some (.int .u8 s.b)/\w.cell? ⟨b,o+k * 7+2,none⟩=some (.int .u8 s.c)/\
   w.cell? ⟨b,o+k * 7+3,none⟩=some (.int .u8 s.d)/\w.cell? ⟨b,o+k * 7+4,none⟩=some (.int .i64 s.num)/\w.cell? ⟨b,o+k * 7+5,none⟩=some (.string s.line)/\w.cell? ⟨b,o+k * 7+6,none⟩=some (.bool s.alive):=by
 rcases h with ⟨_,rfl⟩|⟨b,o,cap,h1,_,J,z⟩
 ·simp at I
 ·cases h1
  have g:=λj K=>aPm S k s I j K;refine⟨b,o,rfl,J.lt,?_,?_,?_,?_,?_,?_,?_⟩
  ·have:=z (k * 7+0) _ (g 0 (by omega));rw[<- dB] at this;exact this
  all_goals rw[dB]
  ·exact z (k * 7+1) _ (g 1 (by omega))
  ·exact z (k * 7+2) _ (g 2 (by omega))
  ·exact z (k * 7+3) _ (g 3 (by omega))
  ·exact z (k * 7+4) _ (g 4 (by omega))
  ·exact z (k * 7+5) _ (g 5 (by omega))
  ·exact z (k * 7+6) _ (g 6 (by omega))
theorem SV.part{w:World}{b o cap:Nat}{S:List aU}{n:Nat}(h:SV w (.slice (some ⟨b,o,none⟩) n cap) S)(x y:Nat)(I:x<=y)(hy:y<=S.length):SV w (.slice (some ⟨b,o+x * 7,none⟩) (y - x) (cap - x)) ((S.take y).drop x):=by
 rcases h with ⟨h1,_⟩|⟨b',o',J,h1,K,W,Y⟩
 ·cases h1
 ·cases h1
  have Z:((S.take y).drop x).length=y - x:=by simp;omega
  refine .inr ⟨b,o+x * 7,cap - x,by rw[Z],by omega,W,λj u U=>?_⟩;have V:S=S.take x++((S.take y).drop x++S.drop y):=by
   conv=>lhs;rw[<- bV y S]
   rw[<- bG];congr 1
   conv=>lhs;rw[<- bV x (S.take y)]
   rw[zD,pV I]
  have e:(gN S)[x * 7+j]?=some u:=by
   have E:(gN (S.take x)).length=x * 7:=by rw[wO,bR,pV (by omega)]
   have z:j<(gN ((S.take y).drop x)).length:=(aB.1 U).1;rw[V,wN,wN,bH (by omega),E,aD8,aZ z];exact U
  have:=Y _ _ e;rw[dB];exact this
theorem Tryz.info3:(Tryz.prog.info? 3).map (λi=>(i.zero,i.size,i.bytes))=some (some (.int .i64 0),1,8):=by kernel_rfl
abbrev aRu(L:List Nat):List Value:=L.map λn:Nat=>Value.int .i64 n
theorem aXo(L:List Nat):∀u∈aRu L,u.oneCell'=true:=by
 intro u z;obtain⟨_,_,rfl⟩:=aI.1 z;rfl
theorem aZs(w:World)(o:Obj)(v:Value)(t:TypeId):∀j u,[v][j]?=some u->((w.alloc o).alloc (.cells #[v] t)).cell? ((⟨w.heap.size+1,0,none⟩:Addr).add j)=some u:=by
 have h:=iY (w.alloc o) v t;simpa using h
theorem qP{B J:Nat}{w wr K:World}{v:Value}{n size:Nat}{e:TypeId}{W:List Value}(Y:B<=J)(z:wr.ownsRow J e size v n W)(E:Below B w wr)(I:B<=wr.heap.size)(U:wr.grownBy K v.ownBlock):
  Below B w K:=E.grown U I (λk V=>by have:=z.lt k V;omega)
def fC(S:List aU):Nat->List Nat
 | 0=>[]
 | k+1=>if (S[k]?).any (·.alive) then fC S k++[k] else fC S k
def living(S:List aU):List Nat:=fC S S.length
theorem aB9(S:List aU)(k:Nat):(fC S k).length<=k:=by
 induction k with
 | zero=>simp[fC]
 | succ k ih=>
  unfold fC;split
  ·simp only[aJ,eY];omega
  ·omega
theorem sA(S:List aU)(v0:Value)(w:World)(hv:SV w v0 S)(a0:S.length<=1000000):
  Calls Tryz.prog 237 #[v0] w λe w'=>∃v,e=.returned v/\w'.ownsRow w.heap.size 3 1 v (living S).length (aRu (living S))/\Below w.heap.size w w':=by
 obtain⟨i0,hi,W,Y,Z⟩:=info_parts Tryz.info3;obtain⟨ao,cap,rfl⟩:=hv.shape;go_enter Tryz.func237,Tryz.ntmps237;go_wp2
 go_loopw [3,8] (λv i wr=>∃k:Nat,k<=S.length/\i=.int .i64 k/\wr.ownsRow w.heap.size 3 1 v (fC S k).length (aRu (fC S k))/\Below w.heap.size w wr) (λ_ i _=>S.length - (intOf i).toNat)
 case atStart=>exact⟨0,aE _,rfl,by simpa[fC] using aK _ _ _ _,Below.refl _ _⟩
 case round=>
  obtain⟨k,hk,rfl,z,E⟩:=hrel;have K:w.heap.size<=wr.heap.size:=E.size;have a1:=aB9 S k;by_cases V:k<S.length
  ·obtain⟨s,hs⟩:∃s,S[k]?=some s:=⟨_,aC V⟩;obtain⟨b,o,rfl,hb,c0,c1,c2,c3,c4,c5,c6⟩:=(hv.below E (aA _)).at hs
   cases J:s.alive
   ·have U:Hid (fC S (k+1)=fC S k):=by show _=_;simp[fC,hs,J]
    rw[J] at c6;clear hs J hv;go_wp2
    go_roundw
    case rel=>exact⟨k+1,by omega,by go_num,by rw[U.out];exact z.alloc _,E.alloc K _⟩
    case measure=>simp[intOf];omega
   ·have U:Hid (fC S (k+1)=fC S k++[k]):=by show _=_;simp[fC,hs,J]
    rw[J] at c6;clear hs J hv
    go_wp2_with (at_builtin;refine wpList_append_own _ rfl _ _ 25 rfl w.heap.size 3 i0 (.int .i64 0) 1 8 Tryz.underlying25 hi W Y Z rfl (by decide) _ _ _ rfl ((z.alloc _).alloc _) ⟨wr.heap.size+1,0,none⟩ 1 1 [.int .i64 k] rfl rfl ?c1 (aXo [k]) (by unfold maxLen;omega) (by omega) (by simp;omega) ?_)
    case c1=>exact aZs _ _ _ _
    intro v' w1 I hg _;have R:=qP (aA _) ((z.alloc _).alloc _) ((E.alloc K _).alloc (by simp;omega) _) (by simp;omega) hg;have O:w1.ownsRow w.heap.size 3 1 v' (fC S k++[k]).length (aRu (fC S k++[k])):=by simpa using I
    clear I hg z E;go_wp2
    go_roundw
    case rel=>exact⟨k+1,by omega,by go_num,by rw[U.out];exact O,R⟩
    case measure=>simp[intOf];omega
  ·have e:k=S.length:=by omega
   have HE:Hid (fC S k=living S):=by show _=_;unfold living;rw[e]
   clear e;go_wp2;go_ret;rw[HE.out] at z;exact⟨_,rfl,z,E⟩
theorem sU{S:List aU}{k i:Nat}(h:i∈fC S k):i<k/\∃s,S[i]?=some s/\s.alive=true:=by
 induction k with
 | zero=>simp[fC] at h
 | succ k ih=>
  unfold fC at h;split at h
  ·rename_i z
   rcases aG.1 h with h|h
   ·have:=ih h;exact⟨by omega,this.2⟩
   ·simp at h;subst h
    cases hs:S[i]? with
    | none=>rw[hs] at z;simp at z
    | some s=>rw[hs] at z;exact⟨by omega,s,rfl,by simpa using z⟩
  ·have:=ih h;exact⟨by omega,this.2⟩
theorem aOy{S:List aU}{k i:Nat}(h:i∈fC S k):i<S.length:=by
 obtain⟨_,s,hs,_⟩:=sU h;exact(aB.1 hs).1
def oA(S:List aU)(i:Nat):ByteArray:=((S[i]?).map (·.line)).getD ByteArray.empty
def aL(S:List aU):List ByteArray:=(living S).map (oA S)
def cA(S:List aU):List aU:=S.filter (·.alive)
theorem rL(S:List aU)(k:Nat)(I:k<=S.length):(fC S k).map (oA S)=((S.take k).filter (·.alive)).map (·.line):=by
 induction k with
 | zero=>simp[fC]
 | succ k ih=>
  have z:k<S.length:=by omega
  have hs:S[k]?=some S[k]:=aC z;rw[aF z,iM,bF,<- ih (by omega)];have e:fC S (k+1)=if (S[k]?).any (·.alive) then fC S k++[k] else fC S k:=rfl;rw[e,hs]
  cases E:S[k].alive
  ·simp[E]
  ·simp[E,oA,hs]
theorem gX(S:List aU):aL S=(cA S).map (·.line):=by
 unfold aL living cA;rw[rL S _ (aA _),bD]
def NV(w:World)(v:Value)(L:List Nat):Prop:=∃ao cap,v=.slice ao L.length cap/\∀k,(h:k<L.length)->∃b o,ao=some ⟨b,o,none⟩/\b<w.heap.size/\w.cell? ⟨b,o+k,none⟩=some (.int .i64 (L[k]:Nat))
theorem NV.own{w:World}{B:Nat}{v:Value}{L:List Nat}(h:w.ownsRow B 3 1 v L.length (aRu L)):NV w v L:=by
 have z:=h.lt;have K:=λg=>eZ h (g:=g);rcases h.2 with ⟨h1,J⟩|⟨g,cp,I,h1,_,V,U,_⟩
 ·exact⟨none,0,by rw[h1,J],λk E=>by omega⟩
 ·subst h1;refine⟨_,_,rfl,λk E=>⟨g,0,rfl,(z g rfl).2,?_⟩⟩;have:=K g rfl k (.int .i64 (L[k]:Nat)) (by simp[E]);rw[dC];rw[<- this]
  cases k<;>simp[Addr.add]
theorem NV.below{w w':World}{v:Value}{L:List Nat}(h:NV w v L){B:Nat}(z:Below B w w')(K:w.heap.size<=B):NV w' v L:=by
 obtain⟨E,cap,rfl,I⟩:=h;refine⟨E,cap,rfl,λk J=>?_⟩;obtain⟨b,o,e,h1,h2⟩:=I k J;exact⟨b,o,e,bJ h1 z.size,(z.cell (p:=⟨b,o+k,none⟩) (by simp;omega)).trans h2⟩
theorem uC(S:List aU)(v0:Value)(w:World)(hv:SV w v0 S)(Z:S.length<=1000000):
  Calls Tryz.prog 200 #[v0] w λe w'=>∃v,e=.returned v/\w'.ownsRow w.heap.size 9 1 v (aL S).length (bW (aL S))/\Below w.heap.size w w':=by
 obtain⟨i0,hi,a5,a6,a7⟩:=info_parts Tryz.info9;have HL:=sA S v0 w hv Z;obtain⟨ao,cap,rfl⟩:=hv.shape;have HH:=aO HL;clear HL;go_enter Tryz.func200,Tryz.ntmps200
 go_wp2_with fail
 refine HH.out.mono ?_;rintro e V ⟨lv,rfl,a0,K⟩;have b3:(living S).length<=S.length:=aB9 S _;have a1:Hid (∀i∈living S,i<S.length):=λi hi=>aOy hi;obtain⟨la,lc,rfl,Y⟩:=NV.own a0;have HN:Hid (NV V (.slice la (living S).length lc) (living S)):=⟨_,_,rfl,Y⟩;have a4:=hv.below K (aA _);have J:w.heap.size<=V.heap.size:=K.size;clear Y hv a0;go_wp2
 go_loopw [3,9] (λv i wr=>∃k:Nat,k<=(living S).length/\i=.int .i64 k/\wr.ownsRow V.heap.size 9 1 v (((living S).take k).map (oA S)).length (bW (((living S).take k).map (oA S)))/\Below V.heap.size V wr) (λ_ i _=>(living S).length - (intOf i).toNat)
 case atStart=>exact⟨0,aE _,rfl,by simpa using aK _ _ _ _,Below.refl _ _⟩
 case round=>
  obtain⟨k,hk,rfl,z,E⟩:=hrel;have a3:V.heap.size<=wr.heap.size:=E.size;have b2:(((living S).take k).map (oA S)).length<=k:=by simp;omega
  by_cases U:k<(living S).length
  ·obtain⟨_,_,e1,W⟩:=HN.out.below E (aA _)
   cases e1
   obtain⟨b1,o1,rfl,a8,c1⟩:=W k U;have a2:(living S)[k]<S.length:=a1.out _ (bZ U);obtain⟨s,hs⟩:∃s,S[(living S)[k]]?=some s:=⟨_,aC a2⟩;obtain⟨b,o,rfl,hb,_,_,_,_,_,c5,_⟩:=(a4.below E (aA _)).at hs;have HS:Hid (((living S).take (k+1)).map (oA S)=((living S).take k).map (oA S)++[s.line]):=by
    show _=_;rw[aF U,bF];simp[oA,hs]
   generalize (living S)[k]=q at *;generalize ((living S).take k).map (oA S)=L at *;clear hs W;have a9:(0:Int)<=(q:Int):=by omega
   have b0:(q:Int)<(S.length:Int):=by omega
   go_wp2_with (at_builtin;refine wpList_append_own _ rfl _ _ 35 rfl V.heap.size 9 i0 (.string ⟨#[]⟩) 1 16 Tryz.underlying35 hi a5 a6 a7 rfl (by decide) _ _ _ rfl (z.alloc _) ⟨wr.heap.size,0,none⟩ 1 1 [.string s.line] rfl rfl (iY _ _ _) (eX [_]) (by unfold maxLen;omega) (by omega) (by simp;omega) ?_)
   intro v' w2 I hg _;have R:=iZ (aA _) z E a3 I hg;clear I hg z E;go_wp2
   go_roundw
   case rel=>exact⟨k+1,by omega,by go_num,by rw[HS.out];exact R.1,R.2.1⟩
   case measure=>simp[intOf];omega
  ·have e:k=(living S).length:=by omega
   have HE:Hid (((living S).take k).map (oA S)=aL S):=by show _=_;rw[e,bD];rfl
   clear e;go_wp2;go_ret;rw[HE.out] at z;exact⟨_,rfl,bK z J,K.trans (E.mono J)⟩
def gE(n:Int):aU:=⟨0,0,0,0,n,ByteArray.empty,true⟩
def jR:aU:=gE (-1)
def lD:aU:=gE (-2)
theorem aTb(w:World)(S:List aU)(v:Array Value)(hv:v.toList=gN S)(z:S.length<=1000000):(w.alloc (.cells v 313)).ownsRow w.heap.size 313 7 (.slice (some ⟨w.heap.size,0,none⟩) S.length S.length) S.length (gN S):=by
 refine⟨wO S,.inr ⟨w.heap.size,S.length,v,rfl,aA _,(aH w _).1,aA _,by unfold maxLen;omega,?_,?_⟩⟩
 ·rw[<- wO,<- hv];simp
 ·rw[hv,<- wO];exact bD
theorem aC7(n:Int)(w:World):
  Calls Tryz.prog 268 #[.int .i64 n] w λe w'=>∃v,e=.returned v/\w'.ownsRow w.heap.size 313 7 v 1 (gN [gE n])/\Below w.heap.size w w':=by
 go_enter Tryz.func268,Tryz.ntmps268;go_wp2;go_ret;refine⟨_,rfl,aTb w [gE n] _ ?_ (by simp),(Below.refl _ _).alloc (aA _) _⟩;rfl
theorem Tryz.info313:(Tryz.prog.info? 313).map (λi=>(i.zero,i.size,i.bytes))=some (some (.agg #[.int .u8 0,.int .u8 0,.int .u8 0,.int .u8 0,.int .i64 0,.string ⟨#[]⟩,.bool false]),7,40):=by kernel_rfl
theorem rR(w:World){U:Array Oper}{I:List Oper}{o:Oper}{a:Act}{Q:Exit->Act->World->Prop}(K:o.guard=none)(s x:Operand)
  (ho:o.op=.call { callee:=.builtin .append,args:=#[s,x],argTypes:=#[183,183] })
  (z:Nat) (v:Value) (S T:List aU) (v2:Value) (hs:a.eval s=v) (E:w.ownsRow z 313 7 v S.length (gN S)) (hx:a.eval x=v2) (hv:SV w v2 T) (a0:S.length+T.length<=10000000) (J:z<=w.heap.size)
  (h:∀v' w',w'.ownsRow z 313 7 v' (S++T).length (gN (S++T))->w.grownBy w' v.ownBlock->wpList Tryz.prog U Q I (a.put o.dst v') w'):wpList Tryz.prog U Q (o::I) a w:=by
 obtain⟨i0,hi,V,W,Y⟩:=info_parts Tryz.info313;rcases hv with ⟨rfl,rfl⟩|⟨b,p,cap,rfl,Z,hb,hc⟩
 ·exact wpList_append_own_none K s x 183 ho z 313 i0 7 Tryz.underlying183 hi v S.length (gN S) hs E hx (h _ _ (by simpa using E) (qG _ _))
 ·refine wpList_append_own w K s x 183 ho z 313 i0 _ 7 40 Tryz.underlying183 hi V W Y rfl (by decide) v S.length (gN S) hs E ⟨b,p,none⟩ T.length cap (gN T) hx (wO T) ?_ (aPn T) (by unfold maxLen;omega) (by omega) J ?_
  ·intro j u hj;have:=hc j u hj;rw[<- this]
   cases j<;>simp[Addr.add]
  ·intro v' w' h1 h2 _;refine h v' w' ?_ h2;rw[wN,aJ];exact h1
theorem aAs(S:List aU)(W:Value)(w:World)(hv:SV w W S)(V:S.length<=1000000):
  Calls Tryz.prog 250 #[W] w λe w'=>∃v,e=.returned v/\w'.ownsRow w.heap.size 313 7 v S.length (gN S)/\Below w.heap.size w w':=by
 have I:=hv;rcases hv with ⟨rfl,rfl⟩|⟨b,p,cap,rfl,U,Z,Y⟩
 ·have E:∀u:World,(binOp .eql 183 (.slice none 0 0) (.slice none 0 0)).run Tryz.prog u=.ok (.bool true) u:=λu=>Lib.run_eql_slice_nil_nil u 0 0 Tryz.underlying183;go_enter Tryz.func250,Tryz.ntmps250;go_wp2;go_ret;exact⟨_,rfl,aK _ _ _ _,Below.refl _ _⟩
 ·have z:Below w.heap.size w (w.alloc (.cells #[] 313)):=(Below.refl _ _).alloc (aA _) _;have K:=aTb w [] #[] rfl (by simp);have J:=I.below z (aA _);clear Y I;have E:∀u:World,(binOp .eql 183 (.slice (some ⟨b,p,none⟩) S.length cap) (.slice none 0 0)).run Tryz.prog u=.ok (.bool false) u:=λu=>Lib.run_eql_slice_some_nil u _ _ _ Tryz.underlying183;go_enter Tryz.func250,Tryz.ntmps250
  go_wp2_with (at_builtin;refine rR _ rfl _ _ rfl w.heap.size _ [] S _ rfl K rfl J (by simp;omega) (by simp) ?_)
  intro v' w1 h1 h2;have R:=qP (aA _) K z (by simp) h2;clear h2 K J z;go_wp2;go_ret;exact⟨_,rfl,by simpa using h1,R⟩
theorem vB(S:List aU)(J:Value)(w:World)(hv:SV w J S)(I:S.length<=1000000)(h2:2<=S.length):
  Calls Tryz.prog 356 #[J] w λe w'=>∃v,e=.returned v/\SV w v ((S.take (S.length - 1)).drop 1)/\w'=w:=by
 rcases hv with ⟨rfl,rfl⟩|⟨b,p,cap,rfl,z,K,E⟩
 ·simp at h2
 ·have R:=SV.part (.inr ⟨b,p,cap,rfl,z,K,E⟩) 1 (S.length - 1) (by omega) (by omega);clear E;go_enter Tryz.func356,Tryz.ntmps356;go_wp2;go_ret;exact⟨_,rfl,R,rfl⟩
def lY(s:aU):aU:={ s with alive:=false }
def cD(S:List aU):List aU:=S.map lY
def LL:List ByteArray->List ByteArray->Nat
 | [],_=>0
 | _::_,[]=>0
 | a::O,b::N=>if a=b then LL O N+1 else max (LL O (b::N)) (LL (a::O) N)
termination_by O N=>O.length+N.length
def CC(O N:List ByteArray)(i j:Nat):Nat:=LL (O.drop i) (N.drop j)
theorem aYz(O:List ByteArray):LL O []=0:=by cases O<;>simp[LL]
theorem aAj{O N:List ByteArray}{i j:Nat}(h:O.length<=i):CC O N i j=0:=by unfold CC;rw[fF h];simp[LL]
theorem aEm{O N:List ByteArray}{i j:Nat}(h:N.length<=j):CC O N i j=0:=by unfold CC;rw[fF h,aYz]
theorem aVs{O N:List ByteArray}{i j:Nat}(hi:i<O.length)(z:j<N.length)(h:O[i]=N[j]):CC O N i j=CC O N (i+1) (j+1)+1:=by
 unfold CC;rw[bO hi,bO z,LL,if_pos h]
theorem aSl{O N:List ByteArray}{i j:Nat}(hi:i<O.length)(z:j<N.length)(h:O[i]≠N[j]):CC O N i j=max (CC O N (i+1) j) (CC O N i (j+1)):=by
 unfold CC
 conv=>lhs;rw[bO hi,bO z,LL,if_neg h]
 rw[<- bO hi,<- bO z]
theorem bBp(O N:List ByteArray):LL O N<=O.length:=by
 induction O,N using LL.induct with
 | case1 N=>simp[LL]
 | case2 a O=>simp[LL]
 | case3 O b N ih=>rw[LL];simp;omega
 | case4 a O b N h ih1 ih2=>
  rw[LL,if_neg h];simp only[aY] at *;omega
theorem uW(O N:List ByteArray)(i j:Nat):CC O N i j<=O.length:=by
 unfold CC;have:=bBp (O.drop i) (N.drop j);simp at this;omega
def TV(w:World)(v:Value)(n m:Nat)(T:Nat->Nat->Nat):Prop:=∃b o cap,v=.slice (some ⟨b,o,none⟩) (n+1) cap/\b<w.heap.size/\∀i,i<=n->∃g q c,w.cell? ⟨b,o+i,none⟩=some (.slice (some ⟨g,q,none⟩) (m+1) c)/\g<w.heap.size/\∀j,j<=m->w.cell? ⟨g,q+j,none⟩=some (.int .i64 (T i j:Nat))
theorem TV.below{w w':World}{v:Value}{n m:Nat}{T:Nat->Nat->Nat}(h:TV w v n m T){B:Nat}(z:Below B w w')(U:w.heap.size<=B):TV w' v n m T:=by
 obtain⟨b,o,cap,rfl,h1,h2⟩:=h;refine⟨b,o,cap,rfl,bJ h1 z.size,λi hi=>?_⟩;obtain⟨g,q,c,E,I,J⟩:=h2 i hi;exact⟨g,q,c,(z.cell (p:=⟨b,o+i,none⟩) (by simp;omega)).trans E,bJ I z.size,λj K=>(z.cell (p:=⟨g,q+j,none⟩) (by simp;omega)).trans (J j K)⟩
def gQ(O N:List ByteArray)(i j:Nat):Bool:=if i=O.length\/j=N.length then decide (i<O.length) else decide (CC O N i (j+1)<=CC O N (i+1) j)
theorem dW{w:World}{g:Nat}{x y z:Value}{t:TypeId}{f:Nat×Nat}(h:w.heap[g]?=some (.cells #[x,y,z] t f)):w.cell? ⟨g,0,none⟩=some x/\w.cell? ⟨g,1,none⟩=some y/\w.cell? ⟨g,2,none⟩=some z:=by
 simp[World.cell?,h]
theorem aLg(O N:List ByteArray)(i j:Nat)(hi:i<=O.length)(hj:j<=N.length)(hO:O.length<=100000)(hN:N.length<=100000)(Z W:Option Addr)(oc Y:Nat)(cv:Value)(w:World)(ht:TV w cv O.length N.length (CC O N)):
  Calls Tryz.prog 291 #[.agg #[.slice Z O.length oc,.slice W N.length Y,cv],.int .i64 i,.int .i64 j] w λe w'=>e=.returned (.bool (gQ O N i j))/\Below w.heap.size w w':=by
 have I:∀x,Below w.heap.size w (w.alloc x):=λx=>(Below.refl _ _).alloc (aA _) _;have HT:=aO ht;obtain⟨b,o,cap,rfl,a9,z⟩:=ht;by_cases h1:i=O.length
 ·have K:Hid (gQ O N i j=decide (i<O.length)):=by show _=_;unfold gQ;rw[if_pos (.inl h1)]
  have a0:((i:Int) == (O.length:Int))=true:=by simp;omega
  clear h1 z;go_enter Tryz.func291,Tryz.ntmps291;go_wp2;go_ret;exact⟨by rw[K.out];rfl,I _⟩
 ·have a0:((i:Int) == (O.length:Int))=false:=by rw[beq_eq_false_iff_ne];omega
  have b0:(i:Int)<(O.length:Int):=by omega
  by_cases h2:j=N.length
  ·have K:Hid (gQ O N i j=decide (i<O.length)):=by show _=_;unfold gQ;rw[if_pos (.inr h2)]
   have a2:decide (i<O.length)=true:=by simp;omega
   have a1:((j:Int) == (N.length:Int))=true:=by simp;omega
   clear h1 h2 z;go_enter Tryz.func291,Tryz.ntmps291;go_wp2;go_ret;exact⟨by rw[K.out,a2];rfl,I _⟩
  ·have a1:((j:Int) == (N.length:Int))=false:=by rw[beq_eq_false_iff_ne];omega
   have K:Hid (gQ O N i j=decide (CC O N i (j+1)<=CC O N (i+1) j)):=by show _=_;unfold gQ;rw[if_neg (by omega)]
   have b1:(j:Int)<(N.length:Int):=by omega
   obtain⟨w1,E⟩:∃w1,w1=w.alloc (.cells #[.slice Z O.length oc,.slice W N.length Y,.slice (some ⟨b,o,none⟩) (O.length+1) cap] 349):=⟨_,rfl⟩;have U:Below w.heap.size w w1:=by rw[E];exact I _
   have V:w1.heap[w.heap.size]?=some (.cells #[.slice Z O.length oc,.slice W N.length Y,.slice (some ⟨b,o,none⟩) (O.length+1) cap] 349 (0,0)):=by rw[E];exact(aH w (.cells #[.slice Z O.length oc,.slice W N.length Y,.slice (some ⟨b,o,none⟩) (O.length+1) cap] 349)).1
   obtain⟨_,_,_,e1,_,J⟩:=HT.out.below U (aA _)
   cases e1
   obtain⟨g,q,c,r1,r2,r3⟩:=J i (by omega);obtain⟨g',q',c',s1,s2,s3⟩:=J (i+1) (by omega);have r4:=r3 (j+1) (by omega);have s4:=s3 j (by omega);obtain⟨d0,d1,d2⟩:=dW V;have x1:=uW O N (i+1) j;have x2:=uW O N i (j+1);generalize CC O N (i+1) j=A at *;generalize CC O N i (j+1)=D at *;have wi:IntKind.i64.wrap ((i:Int)+1)=(i:Int)+1:=by simp[IntKind.wrap,IntKind.signed,IntKind.bits];omega
   have wj:IntKind.i64.wrap ((j:Int)+1)=(j:Int)+1:=by simp[IntKind.wrap,IntKind.signed,IntKind.bits];omega
   have a3:(0:Int)<=(i:Int)+1:=by omega
   have a4:(i:Int)+1<((O.length+1:Nat):Int):=by omega
   have a5:(i:Int)<((O.length+1:Nat):Int):=by omega
   have a6:(0:Int)<=(j:Int)+1:=by omega
   have a7:(j:Int)+1<((N.length+1:Nat):Int):=by omega
   have a8:(j:Int)<((N.length+1:Nat):Int):=by omega
   have ti:((i:Int)+1).toNat=i+1:=by omega
   have tj:((j:Int)+1).toNat=j+1:=by omega
   clear J r3 s3 z h1 h2 V;go_enter Tryz.func291,Tryz.ntmps291
   go_wp2_with fail
   rw[<- E];clear E
   go_quiet (fail)
   go_wp2;go_ret;exact⟨by rw[K.out];rfl,below_drewN U _⟩
def iR(O N:List ByteArray)(i j:Nat):Prop:=i<O.length/\j<N.length/\O.getD i ByteArray.empty=N.getD j ByteArray.empty
instance (O N:List ByteArray) (i j:Nat):Decidable (iR O N i j):=by unfold iR;infer_instance
def sX(O N:List ByteArray):Nat->Nat->Nat->Nat×Nat
 | 0,i,j=>(i,j)
 | k+1,i,j=>if iR O N i j then (i,j) else if gQ O N i j=true then sX O N k (i+1) j else sX O N k i (j+1)
def tJ(O N:List ByteArray)(i j:Nat):Nat×Nat:=sX O N ((O.length - i)+(N.length - j)) i j
theorem aO9{O N:List ByteArray}{i j:Nat}(h:iR O N i j):tJ O N i j=(i,j):=by
 unfold tJ;have h1:=h.1;obtain⟨k,z⟩:∃k,(O.length - i)+(N.length - j)=k+1:=⟨(O.length - i)+(N.length - j) - 1,by omega⟩;rw[z,sX,if_pos h]
theorem aTa{O N:List ByteArray}{i j:Nat}(hi:O.length<=i)(z:N.length<=j):tJ O N i j=(i,j):=by
 unfold tJ;rw[show (O.length - i)+(N.length - j)=0 by omega,sX]
theorem xJ{O N:List ByteArray}{i j:Nat}(hi:i<=O.length)(z:gQ O N i j=true):i<O.length:=by
 unfold gQ at z;split at z
 ·simpa using z
 ·omega
theorem sW{O N:List ByteArray}{i j:Nat}(hi:i<=O.length)(E:j<=N.length)(h:i<O.length\/j<N.length)(z:gQ O N i j=false):j<N.length:=by
 unfold gQ at z;split at z
 ·simp at z;omega
 ·omega
theorem aGs{O N:List ByteArray}{i j:Nat}(hi:i<=O.length)(h:¬ iR O N i j)(E:gQ O N i j=true):tJ O N i j=tJ O N (i+1) j:=by
 have h1:=xJ hi E;unfold tJ;obtain⟨k,z⟩:∃k,(O.length - i)+(N.length - j)=k+1:=⟨(O.length - i)+(N.length - j) - 1,by omega⟩;rw[z,sX,if_neg h,if_pos E];congr 1;omega
theorem aGr{O N:List ByteArray}{i j:Nat}(hi:i<=O.length)(I:j<=N.length)(h:¬ iR O N i j)(h2:i<O.length\/j<N.length)(E:gQ O N i j=false):tJ O N i j=tJ O N i (j+1):=by
 have h1:=sW hi I h2 E;unfold tJ;obtain⟨k,z⟩:∃k,(O.length - i)+(N.length - j)=k+1:=⟨(O.length - i)+(N.length - j) - 1,by omega⟩;rw[z,sX,if_neg h,if_neg (by rw[E];simp)];congr 1;omega
theorem jT(t s:ByteArray):(t.toList == s.toList)=decide (t=s):=by
 by_cases h:t=s
 ·subst h;simp
 ·rw[aE2 h];simp[h]
theorem aDo(O N:List ByteArray)(i j:Nat)(hi:i<=O.length)(hj:j<=N.length)(hO:O.length<=100000)(hN:N.length<=100000)(oa na:Option Addr)(oc nc:Nat)(cv:Value)(w:World)(ht:TV w cv O.length N.length (CC O N))(b2:gD w oa O)(b1:gD w na N):
  Calls Tryz.prog 270 #[.agg #[.slice oa O.length oc,.slice na N.length nc,cv],.int .i64 i,.int .i64 j] w λe w'=>e=.returned (.tuple #[.int .i64 ((tJ O N i j).1:Nat),.int .i64 ((tJ O N i j).2:Nat)])/\Below w.heap.size w w':=by
 have HT:=aO ht;obtain⟨b,o,cap,rfl,b3,a4⟩:=ht;clear a4;obtain⟨Z,a0⟩:∃Z,Z=w.alloc (.cells #[.slice oa O.length oc,.slice na N.length nc,.slice (some ⟨b,o,none⟩) (O.length+1) cap] 349):=⟨_,rfl⟩;have a7:Below w.heap.size w Z:=by rw[a0];exact(Below.refl _ _).alloc (aA _) _
 have a9:Z.heap[w.heap.size]?=some (.cells #[.slice oa O.length oc,.slice na N.length nc,.slice (some ⟨b,o,none⟩) (O.length+1) cap] 349 (0,0)):=by rw[a0];exact(aH w (.cells #[.slice oa O.length oc,.slice na N.length nc,.slice (some ⟨b,o,none⟩) (O.length+1) cap] 349)).1
 have a5:w.heap.size<Z.heap.size:=by rw[a0];simp
 obtain⟨R,hR⟩:∃R,tJ O N i j=R:=⟨_,rfl⟩;rw[hR];go_enter Tryz.func270,Tryz.ntmps270
 go_wp2_with fail
 rw[<- a0];clear a0
 go_loopw [1,2] (λx y wr=>∃i j:Nat,i<=O.length/\j<=N.length/\x=.int .i64 i/\y=.int .i64 j/\Hid (tJ O N i j=R)/\Below Z.heap.size Z wr) (λx y _=>(O.length - (intOf x).toNat)+(N.length - (intOf y).toNat))
 case atStart=>exact⟨i,j,hi,hj,rfl,rfl,hR,Below.refl _ _⟩
 case round=>
  clear hR;obtain⟨i,j,hi,hj,rfl,rfl,HR,K⟩:=hrel;have W:Below w.heap.size w wr:=a7.trans (K.mono (iT a5));have b0:=(K.block _ a5).trans a9;obtain⟨d0,d1,d2⟩:=dW b0;have V:Hid (∀q,Calls Tryz.prog 291 #[.agg #[.slice oa O.length oc,.slice na N.length nc,.slice (some ⟨b,o,none⟩) (O.length+1) cap],.int .i64 i,.int .i64 j] (wr.drewN q) λe w'=>e=.returned (.bool (gQ O N i j))/\Below wr.heap.size wr w'):=λq=>by
   refine(aLg O N i j hi hj hO hN oa na oc nc _ (wr.drewN q) (HT.out.below (below_drewN W q) (aA _))).mono ?_;rintro e w' ⟨rfl,hb⟩;exact⟨rfl,(below_drewN (Below.refl _ wr) q).trans hb⟩
  by_cases h1:i<O.length
  ·have e1:(i:Int)<(O.length:Int):=by omega
   have a6:decide (i<O.length)=true:=by simpa using h1
   by_cases h2:j<N.length
   ·have e2:(j:Int)<(N.length:Int):=by omega
    have a1:decide (j<N.length)=true:=by simpa using h2
    rcases b2.below W with h|⟨ob,oo,rfl,b5,a3⟩
    ·omega
    rcases b1.below W with h|⟨nb,no,rfl,b4,a2⟩
    ·omega
    have co:=a3 i h1;have cn:=a2 j h2;obtain⟨x,hx⟩:∃x,O.getD i ByteArray.empty=x:=⟨_,rfl⟩;obtain⟨y,hy⟩:∃y,N.getD j ByteArray.empty=y:=⟨_,rfl⟩;rw[hx] at co;rw[hy] at cn;clear a3 a2
    cases he:decide (x=y)
    ·have a8:(x.toList == y.toList)=false:=by rw[jT];exact he
     have U:¬ iR O N i j:=λhm=>by have:=hm.2.2;rw[hx,hy] at this;simp[this] at he
     clear hx hy he
     cases E:gQ O N i j
     ·have Y:Hid (tJ O N i (j+1)=R):=by show _=_;rw[<- aGr hi hj U (.inl h1) E];exact HR.out
      have z:=V.out;rw[E] at z;have V:=aO z;clear E U HR z
      go_wp2_with fail
      go_quiet (fail)
      go_wp2_with fail
      refine(V.out _).mono ?_;rintro e w2 ⟨rfl,I⟩;have J:Below Z.heap.size Z w2:=K.trans (I.mono K.size);clear V I;go_wp2
      go_roundw
      case rel=>exact⟨i,j+1,by omega,by omega,by go_num,by go_num,Y,J⟩
      case measure=>simp[intOf];omega
     ·have Y:Hid (tJ O N (i+1) j=R):=by show _=_;rw[<- aGs hi U E];exact HR.out
      have z:=V.out;rw[E] at z;have V:=aO z;clear E U HR z
      go_wp2_with fail
      go_quiet (fail)
      go_wp2_with fail
      refine(V.out _).mono ?_;rintro e w2 ⟨rfl,I⟩;have J:Below Z.heap.size Z w2:=K.trans (I.mono K.size);clear V I;go_wp2
      go_roundw
      case rel=>exact⟨i+1,j,by omega,by omega,by go_num,by go_num,Y,J⟩
      case measure=>simp[intOf];omega
    ·have a8:(x.toList == y.toList)=true:=by rw[jT];exact he
     have HE:Hid (tJ O N i j=(i,j)):=aO9 ⟨h1,h2,by rw[hx,hy];simpa using he⟩;clear hx hy he V
     go_wp2_with fail
     go_quiet (fail)
     go_wp2;go_ret2;exact⟨by rw[<- HR.out,HE.out];rfl,below_drewN W _⟩
   ·have e2:decide ((j:Int)<(N.length:Int))=false:=by simp;omega
    have a1:decide (j<N.length)=false:=by simpa using h2
    have U:¬ iR O N i j:=λhm=>by have:=hm.1;have:=hm.2.1;omega
    have E:gQ O N i j=true:=by unfold gQ;rw[if_pos (by omega)];simp;omega
    have Y:Hid (tJ O N (i+1) (j)=R):=by show _=_;rw[<- aGs hi U E];exact HR.out
    have z:=V.out;rw[E] at z;have V:=aO z;clear E U HR z
    go_wp2_with fail
    go_quiet (fail)
    go_wp2_with fail
    refine(V.out _).mono ?_;rintro e w2 ⟨rfl,I⟩;have J:Below Z.heap.size Z w2:=K.trans (I.mono K.size);clear V I;go_wp2
    go_roundw
    case rel=>exact⟨i+1,j,by omega,by omega,by go_num,by go_num,Y,J⟩
    case measure=>simp[intOf];omega
  ·have e1:decide ((i:Int)<(O.length:Int))=false:=by simp;omega
   have a6:decide (i<O.length)=false:=by simpa using h1
   by_cases h2:j<N.length
   ·have e2:(j:Int)<(N.length:Int):=by omega
    have a1:decide (j<N.length)=true:=by simpa using h2
    have U:¬ iR O N i j:=λhm=>by have:=hm.1;have:=hm.2.1;omega
    have E:gQ O N i j=false:=by unfold gQ;rw[if_pos (by omega)];simp;omega
    have Y:Hid (tJ O N (i) (j+1)=R):=by show _=_;rw[<- aGr hi hj U (.inr h2) E];exact HR.out
    have z:=V.out;rw[E] at z;have V:=aO z;clear E U HR z
    go_wp2_with fail
    go_quiet (fail)
    go_wp2_with fail
    refine(V.out _).mono ?_;rintro e w2 ⟨rfl,I⟩;have J:Below Z.heap.size Z w2:=K.trans (I.mono K.size);clear V I;go_wp2
    go_roundw
    case rel=>exact⟨i,j+1,by omega,by omega,by go_num,by go_num,Y,J⟩
    case measure=>simp[intOf];omega
   ·have e2:decide ((j:Int)<(N.length:Int))=false:=by simp;omega
    have a1:decide (j<N.length)=false:=by simpa using h2
    have HE:Hid (tJ O N i j=(i,j)):=aTa (by omega) (by omega);clear V;go_wp2;go_ret2;exact⟨by rw[<- HR.out,HE.out];rfl,W⟩
def LV(w:World)(v:Value)(L:List ByteArray):Prop:=∃ao cap,v=.slice ao L.length cap/\gD w ao L/\L.length<=cap/\((ao=none/\cap=0/\L=[])\/∃b o,ao=some ⟨b,o,none⟩/\b<w.heap.size)
theorem LV.below{w w':World}{v:Value}{L:List ByteArray}(h:LV w v L){B:Nat}(I:Below B w w')(K:w.heap.size<=B):LV w' v L:=by
 obtain⟨J,cap,rfl,h1,h2,z⟩:=h;refine⟨J,cap,rfl,h1.below (I.mono K),h2,?_⟩;rcases z with z|⟨b,o,e,E⟩
 ·exact .inl z
 ·exact .inr ⟨b,o,e,bJ E I.size⟩
theorem LV.own{w:World}{B:Nat}{v:Value}{L:List ByteArray}(h:w.ownsRow B 9 1 v L.length (bW L)):LV w v L:=by
 have I:=h;have z:=h.lt;rcases h.2 with ⟨rfl,h2⟩|⟨g,cp,E,rfl,_,U,J,_⟩
 ·have K:L=[]:=aS h2;subst K;exact⟨none,0,rfl,.inl rfl,aA _,.inl ⟨rfl,rfl,rfl⟩⟩
 ·exact⟨_,cp,rfl,gD.own I,J,.inr ⟨g,0,rfl,(z g rfl).2⟩⟩
theorem aT7(L:List ByteArray)(j l k:Nat)(z:l<=L.length)(E:k<l - j):((L.take l).drop j).getD k ByteArray.empty=L.getD (j+k) ByteArray.empty:=by
 rw[aQ,aQ,zC,dN (by omega)]
theorem yM(L:List ByteArray)(j l:Nat)(a2:j<=l)(hl:l<=L.length)(b o cap:Nat)(w:World)(a0:L.length<=100000)(hv:gD w (some ⟨b,o,none⟩) L)(hb:b<w.heap.size):
  Calls Tryz.prog 271 #[.slice (some ⟨b,o+j,none⟩) (l - j) (cap - j)] w λe w'=>∃v,e=.returned v/\w'.ownsRow w.heap.size 9 1 v ((L.take l).drop j).length (bW ((L.take l).drop j))/\Below w.heap.size w w':=by
 obtain⟨i0,hi,W,Y,Z⟩:=info_parts Tryz.info9;have hM:((L.take l).drop j).length=l - j:=by simp;omega
 have hc:∀(k:Nat) (u:Value),(bW ((L.take l).drop j))[k]?=some u->w.cell? ((⟨b,o+j,none⟩:Addr).add k)=some u:=by
  intro k u K;have U:k<l - j:=by
   have:=(aB.1 K).1;rw[aDu,hM] at this;exact this
  rcases hv with h|⟨b',o',e,_,h⟩
  ·omega
  ·cases e
   have h1:=h (j+k) (by omega);rw[<- aT7 L j l k hl U] at h1;have J:k<((L.take l).drop j).length:=by omega
   have e2:(bW ((L.take l).drop j))[k]?=some (.string (((L.take l).drop j).getD k ByteArray.empty)):=by
    rw[aP,aC J,aQ,aC J];rfl
   rw[K] at e2
   cases e2
   rw[<- h1]
   cases k
   ·simp[Addr.add]
   ·simp[Addr.add,dB]
 generalize (L.take l).drop j=M at *;have a1:∀u:World,(binOp .eql 35 (.slice (some ⟨b,o+j,none⟩) (l - j) (cap - j)) (.slice none 0 0)).run Tryz.prog u=.ok (.bool false) u:=λu=>Lib.run_eql_slice_some_nil u _ _ _ Tryz.underlying35;have z:Below w.heap.size w (w.alloc (.cells #[] 9)):=(Below.refl _ _).alloc (aA _) _;have V:(w.alloc (.cells #[] 9)).ownsRow w.heap.size 9 1 (.slice (some ⟨w.heap.size,0,none⟩) 0 0) 0 []:=⟨rfl,.inr ⟨w.heap.size,0,#[],rfl,aA _,(aH w _).1,aA _,aE _,rfl,rfl⟩⟩;have I:∀(k:Nat) (u:Value),(bW M)[k]?=some u->(w.alloc (.cells #[] 9)).cell? ((⟨b,o+j,none⟩:Addr).add k)=some u:=by
  intro k u K;have E:((⟨b,o+j,none⟩:Addr).add k).block=b:=by cases k<;>simp[Addr.add]
  exact(z.cell (by rw[E];exact hb)).trans (hc k u K)
 clear hc hv;go_enter Tryz.func271,Tryz.ntmps271
 go_wp2_with (at_builtin;refine wpList_append_own _ rfl _ _ 35 rfl w.heap.size 9 i0 (.string ⟨#[]⟩) 1 16 Tryz.underlying35 hi W Y Z rfl (by decide) _ _ _ rfl V ⟨b,o+j,none⟩ (l - j) (cap - j) (bW M) rfl (by rw[aDu];omega) I (eX M) (by unfold maxLen;omega) (by omega) (by simp) ?_)
 intro v' w1 h1 h2 _;have R:=qP (aA _) V z (by simp) h2;clear h2 V z I;go_wp2;go_ret;exact⟨_,rfl,by rw[hM];simpa using h1,R⟩
theorem zX(O N:List ByteArray):∀(f i j:Nat),i<=O.length->j<=N.length->f=(O.length - i)+(N.length - j)->i<=(sX O N f i j).1/\(sX O N f i j).1<=O.length/\j<=(sX O N f i j).2/\(sX O N f i j).2<=N.length/\(iR O N (sX O N f i j).1 (sX O N f i j).2\/((sX O N f i j).1=O.length/\(sX O N f i j).2=N.length))
 | 0,i,j,hi,hj,hf=>by
  simp only[sX];refine⟨aA _,hi,aA _,hj,.inr ⟨by omega,by omega⟩⟩
 | f+1,i,j,hi,hj,hf=>by
  rw[sX];by_cases E:iR O N i j
  ·rw[if_pos E];exact⟨aA _,hi,aA _,hj,.inl E⟩
  ·rw[if_neg E];by_cases z:gQ O N i j=true
   ·rw[if_pos z];have h1:=xJ hi z;obtain⟨a,b,c,d,e⟩:=zX O N f (i+1) j (by omega) hj (by omega);exact⟨by omega,b,c,d,e⟩
   ·rw[if_neg z];have h1:=sW hi hj (by omega) (by simpa using z);obtain⟨a,b,c,d,e⟩:=zX O N f i (j+1) hi (by omega) (by omega);exact⟨a,b,by omega,d,e⟩
theorem oB(O N:List ByteArray)(i j:Nat)(hi:i<=O.length)(z:j<=N.length):i<=(tJ O N i j).1/\(tJ O N i j).1<=O.length/\j<=(tJ O N i j).2/\(tJ O N i j).2<=N.length/\(iR O N (tJ O N i j).1 (tJ O N i j).2\/((tJ O N i j).1=O.length/\(tJ O N i j).2=N.length)):=
 zX O N _ i j hi z rfl
structure dL where
 i:Nat
 k:Nat
 j:Nat
 l:Nat
def fA(i k j l:Nat):List dL:=if i<k\/j<l then [⟨i,k,j,l⟩] else []
inductive dS (O N:List ByteArray):Nat->Nat->List dL->Prop
 | stop {i j k l:Nat}:tJ O N i j=(k,l)->k=O.length->dS O N i j (fA i k j l)
 | go {i j k l:Nat} {rest:List dL}:tJ O N i j=(k,l)->k<O.length->dS O N (k+1) (l+1) rest->dS O N i j (fA i k j l++rest)
structure Gp where
 q:dL
 lv:Value
abbrev gpC(g:Gp):List Value:=[.int .i64 (g.q.i:Nat),.int .i64 (g.q.k:Nat),g.lv]
abbrev gsC(G:List Gp):List Value:=G.flatMap gpC
def bX(N:List ByteArray)(q:dL):List ByteArray:=(N.take q.l).drop q.j
structure GV (w:World) (B:Nat) (v:Value) (N:List ByteArray) (G:List Gp):Prop where
 row:w.ownsRow B 324 3 v G.length (gsC G)
 lines:∀g∈G,w.ownsRow B 9 1 g.lv (bX N g.q).length (bW (bX N g.q))
theorem xN{w:World}{B U n n' s s':Nat}{e e':TypeId}{v v':Value}{xs I:List Value}(h:w.ownsRow B e s v n xs)(W:w.ownsRow U e' s' v' n' I)(Y:e≠e'):v.ownBlock=none\/v.ownBlock≠v'.ownBlock:=by
 rcases h.2 with ⟨rfl,_⟩|⟨g,cap,V,rfl,_,Z,_⟩
 ·exact .inl rfl
 ·right;intro z;rcases W.2 with ⟨rfl,_⟩|⟨g',J,K,rfl,_,E,_⟩
  ·cases z
  ·simp[Value.ownBlock] at z;subst z;rw[Z] at E;simp at E;exact Y E.2
theorem GV.step{w I:World}{B:Nat}{v v':Value}{N:List ByteArray}{G:List Gp}{g:Gp}(h:GV w B v N G)(J:w.grownBy I v.ownBlock)(E:I.ownsRow B 324 3 v' (G.length+1) (gsC G++gpC g))(K:w.ownsRow B 9 1 g.lv (bX N g.q).length (bW (bX N g.q))):GV I B v' N (G++[g]):=by
 refine⟨by simpa[gsC] using E,λx z=>?_⟩;rcases aG.1 z with z|z
 ·exact(h.lines x z).kept J (xN (h.lines x z) h.row (by decide))
 ·simp at z;subst z;exact K.kept J (xN K h.row (by decide))
theorem GV.below{w E:World}{B:Nat}{v:Value}{N:List ByteArray}{G:List Gp}(h:GV w B v N G)(z:Below w.heap.size w E):GV E B v N G:=
 ⟨bQ h.row z (aA _),λx I=>bQ (h.lines x I) z (aA _)⟩
theorem aJ8(O N:List ByteArray):∀c:List ByteArray,c.Sublist O->c.Sublist N->c.length<=LL O N:=by
 induction O,N using LL.induct with
 | case1 N=>intro c h1 _;simp[List.sublist_nil.1 h1]
 | case2 a O=>intro c _ h2;simp[List.sublist_nil.1 h2]
 | case3 O b N ih=>
  intro c h1 h2;rw[LL,if_pos rfl]
  cases c with
  | nil=>simp
  | cons x c=>
   have z:c.Sublist O:=h1.tail;have E:c.Sublist N:=h2.tail;have:=ih c z E;simp only[aY];omega
 | case4 a O b N h ih1 ih2=>
  intro c h1 h2;rw[LL,if_neg h];rcases tI.1 h1 with z|⟨r,rfl,z⟩
  ·have:=ih1 c z h2;omega
  ·rcases tI.1 h2 with E|⟨J,I,E⟩
   ·have:=ih2 _ h1 E;omega
   ·injection I with h4 h5;exact absurd h4 h
theorem bAi(O N:List ByteArray):∃c:List ByteArray,c.Sublist O/\c.Sublist N/\c.length=LL O N:=by
 induction O,N using LL.induct with
 | case1 N=>exact⟨[],aD7 _,aD7 _,by simp[LL]⟩
 | case2 a O=>exact⟨[],aD7 _,aD7 _,by simp[LL]⟩
 | case3 O b N ih=>
  obtain⟨c,h1,h2,z⟩:=ih;exact⟨b::c,h1.cons_cons _,h2.cons_cons _,by rw[LL,if_pos rfl,aY,z]⟩
 | case4 a O b N h ih1 ih2=>
  obtain⟨c,h1,h2,z⟩:=ih1;obtain⟨d,g1,g2,g3⟩:=ih2;rw[LL,if_neg h];by_cases E:LL O (b::N)<=LL (a::O) N
  ·exact⟨d,g1,g2.cons _,by omega⟩
  ·exact⟨c,h1.cons _,h2,by omega⟩
theorem aVz(a:ByteArray)(O N:List ByteArray):LL (a::O) N<=LL O N+1:=by
 obtain⟨c,h1,h2,z⟩:=bAi (a::O) N;rcases tI.1 h1 with h|⟨r,rfl,h⟩
 ·have:=aJ8 O N c h h2;omega
 ·have:=aJ8 O N r h ((List.sublist_cons_self _ _).trans h2);simp only[aY] at z;omega
theorem aV0(b:ByteArray)(O N:List ByteArray):LL O (b::N)<=LL O N+1:=by
 obtain⟨c,h1,h2,z⟩:=bAi O (b::N);rcases tI.1 h2 with h|⟨r,rfl,h⟩
 ·have:=aJ8 O N c h1 h;omega
 ·have:=aJ8 O N r ((List.sublist_cons_self _ _).trans h1) h;simp only[aY] at z;omega
theorem aJo{O N:List ByteArray}{i j:Nat}(hi:i<O.length)(z:j<N.length)(h:¬ iR O N i j):O[i]≠N[j]:=by
 intro E;refine h ⟨hi,z,?_⟩;rw[aQ,aQ,aC hi,aC z,E]
theorem aO3{O N:List ByteArray}{i j:Nat}(h:iR O N i j):∃(hi:i<O.length) (z:j<N.length),O[i]=N[j]:=by
 obtain⟨hi,z,E⟩:=h;rw[aQ,aQ,aC hi,aC z] at E;exact⟨hi,z,E⟩
theorem aYv{O N:List ByteArray}{i j:Nat}(hi:i<=O.length)(I:j<=N.length)(h:¬ iR O N i j)(z:gQ O N i j=true):CC O N i j=CC O N (i+1) j:=by
 have h1:=xJ hi z;by_cases h2:j=N.length
 ·rw[aEm (by omega),aEm (by omega)]
 ·have E:j<N.length:=by omega
  rw[aSl h1 E (aJo h1 E h)];unfold gQ at z;rw[if_neg (by omega)] at z;have:=of_decide_eq_true z;omega
theorem aYu{O N:List ByteArray}{i j:Nat}(hi:i<=O.length)(I:j<N.length)(h:¬ iR O N i j)(z:gQ O N i j=false):CC O N i j=CC O N i (j+1):=by
 by_cases h2:i=O.length
 ·rw[aAj (by omega),aAj (by omega)]
 ·have E:i<O.length:=by omega
  rw[aSl E I (aJo E I h)];unfold gQ at z;rw[if_neg (by omega)] at z;have:=of_decide_eq_false z;omega
theorem aLv(O N:List ByteArray):∀(f i j:Nat),i<=O.length->j<=N.length->f=(O.length - i)+(N.length - j)->CC O N i j=CC O N (sX O N f i j).1 (sX O N f i j).2
 | 0,_,_,_,_,_=>rfl
 | f+1,i,j,hi,hj,hf=>by
  rw[sX];by_cases I:iR O N i j
  ·rw[if_pos I]
  ·rw[if_neg I];by_cases z:gQ O N i j=true
   ·rw[if_pos z];have h1:=xJ hi z;rw[aYv hi hj I z];exact aLv O N f (i+1) j (by omega) hj (by omega)
   ·rw[if_neg z];have E:gQ O N i j=false:=by simpa using z
    have h1:=sW hi hj (by omega) E;rw[aYu hi h1 I E];exact aLv O N f i (j+1) hi (by omega) (by omega)
theorem aXr{O N:List ByteArray}{i j k l:Nat}(hi:i<=O.length)(z:j<=N.length)(h:tJ O N i j=(k,l)):CC O N i j=CC O N k l:=by
 have:=aLv O N _ i j hi z rfl;unfold tJ at h;rw[h] at this;exact this
theorem uG{O N:List ByteArray}{i j k l:Nat}(hi:i<=O.length)(z:j<=N.length)(h:tJ O N i j=(k,l)):i<=k/\k<=O.length/\j<=l/\l<=N.length/\(iR O N k l\/(k=O.length/\l=N.length)):=by
 have p:=oB O N i j hi z;rw[h] at p;exact p
def aHi(Q:List dL):Nat:=(Q.map λq=>(q.k - q.i)+(q.l - q.j)).sum
theorem aJ4{i k j l:Nat}(hi:i<=k)(z:j<=l):aHi (fA i k j l)+i+j=k+l:=by
 unfold aHi fA;split
 ·simp;omega
 ·simp;omega
theorem aMg(P Q:List dL):aHi (P++Q)=aHi P+aHi Q:=by simp[aHi]
theorem dS.count{O N:List ByteArray}{i j:Nat}{Q:List dL}(h:dS O N i j Q)(hi:i<=O.length)(z:j<=N.length):aHi Q+2 * CC O N i j+i+j=O.length+N.length:=by
 induction h with
 | stop h1 h2=>
  rename_i i j k l
  have p:=uG hi z h1;have V:l=N.length:=by
   rcases p.2.2.2.2 with h|h
   ·have:=h.1;omega
   ·exact h.2
  have:=aJ4 p.1 p.2.2.1;rw[aXr hi z h1,aAj (by omega)];omega
 | go h1 h2 h3 ih=>
  rename_i i j k l E
  have p:=uG hi z h1;have J:iR O N k l:=by
   rcases p.2.2.2.2 with h|h
   ·exact h
   ·omega
  obtain⟨U,K,I⟩:=aO3 J;have:=aJ4 p.1 p.2.2.1;have q:=ih (by omega) (by omega);rw[aXr hi z h1,aVs U K I,aMg];omega
theorem dS.from{O N:List ByteArray}{i j:Nat}{Q:List dL}(h:dS O N i j Q)(hi:i<=O.length)(I:j<=N.length):∀q∈Q,i<=q.i:=by
 induction h with
 | stop h1 h2=>
  intro q z;unfold fA at z;split at z
  ·simp at z;subst z;exact aA _
  ·cases z
 | go h1 h2 h3 ih=>
  rename_i i j k l E
  have p:=uG hi I h1;have J:l<N.length:=by
   rcases p.2.2.2.2 with h|h
   ·exact h.2.1
   ·omega
  intro q z;rcases aG.1 z with z|z
  ·unfold fA at z;split at z
   ·simp at z;subst z;exact aA _
   ·cases z
  ·have:=ih (by omega) (by omega) q z;omega
def zT(O N:List ByteArray):Nat->List dL->List ByteArray
 | i,[]=>O.drop i
 | i,q::Q=>(O.take q.i).drop i++(bX N q++zT O N q.k Q)
theorem aZi{O N:List ByteArray}{i:Nat}{Q:List dL}(hi:i<O.length)(h:∀q∈Q,i+1<=q.i):zT O N i Q=O[i]::zT O N (i+1) Q:=by
 cases Q with
 | nil=>simp only[zT];exact bO hi
 | cons q Q=>
  have z:=h q (by simp);simp only[zT];rw[bO (l:=O.take q.i) (i:=i) (by simp;omega),kZ];simp
theorem aOk{O N:List ByteArray}{i k j l:Nat}(hi:i<=k)(I:j<=l)(Q:List dL)(E:i<=O.length)(R:List ByteArray)(J:l<=N.length)(z:zT O N k Q=R):zT O N i (fA i k j l++Q)=(N.take l).drop j++R:=by
 unfold fA;split
 ·simp only[cI,cY,zT,bX,z];rw[fF (by simp;omega),cY]
 ·have h1:i=k:=by omega
  have h2:j=l:=by omega
  subst h1;subst h2;rw[cY,z,fF (by simp;omega),cY]
theorem dS.gives{O N:List ByteArray}{i j:Nat}{Q:List dL}(h:dS O N i j Q)(hi:i<=O.length)(E:j<=N.length):zT O N i Q=N.drop j:=by
 induction h with
 | stop h1 h2=>
  rename_i i j k l
  have p:=uG hi E h1;have J:l=N.length:=by
   rcases p.2.2.2.2 with h|h
   ·have:=h.1;omega
   ·exact h.2
  have:=aOk (O:=O) (N:=N) p.1 p.2.2.1 [] hi [] (by omega) (by simp only[zT];exact fF (by omega));rw[cR] at this;rw[this,J,bD,cR]
 | go h1 h2 h3 ih=>
  rename_i i j k l z
  have p:=uG hi E h1;have K:iR O N k l:=by
   rcases p.2.2.2.2 with h|h
   ·exact h
   ·omega
  obtain⟨V,U,I⟩:=aO3 K;have q:=ih (by omega) (by omega);rw[aOk p.1 p.2.2.1 z hi (N.drop l) p.2.2.2.1 ?_]
  ·have:=bV (l - j) (N.drop j);rw[aKa,show j+(l - j)=l by omega] at this;rw[<- this,List.drop_take]
  ·rw[aZi V (h3.from (by omega) (by omega)),q,I];exact(bO U).symm
end Go.Proofs.YtgdfipmdmgkidaaGreatDoor
