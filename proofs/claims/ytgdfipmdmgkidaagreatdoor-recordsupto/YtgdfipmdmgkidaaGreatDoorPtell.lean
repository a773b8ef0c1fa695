import Derived.Test.YtgdfipmdmgkidaaGreatDoorProwc
import Derived.Deep.RegionLaw
import Derived.Deep.AppendLies
import Derived.BigQuiet
import Derived.BigRegion
import Derived.Laws.OwnMore
import Derived.Test.YtgdfipmdmgkidaaGreatDoorAl
set_option linter.all false
set_option maxHeartbeats 6400000
set_option maxRecDepth 100000
namespace Go.Proofs.YtgdfipmdmgkidaaGreatDoor
open Go.RowKit
def tlB(mark l:ByteArray):List UInt8:=(mark.data.toList++l.data.toList)++if Lib.hasSuffix l.data.toList [10]=true then [] else [36,10]
def eQ(mark:ByteArray)(L:List ByteArray):List UInt8:=L.flatMap (tlB mark)
theorem aHd(mark:ByteArray)(L:List ByteArray)(l:ByteArray):eQ mark (L++[l])=eQ mark L++tlB mark l:=by simp[eQ]
theorem aR6(mark:ByteArray)(L:List ByteArray)(k:Nat)(h:k<L.length):eQ mark (L.take (k+1))=eQ mark (L.take k)++tlB mark L[k]:=by rw[aF h,aHd]
theorem aPt(mark:ByteArray)(L:List ByteArray)(k:Nat):(eQ mark (L.take k)).length<=(eQ mark L).length:=by
 conv=>rhs;rw[<- bV k L]
 unfold eQ;rw[eE,aJ];omega
theorem aGu{w w':World}{B n size b:Nat}{e:TypeId}{v:Value}{K:List Value}(h:w.ownsRow B e size v n K)(W:Lib.OthersKept 5 (some b) w w')(U:e≠5)(Z:b<B):w'.ownsRow B e size v n K:=by
 refine⟨h.1,?_⟩;rcases h.2 with hn|⟨g,cap,E,hv,I,V,z⟩
 ·exact .inl hn
 ·refine .inr ⟨g,cap,E,hv,I,W g _ V (by simp;omega) (λc Y J=>?_),z⟩;simp at J;exact U J.2.1
theorem aTs{w w':World}{B b:Nat}(h:w.heap[b]?=some (.cells #[.pointer none,.slice none 0 0] 158 (0,0)))(z:B<=b)(E:w'.heap[b]?=w.heap[b]?):Lib.IsBuilderF 158 5 B b [] w':=
 .inl ⟨z,.slice none 0 0,E.trans h,aTl (aK _ _ _ _),by simp[Value.ownBlock]⟩
theorem aMd(a b:ByteArray):Lib.strCells (a++b)=Lib.byteCells (a.data.toList++b.data.toList):=by
 rw[Lib.strCells_eq];congr 1
theorem oD(a b:List UInt8):Lib.byteCells (a++b)=Lib.byteCells a++Lib.byteCells b:=by simp[Lib.byteCells]
theorem aCq(mark:ByteArray)(S:List aU)(v0:Value)(w:World)(hv:SV w v0 S)(b2:S.length<=1000000)(hm:mark.size<=10)(a6:(eQ mark (aL S)).length<=1000000000)(a4:∀l∈aL S,l.size<=1000000000):
  Calls Tryz.prog 338 #[.string mark,v0] w λe w'=>e=.returned (.string ⟨(eQ mark (aL S)).toArray⟩)/\Below w.heap.size w w':=by
 have a2:Below w.heap.size w (w.alloc (.cells #[.pointer none,.slice none 0 0] 158)):=(Below.refl _ _).alloc (aA _) _;have b0:=(aH w (.cells #[.pointer none,.slice none 0 0] 158)).1;have c1:(w.alloc (.cells #[.pointer none,.slice none 0 0] 158)).heap.size=w.heap.size+1:=by simp
 have HL:Hid (Calls Tryz.prog 200 #[v0] (w.alloc (.cells #[.pointer none,.slice none 0 0] 158)) λe w'=>∃v,e=.returned v/\w'.ownsRow (w.alloc (.cells #[.pointer none,.slice none 0 0] 158)).heap.size 9 1 v (aL S).length (bW (aL S))/\Below (w.alloc (.cells #[.pointer none,.slice none 0 0] 158)).heap.size (w.alloc (.cells #[.pointer none,.slice none 0 0] 158)) w'):=uC S v0 _ (hv.below a2 (aA _)) b2;have c0:=lV S;obtain⟨ao,cap,rfl⟩:=hv.shape;clear hv;obtain⟨L,hL⟩:∃L,aL S=L:=⟨_,rfl⟩;rw[hL] at HL a6 c0 a4;have b6:=aO hL;clear hL;have b7:=aO a6;have b5:=aO a4;clear a6 a4;go_enter Tryz.func338,Tryz.ntmps338
 go_wp2_with fail
 generalize w.alloc (.cells #[.pointer none,.slice none 0 0] 158)=wa at *;refine HL.out.mono ?_;rintro e w1 ⟨lv,rfl,ho,a3⟩;clear HL;have b9:Lib.IsBuilderF 158 5 w.heap.size w.heap.size (Lib.byteCells []) w1:=aTs b0 (aA _) (a3.block _ (by omega));obtain⟨la,lc,rfl⟩:=bC ho;have b8:Below w.heap.size w w1:=a2.trans (a3.mono (by omega));rw[c1] at ho;clear b0 a2 a3;go_wp2
 go_loopw [11] (λi wr=>∃k:Nat,k<=L.length/\i=.int .i64 k/\Hid (Lib.IsBuilderF 158 5 w.heap.size w.heap.size (Lib.byteCells (eQ mark (L.take k))) wr)/\wr.ownsRow (w.heap.size+1) 9 1 (.slice la L.length lc) L.length (bW L)/\Below w.heap.size w wr) (λi _=>L.length - (intOf i).toNat)
 case atStart=>exact⟨0,aE _,rfl,by show Lib.IsBuilderF _ _ _ _ _ _;simpa[eQ] using b9,ho,b8⟩
 case round=>
  obtain⟨k,hk,rfl,HB,K,W⟩:=hrel;have a1:w.heap.size<=wr.heap.size:=W.size;have c5:=aPt mark L k;have c2:=aPt mark L (k+1);have c3:=b7.out;by_cases Y:k<L.length
  ·have b3:=b5.out _ (bZ Y);have HT:=aO (aR6 mark L k Y);rcases gD.own K with h|⟨b,o,rfl,hb,hc⟩
   ·omega
   have J:wr.cell? ⟨b,o+k,none⟩=some (.string L[k]):=by
    have:=hc k Y;rwa[aQ,aC Y] at this
   obtain⟨l,hl⟩:∃l,L[k]=l:=⟨_,rfl⟩;rw[hl] at J b3;have a8:Hid (eQ mark (L.take (k+1))=eQ mark (L.take k)++tlB mark l):=by show _=_;rw[<- hl];exact HT.out
   clear HT hl hc;have c4:(eQ mark (L.take k)).length<=1000000000:=by omega
   generalize eQ mark (L.take k)=A at *;have HW:Hid (Calls Tryz.prog 114 #[.pointer (some ⟨w.heap.size,0,none⟩),.string (mark++l)] wr λe w'=>e=.returned (.tuple #[.int .i64 (mark++l).size,.nilIface])/\(Lib.BuilderAtF 158 5 w.heap.size w.heap.size (.pointer (some ⟨w.heap.size,0,none⟩)) (Lib.byteCells A++Lib.strCells (mark++l)) w'/\Below w.heap.size wr w'/\Lib.OthersKept 5 (some w.heap.size) wr w')):=
    Tryz.Builder_WriteString_k w.heap.size w.heap.size (Lib.byteCells A) (mark++l) wr HB.out (by rw[Lib.byteCells_length,aN];omega) a1
   go_wp2_with fail
   refine HW.out.mono ?_;rintro e w2 ⟨rfl,U,V,b4⟩;rw[aMd,<- oD] at U;have z:=aGu K b4 (by decide) (Nat.lt_succ_self _);have E:=W.trans V;clear HW HB V b4 K W J
   cases I:Lib.hasSuffix l.data.toList [10]
   ·have HS:Hid (tlB mark l=(mark.data.toList++l.data.toList)++[36,10]):=by show _=_;unfold tlB;rw[I];rfl
    have HF:Hid (Calls Tryz.prog 339 #[.string l,.string ⟨#[10]⟩] w2 λe w'=>e=.returned (.bool false)/\w'=w2):=by
     have:=Tryz.strings_HasSuffix l ⟨#[10]⟩ w2 (by omega);rw[show (⟨#[10]⟩:ByteArray).data.toList=[10] from rfl,I] at this;exact this
    clear I
    go_wp2_with fail
    refine HF.out.mono ?_;rintro e w3 ⟨rfl,rfl⟩;clear HF;have HW:Hid (Calls Tryz.prog 114 #[.pointer (some ⟨w.heap.size,0,none⟩),.string ⟨#[36,10]⟩] w3 λe w'=>e=.returned (.tuple #[.int .i64 2,.nilIface])/\(Lib.BuilderAtF 158 5 w.heap.size w.heap.size (.pointer (some ⟨w.heap.size,0,none⟩)) (Lib.byteCells (A++(mark.data.toList++l.data.toList))++Lib.strCells ⟨#[36,10]⟩) w'/\Below w.heap.size w3 w'/\Lib.OthersKept 5 (some w.heap.size) w3 w')):=
     Tryz.Builder_WriteString_k w.heap.size w.heap.size (Lib.byteCells (A++(mark.data.toList++l.data.toList))) ⟨#[36,10]⟩ w3 (.inr U) (by
      have h1:mark.data.toList.length=mark.size:=fP;have h2:l.data.toList.length=l.size:=fP;have h3:(⟨#[36,10]⟩:ByteArray).size=2:=rfl;rw[Lib.byteCells_length,aJ,aJ,h1,h2,h3]
      omega) E.size
    go_wp2_with fail
    refine HW.out.mono ?_;rintro e w4 ⟨rfl,a9,Z,a0⟩;rw[Lib.strCells_eq,<- oD] at a9;have a5:=aGu z a0 (by decide) (Nat.lt_succ_self _);have b1:=E.trans Z;clear HW Z a0 z E U;go_wp2
    go_roundw
    case rel=>exact⟨k+1,by omega,by go_num,.inr (by rw[a8.out,HS.out,<- bG];exact a9),a5,b1⟩
    case measure=>simp[intOf];omega
   ·have HS:Hid (tlB mark l=mark.data.toList++l.data.toList):=by show _=_;unfold tlB;rw[I];simp
    have HF:Hid (Calls Tryz.prog 339 #[.string l,.string ⟨#[10]⟩] w2 λe w'=>e=.returned (.bool true)/\w'=w2):=by
     have:=Tryz.strings_HasSuffix l ⟨#[10]⟩ w2 (by omega);rw[show (⟨#[10]⟩:ByteArray).data.toList=[10] from rfl,I] at this;exact this
    clear I
    go_wp2_with fail
    refine HF.out.mono ?_;rintro e w3 ⟨rfl,rfl⟩;clear HF;go_wp2
    go_roundw
    case rel=>exact⟨k+1,by omega,by go_num,.inr (by rw[a8.out,HS.out];exact U),z,E⟩
    case measure=>simp[intOf];omega
  ·have e:k=L.length:=by omega
   have a7:Hid (Calls Tryz.prog 116 #[.pointer (some ⟨w.heap.size,0,none⟩)] wr λe w'=>e=.returned (.string ⟨(eQ mark L).toArray⟩)/\(Lib.IsBuilderF 158 5 w.heap.size w.heap.size (Lib.byteCells (eQ mark L)) w'/\Below w.heap.size wr w'/\Lib.OthersKept 5 (some w.heap.size) wr w')):=by
    have:=HB.out;rw[e,bD] at this;exact Tryz.Builder_String_any_k w.heap.size w.heap.size (eQ mark L) wr this a1
   clear e
   go_wp2_with fail
   refine a7.out.mono ?_;rintro e w2 ⟨rfl,_,V,_⟩;clear a7;go_wp2;go_ret;exact⟨by rw[b6.out];rfl,W.trans V⟩
structure cL where
 a:Int
 b:Int
 c:Int
 d:Int
 deriving DecidableEq
def brS(i:cL)(n:Int)(L:List ByteArray)(k:Nat):aU:=⟨i.a,i.b,i.c,i.d,n+k,L.getD k ByteArray.empty,true⟩
def qT(i:cL)(n:Int)(L:List ByteArray)(k:Nat):List aU:=(List.range k).map (brS i n L)
def eD(i:cL)(n:Int)(L:List ByteArray):List aU:=qT i n L L.length
theorem aM9(i:cL)(n:Int)(L:List ByteArray)(k:Nat):(qT i n L k).length=k:=by simp[qT]
theorem aTt(i:cL)(n:Int)(L:List ByteArray)(k:Nat):qT i n L (k+1)=qT i n L k++[brS i n L k]:=by simp[qT,vL]
def pC(w:World)(mb:Nat)(i:cL)(n:Int):Prop:=w.heap[mb]?=some (.cells #[.int .u8 i.a,.int .u8 i.b,.int .u8 i.c,.int .u8 i.d,.int .i64 n] 221 (0,0))
structure lZ (w w':World) (m:Nat):Prop where
 os:w'.os=w.os
 tape:w'.tape=w.tape
 output:w'.output=w.output
 size:w.heap.size<=w'.heap.size
 block:∀k,k<w.heap.size->k≠m->w'.heap[k]?=w.heap[k]?
theorem lZ.refl(w:World)(m:Nat):lZ w w m:=⟨rfl,rfl,rfl,aA _,λ_ _ _=>rfl⟩
theorem lZ.trans{a b c:World}{m:Nat}(h:lZ a b m)(k:lZ b c m):lZ a c m:=
 ⟨k.os.trans h.os,k.tape.trans h.tape,k.output.trans h.output,aR h.size k.size,λi hi z=>(k.block i (bJ hi h.size) z).trans (h.block i hi z)⟩
theorem lZ.below{a b c:World}{m:Nat}(h:lZ a b m)(k:Below b.heap.size b c):lZ a c m:=
 ⟨k.os.trans h.os,k.tape.trans h.tape,k.output.trans h.output,aR h.size k.size,λi hi z=>(k.block i (bJ hi h.size)).trans (h.block i hi z)⟩
theorem lZ.of_below{b c:World}(m:Nat)(k:Below b.heap.size b c):lZ b c m:=(lZ.refl b m).below k
theorem lZ.set{a b:World}{m o:Nat}(h:lZ a b m)(u:Value):lZ a (b.setCell ⟨m,o,none⟩ u) m:=
 ⟨h.os,h.tape,h.output,by simpa[World.setCell] using h.size,λi hi z=>(Below.heap_setCell _ _ _ _ z).trans (h.block i hi z)⟩
theorem lZ.drew{a b:World}{m:Nat}(h:lZ a b m):lZ a b.drew m:=⟨h.os,h.tape,h.output,h.size,h.block⟩
theorem lZ.alloc{a b:World}{m:Nat}(h:lZ a b m)(o:Obj):lZ a (b.alloc o) m:=
 ⟨h.os,h.tape,h.output,by have:=h.size;simp;omega,λi hi z=>(Below.heap_alloc _ _ _ (bJ hi h.size)).trans (h.block i hi z)⟩
theorem lZ.grown{a b c:World}{m:Nat}{row:Option Nat}(h:lZ a b m)(z:b.grownBy c row)(I:∀k,row=some k->a.heap.size<=k):lZ a c m:=
 ⟨z.os.trans h.os,z.tape.trans h.tape,z.output.trans h.output,aR h.size z.size,λi hi E=>(z.block i (bJ hi h.size) (λe=>by have:=I i e.symm;omega)).trans (h.block i hi E)⟩
theorem pC.cells{w:World}{z:Nat}{i:cL}{n:Int}(h:pC w z i n):w.cell? ⟨z,0,none⟩=some (.int .u8 i.a)/\w.cell? ⟨z,1,none⟩=some (.int .u8 i.b)/\w.cell? ⟨z,2,none⟩=some (.int .u8 i.c)/\w.cell? ⟨z,3,none⟩=some (.int .u8 i.d)/\w.cell? ⟨z,4,none⟩=some (.int .i64 n):=by
 unfold pC at h;simp[World.cell?,h]
theorem pC.free{w:World}{z:Nat}{i:cL}{n:Int}(h:pC w z i n)(o:Nat):w.frozen? ⟨z,o,none⟩=false:=by
 unfold pC at h;simp[World.frozen?,h]
theorem pC.lt{w:World}{z:Nat}{i:cL}{n:Int}(h:pC w z i n):z<w.heap.size:=by
 rcases yA z w.heap.size with h'|h'
 ·exact h'
 ·unfold pC at h;rw[eI h'] at h;cases h
theorem pC.put{w:World}{z:Nat}{i:cL}{n m:Int}(h:pC w z i n):pC (w.setCell ⟨z,4,none⟩ (.int .i64 m)) z i m:=heap_setCell_same w z 4 _ 221 _ h
theorem gD.but{w w':World}{J:Option Addr}{L:List ByteArray}{I:Nat}{i:cL}{n:Int}(h:gD w J L)(U:pC w I i n)(K:lZ w w' I):gD w' J L:=by
 rcases h with h|⟨b,o,rfl,z,W⟩
 ·exact .inl h
 ·by_cases V:L.length=0
  ·exact .inl V
  ·refine .inr ⟨b,o,rfl,bJ z K.size,λk Y=>?_⟩;have h1:=W k Y;have E:b≠I:=by
    intro e;subst e;unfold pC at U;unfold World.cell? at h1;rw[U] at h1;simp at h1
    match hq:o+k with
    | 0=>rw[hq] at h1;simp at h1
    | 1=>rw[hq] at h1;simp at h1
    | 2=>rw[hq] at h1;simp at h1
    | 3=>rw[hq] at h1;simp at h1
    | 4=>rw[hq] at h1;simp at h1
    | q+5=>rw[hq] at h1;simp at h1
   rw[<- h1];unfold World.cell?;rw[K.block b z E]
theorem aAp(i:cL)(n:Int)(L:List ByteArray)(ao:Option Addr)(cap E:Nat)(w:World)(hv:gD w ao L)(hm:pC w E i n)(b3:L.length<=100000)(hn:0<=n)(b7:n<=100000000):
  Calls Tryz.prog 216 #[.pointer (some ⟨E,0,none⟩),.slice ao L.length cap] w λe w'=>∃v,e=.returned v/\w'.ownsRow w.heap.size 313 7 v (eD i n L).length (gN (eD i n L))/\pC w' E i (n+L.length)/\lZ w w' E:=by
 obtain⟨i0,hi,b0,b1,b2⟩:=info_parts Tryz.info313;have a1:=hm.lt;go_enter Tryz.func216,Tryz.ntmps216;go_wp2
 go_loopw [5,10] (λv i' wr=>∃k:Nat,k<=L.length/\i'=.int .i64 k/\wr.ownsRow w.heap.size 313 7 v (qT i n L k).length (gN (qT i n L k))/\Hid (pC wr E i (n+k))/\lZ w wr E) (λ_ i' _=>L.length - (intOf i').toNat)
 case atStart=>exact⟨0,aE _,rfl,by simpa[qT] using aK _ _ _ _,by show pC _ _ _ _;simpa using hm,lZ.refl _ _⟩
 case round=>
  obtain⟨k,hk,rfl,z,HM,J⟩:=hrel;have b8:w.heap.size<=wr.heap.size:=J.size;have a7:=aM9 i n L k;by_cases a8:k<L.length
  ·have a9:=hv.but hm J;rcases a9 with h|⟨b,o,rfl,hb,hc⟩
   ·omega
   have K:=hc k a8;have HS:=aO (aTt i n L k);obtain⟨l,hl⟩:∃l,L.getD k ByteArray.empty=l:=⟨_,rfl⟩;rw[hl] at K;have a2:Hid (brS i n L k=⟨i.a,i.b,i.c,i.d,n+k,l,true⟩):=by show _=_;unfold brS;rw[hl]
   clear hl hc;obtain⟨m0,m1,m2,m3,m4⟩:=HM.out.cells;generalize qT i n L k=A at *;have b6:(0:Int)<=n+k/\n+k<=200000000:=by omega
   generalize hq:n+(k:Int)=q at *
   go_wp2_with fail
   go_region_law (first
     | (refine step_append_lies _ (by rfl) _ _ _ (by rfl) w.heap.size 313 i0 _ 7 40 Tryz.underlying183 hi b0 b1 b2 rfl (by omega) _ A.length (gN A) (by rfl) ((z.alloc _).drew) ⟨wr.heap.size,0,none⟩ 1 1 (gN [⟨i.a,i.b,i.c,i.d,q,l,true⟩]) (by rfl) (by rfl) (World.news_of_block (cs:=#[.int .u8 i.a,.int .u8 i.b,.int .u8 i.c,.int .u8 i.d,.int .i64 q,.string l,.bool true]) (t:=313) (fr:=(0,0)) (heap_alloc_new wr.drew _)) (aPn _) (by omega) (by unfold maxLen;omega) (by omega) (by simp;omega) (wr.heap.size+1) (by simp) ?_;intro g cp Y U I b5 b4))
   all_goals
    have W:∀j,u5.ownBlock=some j->w.heap.size<=j:=λj hj=>(z.lt j hj).1;have a0:lZ w Y E:=((J.alloc _).drew).grown I W;have V:pC Y E i q:=by
     have h1:=I.block E (by simp;omega) (λe=>by have:=W E e.symm;omega);exact h1.trans ((Below.heap_alloc wr _ _ (by omega)).trans HM.out)
    have Z:Y.ownsRow w.heap.size 313 7 (.slice (some ⟨g,0,none⟩) (A.length+1) cp) (A++[(⟨i.a,i.b,i.c,i.d,q,l,true⟩:aU)]).length (gN (A++[(⟨i.a,i.b,i.c,i.d,q,l,true⟩:aU)])):=by rw[wN];simpa using U
    obtain⟨x0,x1,x2,x3,x4⟩:=V.cells;have xf:=V.free 4;have a3:Hid (pC (Y.setCell ⟨E,4,none⟩ (.int .i64 (q+1))) E i (q+1)):=V.put;have a5:(Y.setCell ⟨E,4,none⟩ (.int .i64 (q+1))).ownsRow w.heap.size 313 7 (.slice (some ⟨g,0,none⟩) (A.length+1) cp) (A++[(⟨i.a,i.b,i.c,i.d,q,l,true⟩:aU)]).length (gN (A++[(⟨i.a,i.b,i.c,i.d,q,l,true⟩:aU)])):=ownsRow_setCell_below Z (a:=⟨E,4,none⟩) a1 _;have a6:lZ w (Y.setCell ⟨E,4,none⟩ (.int .i64 (q+1))) E:=a0.set _;clear U I z J V Z a0 HM m0 m1 m2 m3 m4 K;go_wp2
    go_roundw
    case rel=>exact⟨k+1,by omega,by go_num,by rw[HS.out,a2.out,<- a7];exact a5,by show pC _ _ _ _;rw[show n+((k+1:Nat):Int)=q+1 by omega];exact a3.out,a6⟩
    case measure=>simp[intOf];omega
  ·have e:k=L.length:=by omega
   have HE:Hid (qT i n L k=eD i n L):=by show _=_;unfold eD;rw[e]
   have a4:Hid (pC wr E i (n+L.length)):=by have:=HM.out;rw[e] at this;exact this
   clear e;go_wp2;go_ret;rw[HE.out] at z;exact⟨_,rfl,z,a4.out,J⟩
def cV(N:List aU):List aU:=(N.take (N.length - 1)).drop 1
def mV(S N Br:List aU)(p:Nat):List aU:=S.take (p+1)++(cD (cV N)++(Br++S.drop (p+N.length - 1)))
theorem SV.rest{w:World}{b o cap:Nat}{S:List aU}{n:Nat}(h:SV w (.slice (some ⟨b,o,none⟩) n cap) S)(x:Nat)(z:x<=S.length):SV w (.slice (some ⟨b,o+x * 7,none⟩) (S.length - x) (cap - x)) (S.drop x):=by
 have:=h.part x S.length z (aA _);rwa[bD] at this
theorem SV.first{w:World}{b o cap:Nat}{S:List aU}{n:Nat}(h:SV w (.slice (some ⟨b,o,none⟩) n cap) S)(y:Nat)(z:y<=S.length):SV w (.slice (some ⟨b,o,none⟩) y cap) (S.take y):=by
 have:=h.part 0 y (aE _) z;simpa using this
theorem aW3{w:World}{g:Nat}{x y z u:Value}{t:TypeId}{f:Nat×Nat}(h:w.heap[g]?=some (.cells #[x,y,z,u] t f)):w.cell? ⟨g,0+0,none⟩=some x/\w.cell? ⟨g,0+1,none⟩=some y/\w.cell? ⟨g,0+2,none⟩=some z/\w.cell? ⟨g,0+3,none⟩=some u:=by
 simp[World.cell?,h]
theorem aZb(w:World)(x y z u:Value)(X Y Z U:List aU)(hx:SV w x X)(hy:SV w y Y)(hz:SV w z Z)(hu:SV w u U)(W:X.length+Y.length+Z.length+U.length<=1000000):
  Calls Tryz.prog 267 #[.slice (some ⟨w.heap.size,0,none⟩) 4 4] (w.alloc (.cells #[x,y,z,u] 183)) λe w'=>∃v,e=.returned v/\w'.ownsRow w.heap.size 313 7 v (X++(Y++(Z++U))).length (gN (X++(Y++(Z++U))))/\Below w.heap.size w w':=by
 have K:Below w.heap.size w (w.alloc (.cells #[x,y,z,u] 183)):=(Below.refl _ _).alloc (aA _) _;have E:=aW3 (aH w (.cells #[x,y,z,u] 183)).1;have hR:RV (w.alloc (.cells #[x,y,z,u] 183)) (.slice (some ⟨w.heap.size,0,none⟩) 4 4) [(x,X),(y,Y),(z,Z),(u,U)]:=by
  refine⟨_,_,rfl,λk r I=>⟨w.heap.size,0,rfl,by simp,?_⟩⟩
  match k,I with
  | 0,I=>cases I;exact E.1
  | 1,I=>cases I;exact E.2.1
  | 2,I=>cases I;exact E.2.2.1
  | 3,I=>cases I;exact E.2.2.2
  | k+4,I=>simp at I
 have J:∀r∈[(x,X),(y,Y),(z,Z),(u,U)],SV (w.alloc (.cells #[x,y,z,u] 183)) r.1 r.2:=by
  intro r hr;simp only[cC,fN,or_false] at hr;rcases hr with rfl|rfl|rfl|rfl
  ·exact hx.below K (aA _)
  ·exact hy.below K (aA _)
  ·exact hz.below K (aA _)
  ·exact hu.below K (aA _)
 have e:([(x,X),(y,Y),(z,Z),(u,U)]:List (Value×List aU)).flatMap (·.2)=X++(Y++(Z++U)):=by simp
 have h:=yO _ _ _ hR J (by simp) (by rw[e];simp only[aJ];omega);rw[e] at h;refine h.mono ?_;rintro e' w' ⟨v,rfl,ho,V⟩;exact⟨v,rfl,bK ho (by simp),K.trans (V.mono (by simp))⟩
theorem aH7(S N Br:List aU)(t:aU)(p:Nat)(hN:N[0]?=some t)(hp:rY S t=some p)(c0:p+N.length<=S.length)(b4:2<=N.length)(nv bv v0:Value)(w:World)(hn:SV w nv N)(hb:SV w bv Br)(hv:SV w v0 S)(c4:S.length+N.length+Br.length<=300000):
  Calls Tryz.prog 355 #[.agg #[nv,bv],v0] w λe w'=>∃v,e=.returned v/\w'.ownsRow w.heap.size 313 7 v (mV S N Br p).length (gN (mV S N Br p))/\Below w.heap.size w w':=by
 obtain⟨Y,Z,rfl⟩:=hn.shape;obtain⟨K,U,rfl⟩:=hb.shape;obtain⟨b,o,cap,rfl,c3⟩:∃b o cap,v0=.slice (some ⟨b,o,none⟩) S.length cap/\S.length<=cap:=by
  rcases hv with ⟨_,rfl⟩|⟨b,o,cap,rfl,hc,_⟩
  ·rw[cX] at c0;omega
  ·exact⟨b,o,cap,rfl,hc⟩
 have J:Below w.heap.size w (w.alloc (.cells #[.slice Y N.length Z,.slice K Br.length U] 327)):=(Below.refl _ _).alloc (aA _) _;have a5:=(aH w (.cells #[.slice Y N.length Z,.slice K Br.length U] 327)).1;have d3:(w.alloc (.cells #[.slice Y N.length Z,.slice K Br.length U] 327)).heap.size=w.heap.size+1:=by simp
 have HP:Hid (Calls Tryz.prog 362 #[.agg #[.slice Y N.length Z,.slice K Br.length U],.slice (some ⟨b,o,none⟩) S.length cap] (w.alloc (.cells #[.slice Y N.length Z,.slice K Br.length U] 327)) λe w'=>e=.returned (.int .i64 (p:Int))/\Below (w.alloc (.cells #[.slice Y N.length Z,.slice K Br.length U] 327)).heap.size (w.alloc (.cells #[.slice Y N.length Z,.slice K Br.length U] 327)) w'):=by
  have h:=aA9 N S t hN _ _ _ K Br.length U rfl _ (hn.below J (aA _)) (hv.below J (aA _)) (by omega);rw[hp] at h;exact h
 clear hp hN;have a8:=hn.below J (aA _);have a1:=hb.below J (aA _);have b1:=hv.below J (aA _);clear hn hb hv;go_enter Tryz.func355,Tryz.ntmps355
 go_wp2_with fail
 generalize w.alloc (.cells #[.slice Y N.length Z,.slice K Br.length U] 327)=wa at *;refine HP.out.mono ?_;rintro e w1 ⟨rfl,I⟩;clear HP;have b9:=a8.below I (aA _);have b5:=a1.below I (aA _);have b2:=b1.below I (aA _);have a6:=(I.block w.heap.size (by omega)).trans a5;have a2:Below w.heap.size w w1:=J.trans (I.mono (by omega));have d4:=I.size;obtain⟨k0,k1⟩:=iJ a6;clear a8 a1 b1 a5 J I
 go_wp2_with fail
 obtain⟨q,hq⟩:∃q:Nat,q+1=p+N.length:=⟨p+N.length - 1,by omega⟩;have c2:(p:Int)+(N.length:Int) - 1=(q:Int):=by omega
 rw[c2];have d1:(q:Int)<=(S.length:Int):=by omega
 have c1:q<=S.length:=by omega
 have c9:(p:Int)+1<=(cap:Int):=by omega
 have c8:(0:Int)<=(p:Int)+1:=by omega
 have d0:p+1<=cap:=by omega
 have d2:q<=cap:=by omega
 have d6:IntKind.i64.wrap ((p:Int)+1)=(p:Int)+1:=by simp[IntKind.wrap,IntKind.signed,IntKind.bits];omega
 have d5:((p:Int)+1).toNat=p+1:=by omega
 have c7:(cV N).length<=900000:=by unfold cV;simp;omega
 have HF:Hid (mV S N Br p=S.take (p+1)++(cD (cV N)++(Br++S.drop q))):=by show _=_;unfold mV;rw[show p+N.length - 1=q by omega]
 have c6:(cD (cV N)).length<=N.length:=by unfold cD cV;simp;omega
 have b0:(S.take (p+1)).length+(cD (cV N)).length+Br.length+(S.drop q).length<=1000000:=by simp;omega
 obtain⟨F,hF⟩:∃F,S.take (p+1)++(cD (cV N)++(Br++S.drop q))=F:=⟨_,rfl⟩;have b3:Hid (mV S N Br p=F):=by show _=_;rw[HF.out,hF]
 go_region_with (first
  | (go_at_call 360;refine(vS N _ _ K Br.length U rfl _ (by exact b9) (by omega) b4).mono ?_;rintro e w2 ⟨mv,rfl,b8,z⟩;have W:SV w2 mv (cV N):=b8;obtain⟨ma,mc,rfl⟩:=W.shape;have a7:=(z.block w.heap.size (by simp;omega)).trans a6;have d7:w2.cell? ⟨w.heap.size,1,none⟩=some (.slice K Br.length U):=(iJ a7).2)
  | (go_at_call 345;refine(aC6 (cV N) _ _ (by exact W) (by omega)).mono ?_;rintro e w3 ⟨dv,rfl,b6,E⟩;have a4:=SV.own b6;obtain⟨da,dc,rfl⟩:=a4.shape;have b7:=(E.block w.heap.size (by have:=z.size;simp at this ⊢;omega)).trans a7;have c5:w3.cell? ⟨w.heap.size,1,none⟩=some (.slice K Br.length U):=(iJ b7).2)
  | (go_at_call 267;have HC:=aZb w3 _ _ _ _ (S.take (p+1)) (cD (cV N)) Br (S.drop q) ((((show SV w1.drew _ _ from b2).below z (aA _)).below E (aA _)).first (p+1) (by omega)) a4 (((show SV w1.drew _ _ from b5).below z (aA _)).below E (aA _)) ((((show SV w1.drew _ _ from b2).below z (aA _)).below E (aA _)).rest q c1) b0;rw[hF] at HC;refine HC.mono ?_;clear HC;rintro e w4 ⟨rv,rfl,a0,V⟩;obtain⟨ra,rc,rfl⟩:=bC a0))
 all_goals
  have a3:Below w.heap.size w w4:=((a2.drew.trans (z.mono (by simp;omega))).trans (E.mono (by have:=z.size;simp at this;omega))).trans (V.mono (by have:=z.size;have:=E.size;simp at *;omega));have a9:=bK a0 (show w.heap.size<=w3.heap.size by have:=z.size;have:=E.size;simp at *;omega);clear a0 z E V;go_wp2;go_ret;exact⟨_,rfl,by rw[b3.out];exact a9,a3⟩
def gI(mark:ByteArray)(S:List aU):ByteArray:=⟨(eQ mark (aL S)).toArray⟩
def aDc(S N Br:List aU)(p:Nat):ByteArray:=((((⟨#[64]⟩:ByteArray)++⟨(Lib.decDigits (living (S.take (p+1))).length).toArray⟩)++⟨#[10]⟩)++gI ⟨#[45]⟩ (cV N))++gI ⟨#[43]⟩ Br
structure yI (S:List aU):Prop where
 len:S.length<=100000
 line:∀l∈aL S,l.size<=1000
theorem wQ(mark:ByteArray)(K:mark.size<=10)(L:List ByteArray)(h:∀l∈L,l.size<=1000):(eQ mark L).length<=L.length * 1012:=by
 induction L with
 | nil=>simp[eQ]
 | cons l L ih=>
  have h1:=ih (λx I=>h x (dP _ I));have h2:=h l eT;have e:eQ mark (l::L)=tlB mark l++eQ mark L:=by simp[eQ]
  have z:mark.data.toList.length=mark.size:=fP;have E:l.data.toList.length=l.size:=fP;have J:(tlB mark l).length<=1012:=by
   unfold tlB;split<;>simp only[aJ,z,E,cX,aY]<;>omega
  rw[e,aJ,aY];omega
theorem aWo(n:Nat)(h:n<100):(⟨(Lib.decDigits n).toArray⟩:ByteArray).size<=2:=by
 have h2:∀n,n<100->(Lib.decDigits n).length<=2:=by decide +kernel
 exact h2 n h
theorem uO(mark:ByteArray)(S:List aU)(z:mark.size<=10)(hs:yI S):(gI mark S).size<=200000000:=by
 have h1:=wQ mark z (aL S) hs.line;have h2:=lV S;have E:=hs.len;show (eQ mark (aL S)).length<=_;omega
theorem kJ(mark:ByteArray)(S:List aU)(z:Value)(w:World)(hv:SV w z S)(E:mark.size<=10)(hs:yI S):
  Calls Tryz.prog 338 #[.string mark,z] w λe w'=>e=.returned (.string (gI mark S))/\Below w.heap.size w w':=by
 have h1:=wQ mark E (aL S) hs.line;have h2:=lV S;have J:=hs.len;exact aCq mark S z w hv (by omega) E (by omega) (λl I=>by have:=hs.line l I;omega)
theorem aK3(S N Br:List aU)(t:aU)(p:Nat)(hN:N[0]?=some t)(hp:rY S t=some p)(b5:p+1<=S.length)(c1:2<=N.length)(nv bv v0:Value)(w:World)(hn:SV w nv N)(hb:SV w bv Br)(hv:SV w v0 S)(hS:S.length<=100000)
  (b7:yI (cV N)) (b6:yI Br) (d6:N.length<=100000) (Y:(living (S.take (p+1))).length<100) :
  Calls Tryz.prog 361 #[.agg #[nv,bv],v0] w λe w'=>e=.returned (.string (aDc S N Br p))/\Below w.heap.size w w':=by
 obtain⟨na,nc,rfl⟩:=hn.shape;obtain⟨V,W,rfl⟩:=hb.shape;obtain⟨b,o,cap,rfl,d4⟩:∃b o cap,v0=.slice (some ⟨b,o,none⟩) S.length cap/\S.length<=cap:=by
  rcases hv with ⟨_,rfl⟩|⟨b,o,cap,rfl,hc,_⟩
  ·rw[cX] at b5;omega
  ·exact⟨b,o,cap,rfl,hc⟩
 have U:Below w.heap.size w (w.alloc (.cells #[.slice na N.length nc,.slice V Br.length W] 327)):=(Below.refl _ _).alloc (aA _) _;have b0:=(aH w (.cells #[.slice na N.length nc,.slice V Br.length W] 327)).1;have e0:(w.alloc (.cells #[.slice na N.length nc,.slice V Br.length W] 327)).heap.size=w.heap.size+1:=by simp
 have HP:Hid (Calls Tryz.prog 362 #[.agg #[.slice na N.length nc,.slice V Br.length W],.slice (some ⟨b,o,none⟩) S.length cap] (w.alloc (.cells #[.slice na N.length nc,.slice V Br.length W] 327)) λe w'=>e=.returned (.int .i64 (p:Int))/\Below (w.alloc (.cells #[.slice na N.length nc,.slice V Br.length W] 327)).heap.size (w.alloc (.cells #[.slice na N.length nc,.slice V Br.length W] 327)) w'):=by
  have h:=aA9 N S t hN _ _ _ V Br.length W rfl _ (hn.below U (aA _)) (hv.below U (aA _)) (by omega);rw[hp] at h;exact h
 clear hp hN;have b3:=hn.below U (aA _);have a5:=hb.below U (aA _);have b8:=hv.below U (aA _);clear hn hb hv;have d7:(0:Int)<=(p:Int)+1:=by omega
 have d8:(p:Int)+1<=(cap:Int):=by omega
 have d9:p+1<=cap:=by omega
 go_enter Tryz.func361,Tryz.ntmps361
 go_wp2_with fail
 generalize w.alloc (.cells #[.slice na N.length nc,.slice V Br.length W] 327)=wa at *;refine HP.out.mono ?_;rintro e w1 ⟨rfl,z⟩;clear HP;have b4:=b3.below z (aA _);have a6:=a5.below z (aA _);have b9:=b8.below z (aA _);have a3:=(z.block w.heap.size (by omega)).trans b0;have a7:Below w.heap.size w w1:=U.trans (z.mono (by omega));have e1:=z.size;obtain⟨k0,k1⟩:=iJ a3;clear b3 a5 b8 b0 U z;have HL:Hid (Calls Tryz.prog 237 #[.slice (some ⟨b,o,none⟩) (p+1) cap] w1 λe w'=>∃v,e=.returned v/\w'.ownsRow w1.heap.size 3 1 v (living (S.take (p+1))).length (aRu (living (S.take (p+1))))/\Below w1.heap.size w1 w'):=
  sA (S.take (p+1)) _ w1 (b9.first (p+1) b5) (by simp;omega)
 go_wp2_with fail
 refine HL.out.mono ?_;rintro e w2 ⟨lv,rfl,a4,J⟩;clear HL;obtain⟨n,hn⟩:∃n,(living (S.take (p+1))).length=n:=⟨_,rfl⟩;rw[hn] at a4 Y;have c0:=aO hn;clear hn;obtain⟨la,lc,rfl⟩:=bC a4;clear a4;have c6:=b4.below J (aA _);have c2:=a6.below J (aA _);have b1:=(J.block w.heap.size (by omega)).trans a3;have a8:Below w.heap.size w w2:=a7.trans (J.mono (by omega));have e2:=J.size;obtain⟨e7,e8⟩:=iJ b1;clear b4 a6 b9 a3 J k0 k1
 go_wp2_with fail
 refine(Tryz.strconv_Itoa_small n Y w2).mono ?_;rintro e d3 ⟨rfl,rfl⟩;have c3:(⟨(Lib.decDigits n).toArray⟩:ByteArray).size<=2:=aWo n Y;obtain⟨D,hD⟩:∃D:ByteArray,(⟨(Lib.decDigits n).toArray⟩:ByteArray)=D:=⟨_,rfl⟩;rw[hD] at c3 ⊢;have HD:=aO hD;clear hD;have c7:(⟨#[64]⟩:ByteArray).size=1:=rfl;have c8:(⟨#[10]⟩:ByteArray).size=1:=rfl;have c9:((⟨#[64]⟩:ByteArray)++D).size<=3:=by rw[aN];omega
 have d0:(((⟨#[64]⟩:ByteArray)++D)++⟨#[10]⟩).size<=4:=by rw[aN];omega
 go_wp2_with fail
 obtain⟨E,hE⟩:∃E,((⟨#[64]⟩:ByteArray)++D)++⟨#[10]⟩=E:=⟨_,rfl⟩;rw[hE] at d0 ⊢;have HE:=aO hE;clear hE c9 c8 c7;have d1:=uO ⟨#[45]⟩ (cV N) (by decide) b7;have d2:=uO ⟨#[43]⟩ Br (by decide) b6;obtain⟨T1,a1⟩:∃T1,gI ⟨#[45]⟩ (cV N)=T1:=⟨_,rfl⟩;obtain⟨T2,a2⟩:∃T2,gI ⟨#[43]⟩ Br=T2:=⟨_,rfl⟩;rw[a1] at d1;rw[a2] at d2;have e3:¬ (9223372036854775807<(E.size:Int)+(T1.size:Int)):=by omega
 have e4:(E++T1).size=E.size+T1.size:=aN;have e5:¬ (9223372036854775807<(E.size:Int)+(T1.size:Int)+(T2.size:Int)):=by omega
 have e6:¬ (9223372036854775807<((E++T1).size:Int)+(T2.size:Int)):=by omega
 have d5:Hid (cV N=(N.take (N.length - 1)).drop 1):=rfl
 go_region_with (first
  | (go_at_call 360;refine(vS N _ _ V Br.length W rfl _ (by exact c6) (by omega) c1).mono ?_;rintro e w3 ⟨mv,rfl,c5,I⟩;have a0:SV w3 mv (cV N):=c5;obtain⟨ma,mc,rfl⟩:=a0.shape;have b2:=(I.block w.heap.size (by simp;omega)).trans b1;have e9:w3.cell? ⟨w.heap.size,1,none⟩=some (.slice V Br.length W):=(iJ b2).2)
  | (go_at_call_of 338 (Value.string (⟨#[45]⟩:ByteArray));refine(kJ ⟨#[45]⟩ (cV N) _ _ (by exact a0) (by decide) b7).mono ?_;rw[a1];rintro e w4 ⟨rfl,K⟩;have c4:=(K.block w.heap.size (by have:=I.size;simp at this ⊢;omega)).trans b2;have f3:w4.cell? ⟨w.heap.size,1,none⟩=some (.slice V Br.length W):=(iJ c4).2)
  | (go_at_call_of 338 (Value.string (⟨#[43]⟩:ByteArray));refine(kJ ⟨#[43]⟩ Br _ _ (((show SV d3.drew _ _ from c2).below I (aA _)).below K (aA _)) (by decide) b6).mono ?_;rw[a2];rintro e w5 ⟨rfl,Z⟩))
 all_goals
  have a9:Below w.heap.size w w5:=((a8.drew.trans (I.mono (by simp;omega))).trans (K.mono (by have:=I.size;simp at this;omega))).trans (Z.mono (by have:=I.size;have:=K.size;simp at *;omega));clear I K Z;go_wp2;go_ret;exact⟨by unfold aDc;rw[c0.out,HD.out,a1,a2,HE.out];rfl,a9⟩
def aJi(O:List ByteArray)(i k:Nat):List ByteArray:=(O.take k).drop i
theorem aEj{P:Program}{w:World}(z:Nat)(t ty e:TypeId)(i:TypeInfo)(size:Nat)(K:P.underlying t=some (.slice e))(hi:P.info? e=some i)
  (v:Value) (n:Nat) (W:List Value) (E:w.ownsRow z e size v n W) (J:Option Addr) (V:Nat) :
  (Builtin.append_ #[t,t] ty #[v,.slice J 0 V]).run P w=.ok v w:=by
 rcases E.2 with ⟨rfl,rfl⟩|⟨g,cap,U,rfl,_,_,I,_⟩
 ·cases J<;>simp[Builtin.append_,run_underlying K,sizeOf,typeInfo,hi,Builtin.lenOf,Builtin.firstCells,loadCells,loadCellsFrom]
 ·cases J<;>simp[Builtin.append_,run_underlying K,sizeOf,typeInfo,hi,Builtin.lenOf,Builtin.firstCells,I,storeCells,loadCells,loadCellsFrom]
theorem aCn{P:Program}{w:World}{U:Array Oper}{o:Oper}{a:Act}{K:Act->World->Prop}{Q:Exit->Act->World->Prop}{E:Prop}(V:o.guard=none)(s x:Operand)(t:TypeId)
  (ho:o.op=.call { callee:=.builtin .append,args:=#[s,x],argTypes:=#[t,t] })
  (z:Nat) (e:TypeId) (i:TypeInfo) (size:Nat) (ht:P.underlying t=some (.slice e)) (hi:P.info? e=some i)
  (v:Value) (n:Nat) (xs:List Value) (hs:a.eval s=v) (I:w.ownsRow z e size v n xs) (W:∃Y Z,a.eval x=.slice Y 0 Z)
  (h:K (a.put o.dst v) w):if Region.wanted o (yielded U a.tmps)=true then Oper.wp P o a w K Q else E:=by
 have hw:Region.wanted o (yielded U a.tmps)=true:=by simp[Region.wanted,V]
 rw[if_pos hw];obtain⟨Y,Z,W⟩:=W;have J:=aEj (P:=P) (w:=w) z t o.type e i size ht hi v n xs I Y Z;unfold Oper.wp;simp[execOp,ho,resolve,invoke,builtin,hs,W,J,Result.andThen];exact h
end Go.Proofs.YtgdfipmdmgkidaaGreatDoor
