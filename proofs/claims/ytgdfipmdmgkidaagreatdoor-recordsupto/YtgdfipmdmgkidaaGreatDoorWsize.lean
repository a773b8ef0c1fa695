import Derived.Test.YtgdfipmdmgkidaaGreatDoorProg
import Derived.Test.YtgdfipmdmgkidaaGreatDoorRunes
import Derived.WalkKit
import Derived.WalkSpells
import Derived.WalkLawsBesides
import Derived.WalkSmall
import Derived.Test.YtgdfipmdmgkidaaGreatDoorAl
set_option linter.all false
set_option maxHeartbeats 1600000
set_option maxRecDepth 100000
namespace Go.Proofs.YtgdfipmdmgkidaaGreatDoor
open Go.RowKit
theorem aO{p:Prop}(h:p):RowKit.Hid p:=h
theorem cB{a b:Bool}(h:a=b):Ending.returned (.bool a)=.returned (.bool b):=by rw[h]
theorem fW{k:IntKind}{a b:Int}(h:a=b):Ending.returned (.int k a)=.returned (.int k b):=by rw[h]
theorem nC(c k b:Int)(w:World):
  Calls Tryz.prog 238 #[.int .u8 c,.int .i64 k,.int .u8 b] w λe w'=>e=.returned (.bool (wD c k b))/\w'=w:=by
 go_enter Tryz.func238,Tryz.ntmps238;go_wp2
 all_goals
  go_ret;refine⟨cB ?_,rfl⟩;rw[kU];simp only[wD,decide_eq_true_eq]
  simp_all
  try omega
theorem aA3(s:ByteArray)(a:Nat):aPa s a 1:=λi h1 h2=>by omega
theorem aCf{s:ByteArray}{a j:Nat}(h:aPa s a j)(z:a+j<s.size)(E:wD (gb s a) j (gb s (a+j))=true):aPa s a (j+1):=by
 intro i h1 h2;by_cases e:i=j
 ·subst e;exact⟨z,E⟩
 ·exact h i h1 (by omega)
theorem aLw{s:ByteArray}{a j:Nat}(h:aPa s a j)(z:a<s.size)(E:1<=j):a+j<=s.size:=by
 by_cases e:j=1
 ·omega
 ·have:=(h (j - 1) (by omega) (by omega)).1;omega
theorem bBc(s:ByteArray)(a:Nat)(w:World)(h:a<s.size)(E:s.size<=maxLen)(h1:s[a].toNat<194\/244<s[a].toNat):
  Calls Tryz.prog 201 #[.string s,.int .i64 a] w λe w'=>e=.returned (.int .i64 (Utf8.decode s a).2)/\w'=w:=by
 have z:Hid (cls 1 (gb s a)):=by rw[gT s a h] at h1;unfold cls;show _\/_;omega
 rcases h1 with h1|h1
 all_goals
  go_enter Tryz.func201,Tryz.ntmps201;go_wp2;refine wp_loop_rounds 1 ?_;rw[rounds_succ];go_wp2;go_ret;exact⟨fW (by rw[aKv s a 1 h z.out (aA3 s a)];rfl),rfl⟩
theorem bBd(s:ByteArray)(a:Nat)(w:World)(h:a<s.size)(hs:s.size<=maxLen)(h1:194<=s[a].toNat)(h2:s[a].toNat<=223):
  Calls Tryz.prog 201 #[.string s,.int .i64 a] w λe w'=>e=.returned (.int .i64 (Utf8.decode s a).2)/\w'=w:=by
 have U:Hid (cls 2 (gb s a)):=by rw[gT s a h] at h1 h2;unfold cls;show _\/_;omega
 unfold maxLen at hs;have g1:decide ((s[a].toNat:Int)<=223)=true:=by simp;omega
 have g2:decide ((194:Int)<=(s[a].toNat:Int))=true:=by simp;omega
 go_enter Tryz.func201,Tryz.ntmps201;go_wp2
 go_loop [7] (λk=>∃j:Nat,1<=j/\j<=2/\k=.int .i64 j/\aPa s a j) (λk=>(2 - intOf k).toNat)
 case atStart=>exact⟨1,by omega,by omega,rfl,aA3 s a⟩
 case round=>
  obtain⟨j,E,V,rfl,I⟩:=hrel;by_cases J:j<2
  ·by_cases z:a+j<s.size
   ·cases K:wD s[a].toNat j s[a+j].toNat
    ·go_wp2_with (go_at_call 238;refine(nC _ _ _ _).mono ?_;rintro e w' ⟨rfl,rfl⟩)
     go_ret;rw[gT s a h,gT s (a+j) z] at K;exact⟨fW (by rw[aBy s a 2 j h U.out E J (by rw[K];simp)];rfl),rfl⟩
    ·go_wp2_with (go_at_call 238;refine(nC _ _ _ _).mono ?_;rintro e w' ⟨rfl,rfl⟩)
     go_round
     case rel=>
      rw[gT s a h,gT s (a+j) z] at K;exact⟨j+1,by omega,by omega,by go_num,aCf I z K⟩
     case measure=>simp[intOf];omega
   ·have W:=aLw I h E
    go_wp2_with fail
    go_ret;exact⟨fW (by rw[aBy s a 2 j h U.out E J (by omega)];rfl),rfl⟩
  ·go_wp2_with fail
   go_ret;have e:j=2:=by omega
   subst e;exact⟨fW (by rw[aKv s a _ h U.out I];rfl),rfl⟩
theorem bBe(s:ByteArray)(a:Nat)(w:World)(h:a<s.size)(hs:s.size<=maxLen)(h1:224<=s[a].toNat)(h2:s[a].toNat<=239):
  Calls Tryz.prog 201 #[.string s,.int .i64 a] w λe w'=>e=.returned (.int .i64 (Utf8.decode s a).2)/\w'=w:=by
 have U:Hid (cls 3 (gb s a)):=by rw[gT s a h] at h1 h2;unfold cls;show _\/_;omega
 unfold maxLen at hs;have g1:decide ((s[a].toNat:Int)<=223)=false:=by simp;omega
 have g2:decide ((194:Int)<=(s[a].toNat:Int))=true:=by simp;omega
 have g3:decide ((s[a].toNat:Int)<=239)=true:=by simp;omega
 have Y:decide ((224:Int)<=(s[a].toNat:Int))=true:=by simp;omega
 go_enter Tryz.func201,Tryz.ntmps201;go_wp2
 go_loop [7] (λk=>∃j:Nat,1<=j/\j<=3/\k=.int .i64 j/\aPa s a j) (λk=>(3 - intOf k).toNat)
 case atStart=>exact⟨1,by omega,by omega,rfl,aA3 s a⟩
 case round=>
  obtain⟨j,E,V,rfl,I⟩:=hrel;by_cases J:j<3
  ·by_cases z:a+j<s.size
   ·cases K:wD s[a].toNat j s[a+j].toNat
    ·go_wp2_with (go_at_call 238;refine(nC _ _ _ _).mono ?_;rintro e w' ⟨rfl,rfl⟩)
     go_ret;rw[gT s a h,gT s (a+j) z] at K;exact⟨fW (by rw[aBy s a 3 j h U.out E J (by rw[K];simp)];rfl),rfl⟩
    ·go_wp2_with (go_at_call 238;refine(nC _ _ _ _).mono ?_;rintro e w' ⟨rfl,rfl⟩)
     go_round
     case rel=>
      rw[gT s a h,gT s (a+j) z] at K;exact⟨j+1,by omega,by omega,by go_num,aCf I z K⟩
     case measure=>simp[intOf];omega
   ·have W:=aLw I h E
    go_wp2_with fail
    go_ret;exact⟨fW (by rw[aBy s a 3 j h U.out E J (by omega)];rfl),rfl⟩
  ·go_wp2_with fail
   go_ret;have e:j=3:=by omega
   subst e;exact⟨fW (by rw[aKv s a _ h U.out I];rfl),rfl⟩
theorem bBf(s:ByteArray)(a:Nat)(w:World)(h:a<s.size)(hs:s.size<=maxLen)(h1:240<=s[a].toNat)(h2:s[a].toNat<=244):
  Calls Tryz.prog 201 #[.string s,.int .i64 a] w λe w'=>e=.returned (.int .i64 (Utf8.decode s a).2)/\w'=w:=by
 have U:Hid (cls 4 (gb s a)):=by rw[gT s a h] at h1 h2;unfold cls;show _\/_;omega
 unfold maxLen at hs;have g1:decide ((s[a].toNat:Int)<=223)=false:=by simp;omega
 have g2:decide ((194:Int)<=(s[a].toNat:Int))=true:=by simp;omega
 have g3:decide ((s[a].toNat:Int)<=239)=false:=by simp;omega
 have Y:decide ((224:Int)<=(s[a].toNat:Int))=true:=by simp;omega
 have Z:decide ((s[a].toNat:Int)<=244)=true:=by simp;omega
 have g6:decide ((240:Int)<=(s[a].toNat:Int))=true:=by simp;omega
 go_enter Tryz.func201,Tryz.ntmps201;go_wp2
 go_loop [7] (λk=>∃j:Nat,1<=j/\j<=4/\k=.int .i64 j/\aPa s a j) (λk=>(4 - intOf k).toNat)
 case atStart=>exact⟨1,by omega,by omega,rfl,aA3 s a⟩
 case round=>
  obtain⟨j,E,V,rfl,I⟩:=hrel;by_cases J:j<4
  ·by_cases z:a+j<s.size
   ·cases K:wD s[a].toNat j s[a+j].toNat
    ·go_wp2_with (go_at_call 238;refine(nC _ _ _ _).mono ?_;rintro e w' ⟨rfl,rfl⟩)
     go_ret;rw[gT s a h,gT s (a+j) z] at K;exact⟨fW (by rw[aBy s a 4 j h U.out E J (by rw[K];simp)];rfl),rfl⟩
    ·go_wp2_with (go_at_call 238;refine(nC _ _ _ _).mono ?_;rintro e w' ⟨rfl,rfl⟩)
     go_round
     case rel=>
      rw[gT s a h,gT s (a+j) z] at K;exact⟨j+1,by omega,by omega,by go_num,aCf I z K⟩
     case measure=>simp[intOf];omega
   ·have W:=aLw I h E
    go_wp2_with fail
    go_ret;exact⟨fW (by rw[aBy s a 4 j h U.out E J (by omega)];rfl),rfl⟩
  ·go_wp2_with fail
   go_ret;have e:j=4:=by omega
   subst e;exact⟨fW (by rw[aKv s a _ h U.out I];rfl),rfl⟩
theorem aPr(s:ByteArray)(a:Nat)(w:World)(h:a<s.size)(hs:s.size<=maxLen):
  Calls Tryz.prog 201 #[.string s,.int .i64 a] w λe w'=>e=.returned (.int .i64 (Utf8.decode s a).2)/\w'=w:=by
 by_cases z:s[a].toNat<194\/244<s[a].toNat
 ·exact bBc s a w h hs z
 by_cases E:s[a].toNat<=223
 ·exact bBd s a w h hs (by omega) E
 by_cases I:s[a].toNat<=239
 ·exact bBe s a w h hs (by omega) I
 ·exact bBf s a w h hs (by omega) (by omega)
theorem aCl(s:ByteArray)(w:World)(hs:s.size<=maxLen):
  Calls Tryz.prog 137 #[.string s] w λe w'=>e=.returned (.int .i64 (pU s 0))/\w'=w:=by
 have E:=hs;unfold maxLen at E;go_enter Tryz.func137,Tryz.ntmps137;go_wp2
 go_loop [3,4] (λn i=>∃k p:Nat,p<=s.size/\k<=p/\i=.int .i64 p/\n=.int .i64 k/\k+pU s p=pU s 0) (λ_ i=>s.size - (intOf i).toNat)
 case atStart=>exact⟨0,0,aE _,aE _,rfl,rfl,by omega⟩
 case round=>
  obtain⟨k,p,V,U,rfl,rfl,J⟩:=hrel;have I:=aO J;clear J;by_cases z:p<s.size
  ·have W:=jU s p z;have K:=aQw s p z
   go_wp2_with (go_at_call 201;refine(aPr _ _ _ z hs).mono ?_;rintro e w' ⟨rfl,rfl⟩)
   go_round
   case rel=>exact⟨k+1,p+(Utf8.decode s p).2,K,by omega,by go_num,by go_num,by have:=nN s p z;have:=I.out;omega⟩
   case measure=>simp[intOf];omega
  ·go_wp2;go_ret;exact⟨fW (by have:=aBa s p (by omega);have:=I.out;omega),rfl⟩
theorem sZ(s:ByteArray)(z:Nat)(w:World)(Y:z<=1000000):
  Calls Tryz.prog 63 #[.string s,.int .i64 z] w λe w'=>e=.returned (.bool (decide (z<pU s 0)))/\∃pos,w'=w.iter s pos:=by
 go_enter Tryz.func63,Tryz.ntmps63;go_wp2
 go_loopw [5] (λn w'=>∃(pos k:Nat),w'=w.iter s pos/\n=.int .i64 k/\k<=z/\k+pU s pos=pU s 0) (λ_ w'=>s.size - w'.iterPos w.heap.size)
 case atStart=>exact⟨0,0,rfl,rfl,aE _,by omega⟩
 case round=>
  obtain⟨pos,k,rfl,rfl,W,K⟩:=hrel;have I:=aO K;clear K;by_cases E:pos<s.size
  ·have J:∀ty,(Instr.next (.pointer (some ⟨w.heap.size,0,none⟩)) true ty).run Tryz.prog (w.iter s pos)=_:=λty=>run_next_any w s pos ty E;have V:=jU s pos E;by_cases U:z<k+1
   ·go_wp2;go_ret;exact⟨cB (by have:=nN s pos E;have:=I.out;symm;rw[decide_eq_true_eq];omega),_,rfl⟩
   ·go_wp2
    go_roundw
    case rel=>exact⟨pos+(Utf8.decode s pos).2,k+1,rfl,by go_num,by omega,by have:=nN s pos E;have:=I.out;omega⟩
    case measure=>simp;omega
  ·have J:∀ty,(Instr.next (.pointer (some ⟨w.heap.size,0,none⟩)) true ty).run Tryz.prog (w.iter s pos)=_:=λty=>run_next_end w s pos ty E;go_wp2;go_ret;exact⟨cB (by have:=aBa s pos (by omega);have:=I.out;symm;rw[decide_eq_false_iff_not];omega),_,rfl⟩
theorem aYf(s:ByteArray)(h1:1<=(s.size:Int))(h:((s.extract (s.size - 1) s.size).toList == [10])=true):s.extract 0 (s.size - 1)=sD s:=by
 rw[aJd s (by omega),decide_eq_true_eq] at h;unfold sD;rw[if_pos ⟨by omega,h⟩]
theorem aZ6(s:ByteArray)(h1:1<=(s.size:Int))(h:((s.extract (s.size - 1) s.size).toList == [10])=false):s=sD s:=by
 rw[aJd s (by omega),decide_eq_false_iff_not] at h;unfold sD;rw[if_neg (by intro z;exact h z.2)]
theorem aVa(s:ByteArray)(h1:(s.size:Int)<1):s=sD s:=by
 unfold sD;rw[if_neg (by omega)]
theorem uI{a b:ByteArray}(h:a=b):Ending.returned (.string a)=.returned (.string b):=by rw[h]
theorem aYe(s:ByteArray)(w:World)(hs:s.size<=maxLen):
  Calls Tryz.prog 172 #[.string s,.string ⟨#[10]⟩] w λe w'=>e=.returned (.string (sD s))/\w'=w:=by
 unfold maxLen at hs;go_enter Tryz.func172,Tryz.ntmps172;go_wp2
 all_goals go_ret
 ·exact⟨uI (aYf s ‹_› ‹_›),rfl⟩
 ·exact⟨uI (aZ6 s ‹_› ‹_›),rfl⟩
 ·exact⟨uI (aVa s ‹_›),rfl⟩
theorem aF6(s:ByteArray)(w:World)(hs:s.size<=maxLen):
  Calls Tryz.prog 105 #[.string s] w λe w'=>e=.returned (.bool (decide (12<gB s)))/\Below w.heap.size w w':=by
 go_enter Tryz.func105,Tryz.ntmps105
 go_wp2_with (first
  | (go_at_call 172;refine(aYe _ _ hs).mono ?_;rintro e w' ⟨rfl,rfl⟩)
  | (go_at_call 63;refine(sZ _ 12 _ (by omega)).mono ?_;rintro e w' ⟨rfl,pos,rfl⟩))
 go_ret;exact⟨rfl,(Below.refl _ _).alloc (aA _) _⟩
theorem Tryz.info9:(Tryz.prog.info? 9).map (λi=>(i.zero,i.size,i.bytes))=some (some (.string ⟨#[]⟩),1,16):=by kernel_rfl
abbrev bW(L:List ByteArray):List Value:=L.map Value.string
theorem eX(L:List ByteArray):∀u∈bW L,u.oneCell'=true:=by
 intro u z;obtain⟨_,_,rfl⟩:=aI.1 z;rfl
theorem aDu(L:List ByteArray):(bW L).length=L.length:=by simp
theorem aJ2(L:List ByteArray)(x:ByteArray):bW L++[.string x]=bW (L++[x]):=by simp
theorem iY(w:World)(v:Value)(t:TypeId):∀j u,[v][j]?=some u->(w.alloc (.cells #[v] t)).cell? ((⟨w.heap.size,0,none⟩:Addr).add j)=some u:=by
 intro j u z
 match j,z with
 | 0,z=>simp at z;subst z;simp[Addr.add]
 | j+1,z=>simp at z
theorem iZ{B E:Nat}{w wr K:World}{v v':Value}{L:List ByteArray}{x:ByteArray}{o:Obj}(Z:B<=E)(J:wr.ownsRow E 9 1 v L.length (bW L))(U:Below B w wr)(V:B<=wr.heap.size)
  (z:K.ownsRow E 9 1 v' (L.length+1) (bW L++[.string x])) (W:(wr.alloc o).grownBy K v.ownBlock) :
  K.ownsRow E 9 1 v' (L++[x]).length (bW (L++[x]))/\Below B w K/\(∀k,k<E->k<wr.heap.size->K.heap[k]?=wr.heap[k]?):=by
 have I:=J.lt;refine⟨by rw[aJ2] at z;simpa using z,(U.alloc V o).grown W (by simp;omega) (λk Y=>by have:=I k Y;omega),λk h1 h2=>?_⟩;rw[W.block k (by simp;omega) (λe=>by have:=I k e.symm;omega)];exact Below.heap_alloc _ _ _ h2
theorem aSz{s:ByteArray}{L:List ByteArray}{q:Nat}(h:mE s s.size=(L,q))(z:q<s.size):bM s=L++[s.extract q s.size]:=by
 unfold bM;rw[h];exact if_pos z
theorem aNm{s:ByteArray}{L:List ByteArray}{q:Nat}(h:mE s s.size=(L,q))(z:¬ q<s.size):bM s=L:=by
 unfold bM;rw[h];exact if_neg z
theorem xG(s:ByteArray)(w:World)(hs:s.size<=100000):
  Calls Tryz.prog 162 #[.string s] w λe w'=>∃v,e=.returned v/\w'.ownsRow w.heap.size 9 1 v (bM s).length (bW (bM s))/\Below w.heap.size w w':=by
 obtain⟨i0,hi,a0,a1,a2⟩:=info_parts Tryz.info9;go_enter Tryz.func162,Tryz.ntmps162;go_wp2
 go_loopw [3,4,5] (λv st i wr=>∃(p q:Nat) (L:List ByteArray),p<=s.size/\i=.int .i64 p/\st=.int .i64 q/\Hid (mE s p=(L,q))/\wr.ownsRow w.heap.size 9 1 v L.length (bW L)/\Below w.heap.size w wr) (λ_ _ i _=>s.size - (intOf i).toNat)
 case atStart=>exact⟨0,0,[],aE _,rfl,rfl,rfl,World.ownsRow_nil _ _ _ _,Below.refl _ _⟩
 case round=>
  obtain⟨p,q,L,hp,rfl,rfl,K,z,I⟩:=hrel;have hq:q<=p:=by have:=(oG s p).1;rw[K.out] at this;exact this
  have a3:L.length<=p:=by have:=(oG s p).2;rw[K.out] at this;exact this
  have Z:w.heap.size<=wr.heap.size:=I.size;by_cases V:p<s.size
  ·by_cases J:s[p].toNat=10
   ·have hb:(((s[p].toNat:Nat):Int) == 10)=true:=by rw[J];rfl
    have HB:Hid (gb s p=10):=by rw[<- gT s p V];exact J
    clear J
    go_wp2_with (at_builtin;refine wpList_append_own _ rfl _ _ 35 rfl w.heap.size 9 i0 (.string ⟨#[]⟩) 1 16 Tryz.underlying35 hi a0 a1 a2 rfl (by decide) _ _ _ rfl (z.alloc _) ⟨wr.heap.size,0,none⟩ 1 1 [.string (s.extract q (p+1))] rfl rfl ?c1 ?c2 ?c3 ?c4 ?c5 ?_)
    case c1=>exact iY _ _ _
    case c2=>exact eX [_]
    case c3=>unfold maxLen;omega
    case c4=>omega
    case c5=>simp;omega
    intro v' w1 E U _;have R:=iZ (aA _) z I Z E U;clear E U z I;go_wp2
    go_roundw
    case rel=>exact⟨p+1,p+1,L++[s.extract q (p+1)],by omega,by go_num,by go_num,by show _=_;rw[xS HB.out,K.out],R.1,R.2.1⟩
    case measure=>simp[intOf];omega
   ·have hb:(((s[p].toNat:Nat):Int) == 10)=false:=by rw[beq_eq_false_iff_ne];omega
    have HB:Hid (gb s p≠10):=by rw[<- gT s p V];exact J
    clear J;go_wp2
    go_roundw
    case rel=>exact⟨p+1,q,L,by omega,by go_num,rfl,by show _=_;rw[xT HB.out,K.out],z,I⟩
    case measure=>simp[intOf];omega
  ·have W:Hid (p=s.size):=by show _=_;omega
   by_cases Y:q<s.size
   ·go_wp2_with (at_builtin;refine wpList_append_own _ rfl _ _ 35 rfl w.heap.size 9 i0 (.string ⟨#[]⟩) 1 16 Tryz.underlying35 hi a0 a1 a2 rfl (by decide) _ _ _ rfl (z.alloc _) ⟨wr.heap.size,0,none⟩ 1 1 [.string (s.extract q s.size)] rfl rfl ?d1 ?d2 ?d3 ?d4 ?d5 ?_)
    case d1=>exact iY _ _ _
    case d2=>exact eX [_]
    case d3=>unfold maxLen;omega
    case d4=>omega
    case d5=>simp;omega
    intro v' w1 E U _;have R:=iZ (aA _) z I Z E U;clear E U z I;go_wp2;go_ret;have e:=K.out;rw[W.out] at e;rw[aSz e Y];exact⟨_,rfl,R.1,R.2.1⟩
   ·go_wp2;go_ret;have e:=K.out;rw[W.out] at e;rw[aNm e Y];exact⟨_,rfl,z,I⟩
theorem bK{w:World}{B E:Nat}{e:TypeId}{size:Nat}{v:Value}{n:Nat}{I:List Value}(h:w.ownsRow E e size v n I)(J:B<=E):w.ownsRow B e size v n I:=by
 refine⟨h.1,?_⟩;rcases h.2 with h2|⟨g,cap,z,a,b,c⟩
 ·exact .inl h2
 ·exact .inr ⟨g,cap,z,a,by omega,c⟩
theorem sL(s:ByteArray)(w:World)(hs:s.size<=100000):
  Calls Tryz.prog 103 #[.string s] w λe w'=>∃v,e=.returned v/\w'.ownsRow w.heap.size 9 1 v (bM s).length (bW (bM s))/\Below w.heap.size w w':=by
 obtain⟨i0,hi,a6,a7,a8⟩:=info_parts Tryz.info9;go_enter Tryz.func103,Tryz.ntmps103;go_wp2
 go_loopw [3,4] (λv st wr=>∃(p q:Nat) (L:List ByteArray),p<=s.size/\st=.int .i64 q/\Hid (mE s p=(L,q))/\wr.ownsRow (w.heap.size+1) 9 1 v L.length (bW L)/\Below w.heap.size w wr/\wr.heap[w.heap.size]?=some (.stringIter s p)) (λ_ _ wr=>s.size - wr.iterPos w.heap.size)
 case atStart=>exact⟨0,0,[],aE _,rfl,rfl,World.ownsRow_nil _ _ _ _,(Below.refl _ _).alloc (aA _) _,World.iter_heap w s 0⟩
 case round=>
  obtain⟨p,q,L,hp,rfl,HS,E,V,J⟩:=hrel;have hq:q<=p:=by have:=(oG s p).1;rw[HS.out] at this;exact this
  have b1:L.length<=p:=by have:=(oG s p).2;rw[HS.out] at this;exact this
  have b0:w.heap.size<wr.heap.size:=(aV.1 J).1;by_cases Y:p<s.size
  ·by_cases W:gb s p=10
   ·have Z:∀ty,(Instr.next (.pointer (some ⟨w.heap.size,0,none⟩)) true ty).run Tryz.prog wr=.ok (.tuple #[.bool true,.int .i64 p,.int .i32 10]) (wr.iterAt w.heap.size s (p+1)):=λty=>by
     rw[Lib.run_next_any_at wr w.heap.size s p ty J Y,aFt s p Y (by omega),W];rfl
    have HB:=aO W;clear W;have z:=ownsRow_iterAt E (k:=w.heap.size) (by omega) s (p+1);have K:=Lib.below_iterAt V (k:=w.heap.size) (aA _) s (p+1);have U:=Lib.iterAt_heap wr w.heap.size s p (p+1) J;have a3:w.heap.size<(wr.iterAt w.heap.size s (p+1)).heap.size:=by rw[Lib.iterAt_size];exact b0
    have HM:=aO (iterPos_of J);clear J E V;obtain⟨wq,a0⟩:∃wq,wr.iterAt w.heap.size s (p+1)=wq:=⟨_,rfl⟩;rw[a0] at z K U a3 Z;clear a0
    go_wp2_with (at_builtin;refine wpList_append_own _ rfl _ _ 35 rfl (w.heap.size+1) 9 i0 (.string ⟨#[]⟩) 1 16 Tryz.underlying35 hi a6 a7 a8 rfl (by decide) _ _ _ rfl (z.alloc _) ⟨wq.heap.size,0,none⟩ 1 1 [.string (s.extract q (p+1))] rfl rfl ?c1 ?c2 ?c3 ?c4 ?c5 ?_)
    case c1=>exact iY _ _ _
    case c2=>exact eX [_]
    case c3=>unfold maxLen;omega
    case c4=>omega
    case c5=>simp;omega
    intro v' w1 I hg _;have R:=iZ (Nat.le_succ _) z K (by omega) I hg;clear I hg z K Z;have a2:=(R.2.2 w.heap.size (by omega) a3).trans U;go_wp2
    go_roundw
    case rel=>exact⟨p+1,p+1,L++[s.extract q (p+1)],by omega,by go_num,by show _=_;rw[xS HB.out,HS.out],R.1,R.2.1,a2⟩
    case measure=>rw[iterPos_of a2,HM.out];omega
   ·obtain⟨r,k,hdec,hr,hk,a9,a1⟩:=aS0 s p 10 Y (by omega) W;have Z:∀ty,(Instr.next (.pointer (some ⟨w.heap.size,0,none⟩)) true ty).run Tryz.prog wr=.ok (.tuple #[.bool true,.int .i64 p,.int .i32 r]) (wr.iterAt w.heap.size s (p+k)):=λty=>by
     rw[Lib.run_next_any_at wr w.heap.size s p ty J Y,hdec]
    have hb:((r:Int) == 10)=false:=by rw[beq_eq_false_iff_ne];omega
    have HB:=aO (aJ1 s p k a1);clear W hdec a1;have z:=ownsRow_iterAt E (k:=w.heap.size) (by omega) s (p+k);have K:=Lib.below_iterAt V (k:=w.heap.size) (aA _) s (p+k);have U:=Lib.iterAt_heap wr w.heap.size s p (p+k) J;have HM:=aO (iterPos_of J);clear J E V;obtain⟨wq,a0⟩:∃wq,wr.iterAt w.heap.size s (p+k)=wq:=⟨_,rfl⟩;rw[a0] at z K U Z;clear a0;go_wp2
    go_roundw
    case rel=>exact⟨p+k,q,L,a9,rfl,by show _=_;rw[HB.out,HS.out],z,K,U⟩
    case measure=>rw[iterPos_of U,HM.out];omega
  ·have Z:∀ty,(Instr.next (.pointer (some ⟨w.heap.size,0,none⟩)) true ty).run Tryz.prog wr=.ok (.tuple #[.bool false]) wr:=λty=>Lib.run_next_end_at wr w.heap.size s p ty J Y;have a4:Hid (p=s.size):=by show _=_;omega
   by_cases a5:q<s.size
   ·go_wp2_with (at_builtin;refine wpList_append_own _ rfl _ _ 35 rfl (w.heap.size+1) 9 i0 (.string ⟨#[]⟩) 1 16 Tryz.underlying35 hi a6 a7 a8 rfl (by decide) _ _ _ rfl (E.alloc _) ⟨wr.heap.size,0,none⟩ 1 1 [.string (s.extract q s.size)] rfl rfl ?d1 ?d2 ?d3 ?d4 ?d5 ?_)
    case d1=>exact iY _ _ _
    case d2=>exact eX [_]
    case d3=>unfold maxLen;omega
    case d4=>omega
    case d5=>simp;omega
    intro v' w1 I hg _;have R:=iZ (Nat.le_succ _) E V (by omega) I hg;clear I hg E V;go_wp2;go_ret;have e:=HS.out;rw[a4.out] at e;rw[aSz e a5];exact⟨_,rfl,bK R.1 (by omega),R.2.1⟩
   ·go_wp2;go_ret;have e:=HS.out;rw[a4.out] at e;rw[aNm e a5];exact⟨_,rfl,bK E (by omega),V⟩
def mQ(L:List ByteArray):Bool:=L.any λl=>decide (12<gB l)
theorem oU{w:World}{B g n cap:Nat}{L:List ByteArray}(h:w.ownsRow B 9 1 (.slice (some ⟨g,0,none⟩) n cap) n (bW L))(k:Nat)(z:k<L.length):w.cell? ⟨g,k,none⟩=some (.string (L.getD k ByteArray.empty)):=by
 have E:n=L.length:=by have:=h.1;simp at this;omega
 rw[h.cellAt k (by omega)];simp[z]
theorem bC{w:World}{B n size:Nat}{e:TypeId}{v:Value}{I:List Value}(h:w.ownsRow B e size v n I):∃z cap,v=.slice z n cap:=by
 rcases h.2 with ⟨rfl,rfl⟩|⟨g,cap,E,rfl,_⟩
 ·exact⟨_,_,rfl⟩
 ·exact⟨_,_,rfl⟩
theorem qM{w:World}{B n cap size:Nat}{e:TypeId}{z:Option Addr}{J:List Value}(h:w.ownsRow B e size (.slice z n cap) n J)(K:0<n):∃g,z=some ⟨g,0,none⟩/\B<=g/\g<w.heap.size:=by
 rcases h.2 with ⟨h1,rfl⟩|⟨g,cap,E,h1,h2,I,_⟩
 ·omega
 ·cases h1
  exact⟨g,rfl,h2,(aV.1 I).1⟩
theorem bQ{w I:World}{B E n size:Nat}{e:TypeId}{v:Value}{J:List Value}(h:w.ownsRow B e size v n J)(K:Below E w I)(U:w.heap.size<=E):I.ownsRow B e size v n J:=by
 refine⟨h.1,?_⟩;rcases h.2 with h2|⟨g,cap,z,a,b,c,d⟩
 ·exact .inl h2
 ·exact .inr ⟨g,cap,z,a,b,by rw[K.block g (by have:=(aV.1 c).1;omega)];exact c,d⟩
theorem vP{L:List ByteArray}{k:Nat}(z:k<L.length)(h:decide (12<gB (L.getD k ByteArray.empty))=true):mQ L=true:=by
 unfold mQ;rw[aV3];refine⟨L[k],bZ z,?_⟩;rw[aQ,aC z] at h;exact h
theorem tO{L:List ByteArray}{k:Nat}(z:k<L.length)(E:mQ (L.take k)=false)(h:decide (12<gB (L.getD k ByteArray.empty))=false):mQ (L.take (k+1))=false:=by
 unfold mQ at *;rw[aF z,vK,E];rw[aQ,aC z] at h;simpa using h
theorem aOe(L:List ByteArray)(ao:Option Addr)(cap B:Nat)(w:World)(I:w.ownsRow B 9 1 (.slice ao L.length cap) L.length (bW L))(a2:L.length<=1000000)(a1:∀l∈L,l.size<=maxLen):
  Calls Tryz.prog 171 #[.slice ao L.length cap,.func (.func 105) #[] #[]] w λe w'=>∃r:Int,e=.returned (.int .i64 r)/\(0<=r↔mQ L=true)/\Below w.heap.size w w':=by
 go_enter Tryz.func171,Tryz.ntmps171;go_wp2
 go_loopw [8] (λi wr=>∃k:Nat,k<=L.length/\i=.int .i64 k/\mQ (L.take k)=false/\Below w.heap.size w wr) (λi _=>L.length - (intOf i).toNat)
 case atStart=>exact⟨0,aE _,rfl,rfl,Below.refl _ _⟩
 case round=>
  obtain⟨k,hk,rfl,U,z⟩:=hrel;have HN:=aO U;clear U;by_cases E:k<L.length
  ·obtain⟨g,Y,a4,a0⟩:=qM I (by omega);subst Y;obtain⟨s,hs⟩:∃s,s=L.getD k ByteArray.empty:=⟨_,rfl⟩;have Z:wr.cell? ⟨g,k,none⟩=some (.string s):=by rw[hs];exact(z.cell (p:=⟨g,k,none⟩) a0).trans (oU I k E)
   have V:s.size<=maxLen:=by
    rw[hs,aQ,aC E];exact a1 _ (bZ E)
   have HS:=aO hs;clear hs;have a3:=z.size
   cases W:decide (12<gB s)
   ·have K:Hid (decide (12<gB s)=false):=W;clear W
    go_wp2_with (go_at_call 105;refine(aF6 s _ V).mono ?_;rw[K.out];rintro e w' ⟨rfl,J⟩)
    go_roundw
    case rel=>exact⟨k+1,by omega,by go_num,tO E HN.out (by rw[<- HS.out];exact K.out),z.trans (J.mono (by omega))⟩
    case measure=>simp[intOf];omega
   ·have K:Hid (decide (12<gB s)=true):=W;clear W
    go_wp2_with (go_at_call 105;refine(aF6 s _ V).mono ?_;rw[K.out];rintro e w' ⟨rfl,J⟩)
    go_ret;exact⟨k,rfl,iff_of_true (by omega) (vP E (by rw[<- HS.out];exact K.out)),z.trans (J.mono (by omega))⟩
  ·go_wp2;go_ret;have e:k=L.length:=by omega
   have hn:=HN.out;rw[e,bD] at hn;exact⟨-1,rfl,by rw[hn];simp,z⟩
theorem vZ(L:List ByteArray)(I:Option Addr)(cap B:Nat)(w:World)(E:w.ownsRow B 9 1 (.slice I L.length cap) L.length (bW L))(z:L.length<=1000000)(J:∀l∈L,l.size<=maxLen):
  Calls Tryz.prog 104 #[.slice I L.length cap,.func (.func 105) #[] #[]] w λe w'=>e=.returned (.bool (mQ L))/\Below w.heap.size w w':=by
 go_enter Tryz.func104,Tryz.ntmps104
 go_wp2_with fail
 refine(aOe L I cap B w E z J).mono ?_;rintro e w' ⟨r,rfl,K,V⟩;have U:=aO K;clear K;go_wp2;go_ret;exact⟨cB (by rw[kU,decide_eq_true_eq];exact U.out),V⟩
def dH(s:ByteArray):Bool:=decide (s.size<=240) && decide ((bM s).length<=16) && !mQ (bM s)
def lQ(s:ByteArray):List ByteArray:=if dH s=true then bM s else []
def iW(s:ByteArray):Int:=if dH s=true then 0 else 3
theorem iX{s:ByteArray}(h:dH s=false):lQ s=[]/\iW s=3:=by unfold lQ iW;rw[h];simp
theorem pY{s:ByteArray}(h:dH s=true):lQ s=bM s/\iW s=0:=by unfold lQ iW;rw[h];simp
theorem rJ(s:ByteArray)(w:World):
  Calls Tryz.prog 62 #[.string s] w λe w'=>∃v,e=.returned (.tuple #[v,.bool (dH s)])/\w'.ownsRow w.heap.size 9 1 v (lQ s).length (bW (lQ s))/\Below w.heap.size w w':=by
 by_cases a0:240<s.size
 ·have E:dH s=false:=by unfold dH;simp;omega
  rw[(iX E).1,E];clear E;go_enter Tryz.func62,Tryz.ntmps62;go_wp2;go_ret2;exact⟨_,rfl,World.ownsRow_nil _ _ _ _,Below.refl _ _⟩
 ·have W:∀l∈bM s,l.size<=maxLen:=λl U=>by have:=(qX s l U).2;unfold maxLen;omega
  have a2:=aFr s;by_cases a1:16<(bM s).length
  ·have E:dH s=false:=by unfold dH;simp;omega
   rw[(iX E).1,E];clear E;go_enter Tryz.func62,Tryz.ntmps62
   go_wp2_with fail
   refine(sL s w (by omega)).mono ?_;rintro e w1 ⟨v,rfl,z,I⟩;obtain⟨Z,cap,rfl⟩:=bC z;go_wp2;go_ret2;exact⟨_,rfl,World.ownsRow_nil _ _ _ _,I⟩
  ·cases U:mQ (bM s)
   ·have V:dH s=true:=by unfold dH;rw[U];simp;omega
    rw[(pY V).1,V];clear V;have Y:=aO U;clear U;go_enter Tryz.func62,Tryz.ntmps62
    go_wp2_with fail
    refine(sL s w (by omega)).mono ?_;rintro e w1 ⟨v,rfl,z,I⟩;obtain⟨Z,cap,rfl⟩:=bC z;have J:=I.size
    go_wp2_with (go_at_call 104;refine(vZ _ _ _ _ _ z (by omega) W).mono ?_;rw[Y.out];rintro e w' ⟨rfl,K⟩)
    go_ret2;exact⟨_,rfl,bQ z K (aA _),I.trans (K.mono J)⟩
   ·have E:dH s=false:=by unfold dH;rw[U];simp
    rw[(iX E).1,E];clear E;have Y:=aO U;clear U;go_enter Tryz.func62,Tryz.ntmps62
    go_wp2_with fail
    refine(sL s w (by omega)).mono ?_;rintro e w1 ⟨v,rfl,z,I⟩;obtain⟨Z,cap,rfl⟩:=bC z;have J:=I.size
    go_wp2_with (go_at_call 104;refine(vZ _ _ _ _ _ z (by omega) W).mono ?_;rw[Y.out];rintro e w' ⟨rfl,K⟩)
    go_ret2;exact⟨_,rfl,World.ownsRow_nil _ _ _ _,I.trans (K.mono J)⟩
theorem aRl(s:ByteArray)(w:World):
  Calls Tryz.prog 91 #[.string s] w λe w'=>∃v,e=.returned (.tuple #[v,.int .i64 (iW s)])/\w'.ownsRow w.heap.size 9 1 v (lQ s).length (bW (lQ s))/\Below w.heap.size w w':=by
 cases z:dH s
 ·rw[(iX z).1,(iX z).2];go_enter Tryz.func91,Tryz.ntmps91
  go_wp2_with fail
  refine(rJ s w).mono ?_;rw[(iX z).1,z];rintro e J ⟨v,rfl,E,I⟩;go_wp2;go_ret2;exact⟨_,rfl,World.ownsRow_nil _ _ _ _,I⟩
 ·rw[(pY z).1,(pY z).2];go_enter Tryz.func91,Tryz.ntmps91
  go_wp2_with fail
  refine(rJ s w).mono ?_;rw[(pY z).1,z];rintro e J ⟨v,rfl,E,I⟩;go_wp2;go_ret2;exact⟨_,rfl,E,I⟩
end Go.Proofs.YtgdfipmdmgkidaaGreatDoor
