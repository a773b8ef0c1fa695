import Derived.Test.YtgdfipmdmgkidaaGreatDoorIter
import Derived.Test.YtgdfipmdmgkidaaGreatDoorProw
import Derived.RangeFuncBox
import Derived.RangeFuncLeaves
import Derived.Shelf.Abstract
import Derived.WalkKit
import Derived.OwnWalkIn
import Derived.TacticsInMore
import Derived.LoopNIn
import Derived.LoopIn
import Derived.Test.YtgdfipmdmgkidaaGreatDoorAl
set_option linter.all false
set_option maxHeartbeats 2000000
set_option maxRecDepth 100000
namespace Go.Proofs.YtgdfipmdmgkidaaGreatDoor
open Go.RowKit Go.Shelf Go.Sort
def lN(n₀:Nat)(W:World)(sv:Value)(L:List ByteArray):Prop:=
 (sv=.slice none 0 0/\L=[])\/∃b off cap,sv=.slice (some ⟨b,off,none⟩) L.length cap/\b<n₀/\∀j,j<L.length->W.cell? ⟨b,off+j,none⟩=some (.string (L.getD j ByteArray.empty))
theorem lN.below{E:Nat}{A B:World}(h:Below E A B){J:Value}{L:List ByteArray}(t:lN E A J L):lN E B J L:=by
 rcases t with e|⟨b,z,cap,e,I,K⟩
 ·exact .inl e
 ·exact .inr ⟨b,z,cap,e,I,λj U=>(h.cell (p:=⟨b,z+j,none⟩) I).trans (K j U)⟩
theorem aU6(L:List ByteArray){k:Nat}(z:k<L.length):L.take (k+1)=L.take k++[L.getD k ByteArray.empty]:=by
 rw[aF z,aQ,aC z];rfl
theorem aMk(n:Nat)(hn:1<=n)(l Bs n₀ b E cap:Nat)(L:List ByteArray)(a1:L.length<=1000000)(hb:b<n₀)(J Jx:List ByteArray->World->Prop)
  (hY:∀z x W,J z W->z.length<L.length->YieldAt Fence.wide (n - 1) Tryz.prog l #[.string x] W λe K=>
   (e=.returned (.bool true)/\J (z++[x]) K/\Below n₀ W K)\/(e=.returned (.bool false)/\Jx (z++[x]) K))
  (W:World) (a4:W.cell? ⟨Bs,0,none⟩=some (.slice (some ⟨b,E,none⟩) L.length cap)) (hc:∀j,j<L.length->W.cell? ⟨b,E+j,none⟩=some (.string (L.getD j ByteArray.empty))) (h0:J [] W) :
  CallsIn Fence.wide n Tryz.prog 220 #[.func (.yield l) #[] #[],.pointer (some ⟨Bs,0,none⟩)] W λe K=>(∃v,e=.returned v)/\
   ((∃ys,ys=L/\J ys K)\/(∃z,z <+: L/\Jx z K)):=by
 refine callsIn_of_wp Tryz.func220 rfl trivial ?_ rfl;simp only[Tryz.ntmps220,jC,aY,cX,Nat.reduceAdd,Nat.reduceSub,kX,kY,nT,lX,cY,cI]
 gi_wp2
 gi_loopw [7] (λi wr=>∃k:Nat,k<=L.length/\i=.int .i64 k/\J (L.take k) wr/\Below n₀ W wr)
  (λi _=>L.length - (intOf i).toNat)
 case atStart=>exact⟨0,aE _,rfl,h0,Below.refl _ _⟩
 case round=>
  obtain⟨k,hk,rfl,I,Y⟩:=hrel;by_cases V:k<L.length
  ·have a3:wr.cell? ⟨b,E+k,none⟩=some (.string (L.getD k ByteArray.empty)):=(Y.cell (p:=⟨b,E+k,none⟩) hb).trans (hc k V);have Z:=aU6 L V;generalize L.getD k ByteArray.empty=x at *;obtain⟨fn,tmps,a0,a2,hy,hR⟩:=hY _ x wr I (by simp;omega)
   gi_wp2
   refine hR.mono ?_;rintro e W3 (⟨rfl,hJ3,hk3⟩|⟨rfl,U⟩)
   ·gi_wp2
    go_roundw
    case rel=>exact⟨k+1,by omega,by simp,by rw[Z];exact hJ3,Y.trans hk3⟩
    case measure=>simp[intOf];omega
   ·gi_wp2
    refine bodyPost_ret (results_none rfl _ _ _) rfl ?_;exact⟨⟨_,rfl⟩,.inr ⟨_,by rw[<- Z];exact List.take_prefix _ _,U⟩⟩
  ·obtain rfl:k=L.length:=by omega
   rw[bD] at I
   gi_wp2
   go_end0
   exact⟨⟨_,rfl⟩,.inl ⟨_,rfl,I⟩⟩
theorem aCr(n:Nat)(l E:Nat)(J:List ByteArray->World->Prop)(W:World)(U:W.cell? ⟨E,0,none⟩=some (.slice none 0 0))(K:J [] W):
  CallsIn Fence.wide n Tryz.prog 220 #[.func (.yield l) #[] #[],.pointer (some ⟨E,0,none⟩)] W λe I=>(∃v,e=.returned v)/\J [] I:=by
 refine callsIn_of_wp Tryz.func220 rfl trivial ?_ rfl;simp only[Tryz.ntmps220,jC,aY,cX,Nat.reduceAdd,Nat.reduceSub,kX,kY,nT,lX,cY,cI]
 gi_wp2
 gi_loopw [7] (λi wr=>i=.int .i64 0/\J [] wr) (λ_ _=>0)
 case atStart=>exact⟨rfl,K⟩
 case round=>
  obtain⟨rfl,z⟩:=hrel
  gi_wp2
  go_end0
  exact⟨⟨_,rfl⟩,z⟩
theorem aEl(n:Nat)(hn:1<=n)(E K:Nat)(sv:Value)(L:List ByteArray)(z:L.length<=1000000)(w:World)(U:E<w.heap.size)(Y:K<=w.heap.size)
  (hc:w.cell? ⟨E,0,none⟩=some sv) (hI:lN K w sv L) :
  SeqStopsK Fence.wide n Tryz.prog 220 #[.pointer (some ⟨E,0,none⟩)] (λx:ByteArray=>#[Value.string x]) (Below K) (λys=>ys=L) (λa0=>a0 <+: L) L.length w:=λl J Jx W hW _ _ hY h0=>by
 have I:=(hW.cell (p:=⟨E,0,none⟩) U).trans hc;rcases hI.below (hW.mono Y) with ⟨rfl,rfl⟩|⟨b,Z,cap,rfl,hb,V⟩
 ·exact(aCr n l E J W I h0).mono λe W' ⟨he,hj⟩=>⟨he,.inl ⟨_,rfl,hj⟩⟩
 ·exact aMk n hn l E K b Z cap L z hb J Jx hY W I V h0
theorem aMj(n:Nat)(a:Option Addr)(len cap:Nat)(w:World):
  CallsIn Fence.wide n Tryz.prog 178 #[.slice a len cap] w λe w'=>e=.returned (.func (.func 220) #[] #[.pointer (some ⟨w.heap.size,0,none⟩)])/\w'=w.alloc (.cells #[.slice a len cap] 35):=by
 refine callsIn_of_wp Tryz.func178 rfl trivial ?_ rfl;simp only[Tryz.ntmps178,jC,aY,cX,Nat.reduceAdd,Nat.reduceSub,kX,kY,nT,lX,cY,cI]
 gi_wp2
 go_ret;exact⟨rfl,rfl⟩
attribute [local go_sem] Oper.semAt_some
theorem aFe(n:Nat)(hn:3<=n)(V:Nat)(sv:Value)(L:List ByteArray)(U:L.length<=1000000)(w:World)(a0:V<w.heap.size)(hc:w.cell? ⟨V,0,none⟩=some sv)(hI:lN w.heap.size w sv L):
  CallsIn Fence.wide n Tryz.prog 251 #[.slice none 0 0,.func (.func 220) #[] #[.pointer (some ⟨V,0,none⟩)]] w λe W'=>∃v,e=.returned v/\W'.ownsRow w.heap.size 9 1 v L.length (bW L)/\Below w.heap.size w W':=by
 have h1:1<=n:=by omega
 obtain⟨i0,hi,a5,a6,a7⟩:=info_parts Tryz.info9;refine callsIn_of_wp_marks Tryz.func251 rfl trivial ?_ rfl;simp only[Tryz.ntmps251,jC,aY,cX,Nat.reduceAdd,Nat.reduceSub,kX,kY,nT,lX,cY,cI]
 gi_wp2
 have bS:=Boxed.new w 35 (.slice none 0 0);have Y:Below w.heap.size w (w.alloc (.cells #[.slice none 0 0] 35)):=(Below.refl _ w).alloc (aA _) _;refine wpIn_rangeFunc_ownG rfl h1 (gf:=220) (lb:=#[.pointer (some ⟨V,0,none⟩)]) rfl trivial (enters_of Tryz.func220 (by kernel_rfl) rfl)
  (aEl (n - 1) (by omega) V w.heap.size sv L U w a0 (aA _) hc hI) belowK_t (belowK_b (by simp)) Y (λ_=>rfl)
  (λz W=>(∃v,Boxed W w.heap.size 35 v/\W.ownsRow w.heap.size 9 1 v z.length (bW z)/\True)/\Below w.heap.size w W)
  (λ_ _ _=>False)
  (OwnFrom.and (Own.from (holdsRow_own w.heap.size w.heap.size 35 9 1 (λz:List ByteArray=>z.length) (λz=>bW z) (λ_ _=>True)) _) (ownFrom_below (aA _) (by simp)))
  (λ_ _ _ _ _ hs _ _=>hs)
  ⟨⟨_,bS,aK _ _ _ _,trivial⟩,Y⟩
  (λx=>{ tmps:=#[.slice none 0 0,.func (.func 220) #[] #[.pointer (some ⟨V,0,none⟩)],.pointer (some ⟨w.heap.size,0,none⟩),undef,.slice none 0 0,.string x,.func (.func 220) #[] #[.pointer (some ⟨V,0,none⟩)],.string x,undef,undef,undef,undef,undef],defers:=[] }) ?assign ?body ?done ?stop
 case assign=>
  intro l x W K Z
  gi_wp2
  exact Z
 case body=>
  rintro l z x W ⟨⟨v,I,E,_⟩,hB⟩ a9;have a4:=hB.size;have a1:=I.cell;have b2:=I.frozen
  gi_wp2_with (gi_at_builtin;refine wpListIn_append_own _ rfl _ _ 35 rfl w.heap.size 9 i0 (.string ⟨#[]⟩) 1 16 Tryz.underlying35 hi a5 a6 a7 rfl (by decide) _ _ _ rfl (E.alloc _) ⟨W.heap.size,0,none⟩ 1 1 [.string x] rfl rfl (iY _ _ _) (by simp[Value.oneCell']) (by unfold maxLen;omega) (by omega) (by simp;omega) ?_;intro v' w3 J a2 a3;obtain⟨g',a8,rfl⟩:=ownsRow_succ J;have R:=Boxed.appended I (by decide) E a4 (aA _) J a2;have b0:=R.1.cell;have b1:=R.1.frozen)
  exact⟨R.2.2.2.1.from _,R.2.2.2.2,⟨⟨_,R.2.1,by rw[aJ,eY,<- aJ2];exact R.2.2.1,trivial⟩,hB.trans R.2.2.2.2⟩⟩
 case done=>
  rintro D ys W hD rfl ⟨⟨v,I,E,_⟩,hB⟩ Z;have a1:=I.cell
  gi_wp2
  refine⟨by simp,.inl ⟨_,_,rfl,run_takeDeferred Z,?_⟩⟩;exact⟨_,results_tmp rfl _ _ _,_,rfl,ownsRow_putObj E _ Z rfl,hB.trans (belowK_b (w:=w) (aA _) W D _ _ (by simp at hD;omega) Z rfl rfl)⟩
 case stop=>
  rintro D c z W _ _ h _;exact h.elim
theorem aEd(n:Nat)(hn:4<=n)(I:Nat)(K:Value)(L:List ByteArray)(z:L.length<=1000000)(w:World)(J:I<w.heap.size)(Y:w.cell? ⟨I,0,none⟩=some K)(V:lN w.heap.size w K L):
  CallsIn Fence.wide n Tryz.prog 218 #[.func (.func 220) #[] #[.pointer (some ⟨I,0,none⟩)]] w λe U=>∃v,e=.returned v/\U.ownsRow w.heap.size 9 1 v L.length (bW L)/\Below w.heap.size w U:=by
 have Z:Fence.wide.fn 251:=trivial;have h1:1<=n:=by omega
 refine callsIn_of_wp Tryz.func218 rfl trivial ?_ rfl;simp only[Tryz.ntmps218,jC,aY,cX,Nat.reduceAdd,Nat.reduceSub,kX,kY,nT,lX,cY,cI]
 gi_wp2_with (gi_at_call 251;refine(aFe (n - 1) (by omega) I K L z _ J Y V).mono ?_;rintro e w' ⟨v,rfl,E,W⟩)
 go_ret;exact⟨v,rfl,E,W⟩
def mI(s:ByteArray):List UInt8:=s.data.toList
def leB(x y:List UInt8):Bool:=decide (x<=y)
theorem aNu(L:List ByteArray):(L.map mI).map encStr=bW L:=by
 rw[fG];unfold bW;apply fQ;intro a _;simp[mI,encStr]
theorem aG8(n:Nat)(hn:5<=n)(U:Nat)(sv:Value)(L:List ByteArray)(J:L.length<=1000000)(w:World)(V:U<w.heap.size)(hc:w.cell? ⟨U,0,none⟩=some sv)(hI:lN w.heap.size w sv L):
  CallsIn Fence.wide n Tryz.prog 177 #[.func (.func 220) #[] #[.pointer (some ⟨U,0,none⟩)]] w λe W'=>∃v,e=.returned v/\W'.ownsRow w.heap.size 9 1 v L.length (((L.map mI).mergeSort leB).map encStr)/\Below w.heap.size w W':=by
 have hf:Fence.wide.fn 218:=trivial;have a2:Fence.wide.fn 219:=trivial;have h1:1<=n:=by omega
 have I:=Tryz.sorts177 (n - 1);refine callsIn_of_wp Tryz.func177 rfl trivial ?_ rfl;simp only[Tryz.ntmps177,jC,aY,cX,Nat.reduceAdd,Nat.reduceSub,kX,kY,nT,lX,cY,cI]
 gi_wp2_with (gi_at_call 218;refine(aEd (n - 1) (by omega) U sv L J _ V hc hI).mono ?_;rintro e W ⟨v,rfl,E,Y⟩)
 rw[<- aNu] at E;rcases E.2 with ⟨rfl,hz⟩|⟨gb,cap,a1,rfl,z,K,r1,r2,r3,r4⟩
 ·have a0:L=[]:=aS hz;subst a0
  gi_wp2_with (gi_at_call 219;refine(I.2 none 0 W).mono ?_;rintro e w' ⟨rfl,rfl⟩)
  go_ret;exact⟨.slice none 0 0,rfl,by simpa using E,Y⟩
 ·have hH:Holds encStr W gb 0 (L.map mI).toArray:=holds_of_block K (by simpa using r4);have Z:gb<W.heap.size:=(aV.1 K).1;have cS:=I.1 gb 0 cap (L.map mI) W hH Z (by simp;omega);rw[aT] at cS
  gi_wp2_with (gi_at_call 219;refine cS.mono ?_;rintro e w' ⟨rfl,nn,os,rfl⟩)
  go_ret;refine⟨_,rfl,?_,Y.grown (grownBy_sorted _) Y.size (λj hj=>by cases hj;exact z)⟩;have h:=ownsRow_sorted (w:=W) (n:=nn) (os:=os) (ss:=L.map mI) (ts:=(L.map mI).mergeSort leB) (by rw[List.length_mergeSort]) z K (by rw[aT];exact r1) r2 r3;rw[aT] at h;exact h
end Go.Proofs.YtgdfipmdmgkidaaGreatDoor
