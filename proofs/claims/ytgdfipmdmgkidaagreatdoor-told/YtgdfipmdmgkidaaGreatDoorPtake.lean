/- The statement's reading of a telling: a line that goes. -/
import Derived.Test.YtgdfipmdmgkidaaGreatDoorPkeep
import Derived.Test.YtgdfipmdmgkidaaGreatDoorPtell
import Derived.BigQuiet
import Derived.BigRegion
import Derived.Laws.OwnMore
namespace Go.Proofs.YtgdfipmdmgkidaaGreatDoor
open Go.RowKit

def RdAt (w : World) (rb : Nat) (ov : Value) (at_ : Nat) (xv : Value) (ch : Nat) : Prop := w.heap[rb]? = some (.cells #[ov, .int .i64 (at_ : Nat), xv, .int .i64 (ch : Nat)] 38 (0, 0))
theorem RdAt.cells {w : World} {rb at_ ch : Nat} {ov xv : Value} (h : RdAt w rb ov at_ xv ch) : w.cell? ⟨rb, 0, none⟩ = some ov ∧ w.cell? ⟨rb, 1, none⟩ = some (.int .i64 (at_ : Nat)) ∧ w.cell? ⟨rb, 2, none⟩ = some xv ∧ w.cell? ⟨rb, 3, none⟩ = some (.int .i64 (ch : Nat)) := by
  unfold RdAt at h
  simp [World.cell?, h]
theorem RdAt.free {w : World} {rb at_ ch : Nat} {ov xv : Value} (h : RdAt w rb ov at_ xv ch) (o : Nat) : w.frozen? ⟨rb, o, none⟩ = false := by
  unfold RdAt at h
  simp [World.frozen?, h]
theorem RdAt.two {w : World} {rb at_ ch : Nat} {ov xv : Value} (h : RdAt w rb ov at_ xv ch) (a c : Nat) : RdAt ((w.setCell ⟨rb, 1, none⟩ (.int .i64 (a : Nat))).setCell ⟨rb, 3, none⟩ (.int .i64 (c : Nat))) rb ov a xv c := by
  unfold RdAt at h ⊢
  have g1 := heap_setCell_same w rb 1 _ 38 (.int .i64 (a : Nat)) h
  have g2 := heap_setCell_same _ rb 3 _ 38 (.int .i64 (c : Nat)) g1
  exact g2

set_option maxRecDepth 100000 in
set_option maxHeartbeats 3200000 in
theorem ktake15_minus (O : List ByteArray) (oa : Option Addr) (oc : Nat) (at_ ch rb : Nat) (xv : Value) (s : ByteArray) (w : World) (h : RdAt w rb (.slice oa O.length oc) at_ xv ch) (hv : View w oa O) (hO : O.length ≤ 100000) (hch : ch ≤ 100000)
    (hs0 : 1 ≤ s.size) (hs1 : s.size ≤ 100000) (h45 : gb s 0 = 45) (hat : at_ < O.length) (heq : O.getD at_ ByteArray.empty = wholeB (s.extract 1 s.size)) :
    Calls Tryz.prog 20 #[.pointer (some ⟨rb, 0, none⟩), .string s] w fun e w' => e = .returned (.bool true) ∧ RdAt w' rb (.slice oa O.length oc) (at_ + 1) xv (ch + 1) ∧ But w w' rb := by
  have HT : Hid (∀ q, RdAt (((w.drewN q).setCell ⟨rb, 1, none⟩ (.int .i64 ((at_ : Int) + 1))).setCell ⟨rb, 3, none⟩ (.int .i64 ((ch : Int) + 1))) rb (.slice oa O.length oc) (at_ + 1) xv (ch + 1)) := fun q => RdAt.two (w := w.drewN q) h _ _
  have HB : Hid (∀ q, But w (((w.drewN q).setCell ⟨rb, 1, none⟩ (.int .i64 ((at_ : Int) + 1))).setCell ⟨rb, 3, none⟩ (.int .i64 ((ch : Int) + 1))) rb) := fun q => ((But.of_below rb (below_drewN (Below.refl _ w) q)).set _).set _
  obtain ⟨c0, c1, c2, c3⟩ := h.cells
  have z1 := h.free 1
  have z3 := h.free 3
  rcases hv with hv | ⟨b, o, rfl, hb, hc⟩
  · omega
  have hcell := hc at_ hat
  obtain ⟨l, hl⟩ : ∃ l, wholeB (s.extract 1 s.size) = l := ⟨_, rfl⟩
  rw [heq, hl] at hcell
  have HW : Hid (Calls Tryz.prog 48 #[.string (s.extract 1 s.size)] w fun e w' => e = .returned (.string l) ∧ w' = w) := by
    have := kwhole32_any (s.extract 1 s.size) w (by rw [ByteArray.size_extract]; omega)
    rw [hl] at this
    exact this
  have hlt0 : 0 < s.size := by omega
  have h45' : s[0].toNat = 45 := by rw [gb_eq s 0 hlt0]; exact h45
  have e1 : (((s[0].toNat : Nat) : Int) == 64) = false := by rw [h45']; rfl
  have e2 : (((s[0].toNat : Nat) : Int) == 45) = true := by rw [h45']; rfl
  have a1 : (at_ : Int) < (O.length : Int) := by omega
  have a2 : decide (O.length ≤ at_) = false := by simp; omega
  have a3 : decide ((O.length : Int) ≤ (at_ : Int)) = false := by simp; omega
  have b1 : (l.toList == l.toList) = true := by simp
  have b2 : (l.toList != l.toList) = false := by simp
  have w1 : IntKind.i64.wrap ((at_ : Int) + 1) = (at_ : Int) + 1 := by simp [IntKind.wrap, IntKind.signed, IntKind.bits]; omega
  have w3 : IntKind.i64.wrap ((ch : Int) + 1) = (ch : Int) + 1 := by simp [IntKind.wrap, IntKind.signed, IntKind.bits]; omega
  clear hc heq hl h45 h45' h
  go_enter Tryz.func20, Tryz.ntmps20
  go_wp2_with fail
  refine HW.out.mono ?_
  rintro e w' ⟨rfl, rfl⟩
  clear HW
  go_wp2_with fail
  go_quiet (fail)
  go_wp2
  go_ret
  exact ⟨rfl, HT.out nq, HB.out nq⟩

theorem RdAt.out {w : World} {rb at_ ch : Nat} {ov xv : Value} (h : RdAt w rb ov at_ xv ch) (u : Value) (c : Nat) : RdAt ((w.setCell ⟨rb, 2, none⟩ u).setCell ⟨rb, 3, none⟩ (.int .i64 (c : Nat))) rb ov at_ u c := by
  unfold RdAt at h ⊢
  have g1 := heap_setCell_same w rb 2 _ 38 u h
  have g2 := heap_setCell_same _ rb 3 _ 38 (.int .i64 (c : Nat)) g1
  exact g2

set_option maxRecDepth 100000 in
set_option maxHeartbeats 3200000 in
theorem ktake15_plus (w0 : World) (ov : Value) (X : List ByteArray) (at_ ch rb : Nat) (xv : Value) (s : ByteArray) (w : World) (h : RdAt w rb ov at_ xv ch) (hrb : rb < w0.heap.size) (hb0 : But w0 w rb) (hown : w.ownsRow w0.heap.size 9 1 xv X.length (strs X)) (hX : X.length ≤ 100000) (hch : ch ≤ 100000)
    (hs0 : 1 ≤ s.size) (hs1 : s.size ≤ 100000) (h43 : gb s 0 = 43) :
    Calls Tryz.prog 20 #[.pointer (some ⟨rb, 0, none⟩), .string s] w fun e w' => e = .returned (.bool true) ∧ ∃ xv', RdAt w' rb ov at_ xv' (ch + 1) ∧ w'.ownsRow w0.heap.size 9 1 xv' (X ++ [wholeB (s.extract 1 s.size)]).length (strs (X ++ [wholeB (s.extract 1 s.size)])) ∧ But w0 w' rb := by
  obtain ⟨i0, hi, hz0, hz1, hz2⟩ := info_parts Tryz.info9
  obtain ⟨c0, c1, c2, c3⟩ := h.cells
  obtain ⟨l, hl⟩ : ∃ l, wholeB (s.extract 1 s.size) = l := ⟨_, rfl⟩
  have hsz := hb0.size
  have HW : Hid (Calls Tryz.prog 48 #[.string (s.extract 1 s.size)] w fun e w' => e = .returned (.string l) ∧ w' = w) := by
    have := kwhole32_any (s.extract 1 s.size) w (by rw [ByteArray.size_extract]; omega)
    rw [hl] at this
    exact this
  have hlt0 : 0 < s.size := by omega
  have h43' : s[0].toNat = 43 := by rw [gb_eq s 0 hlt0]; exact h43
  have e1 : (((s[0].toNat : Nat) : Int) == 64) = false := by rw [h43']; rfl
  have e2 : (((s[0].toNat : Nat) : Int) == 45) = false := by rw [h43']; rfl
  have e3 : (((s[0].toNat : Nat) : Int) == 43) = true := by rw [h43']; rfl
  have w3 : IntKind.i64.wrap ((ch : Int) + 1) = (ch : Int) + 1 := by simp [IntKind.wrap, IntKind.signed, IntKind.bits]; omega
  rw [hl]
  clear hl h43 h43'
  have HR : Hid (RdAt w rb ov at_ xv ch) := h
  clear h
  go_enter Tryz.func20, Tryz.ntmps20
  go_wp2_with fail
  refine HW.out.mono ?_
  rintro e w' ⟨rfl, rfl⟩
  clear HW
  go_wp2_with (at_builtin; refine wpList_append_own _ rfl _ _ 35 rfl w0.heap.size 9 i0 (.string ⟨#[]⟩) 1 16 Tryz.underlying35 hi hz0 hz1 hz2 rfl (by decide) _ _ _ rfl (hown.alloc _) ⟨_, 0, none⟩ 1 1 [.string l] rfl rfl (new_one _ _ _) (strs_one [_]) (by unfold maxLen; omega) (by omega) (by simp; omega) ?_)
  intro v' w2 hown' hg2 _
  have hrow : ∀ j, xv.ownBlock = some j → w0.heap.size ≤ j := fun j hj => (hown.lt j hj).1
  have hb2 : But w0 w2 rb := (hb0.alloc _).grown hg2 hrow
  have hM2 : RdAt w2 rb ov at_ xv ch := (hg2.block rb (by simp; omega) (fun e => by have := hrow rb e.symm; omega)).trans ((Below.heap_alloc _ _ _ (by omega)).trans HR.out)
  have hO2 : w2.ownsRow w0.heap.size 9 1 v' (X ++ [l]).length (strs (X ++ [l])) := by rw [strs_snoc] at hown'; simpa using hown'
  obtain ⟨va, vc, rfl⟩ := own_shape hO2
  obtain ⟨x0, x1, x2, x3⟩ := hM2.cells
  have y2 := hM2.free 2
  have y3 := hM2.free 3
  have HF : Hid (RdAt ((w2.setCell ⟨rb, 2, none⟩ (.slice va (X ++ [l]).length vc)).setCell ⟨rb, 3, none⟩ (.int .i64 ((ch : Int) + 1))) rb ov at_ (.slice va (X ++ [l]).length vc) (ch + 1)) := hM2.out (.slice va (X ++ [l]).length vc) (ch + 1)
  have HO : Hid (((w2.setCell ⟨rb, 2, none⟩ (.slice va (X ++ [l]).length vc)).setCell ⟨rb, 3, none⟩ (.int .i64 ((ch : Int) + 1))).ownsRow w0.heap.size 9 1 (.slice va (X ++ [l]).length vc) (X ++ [l]).length (strs (X ++ [l]))) := ownsRow_setCell_below (ownsRow_setCell_below hO2 (a := ⟨rb, 2, none⟩) hrb _) (a := ⟨rb, 3, none⟩) hrb _
  have HB : Hid (But w0 ((w2.setCell ⟨rb, 2, none⟩ (.slice va (X ++ [l]).length vc)).setCell ⟨rb, 3, none⟩ (.int .i64 ((ch : Int) + 1))) rb) := (hb2.set _).set _
  clear hown' hg2 hown hb0 hb2 hM2 hO2 HR
  have hlen : (X ++ [l]).length = X.length + 1 := by simp
  go_wp2
  go_ret
  rw [hlen] at HF HO HB ⊢
  exact ⟨rfl, _, HF.out, HO.out, HB.out⟩
end Go.Proofs.YtgdfipmdmgkidaaGreatDoor

/- The statement's reading of a telling: where a hunk stands. -/
namespace Go.Proofs.YtgdfipmdmgkidaaGreatDoor
open Go.RowKit

theorem RdAt.far {w : World} {rb at_ ch : Nat} {ov xv : Value} (h : RdAt w rb ov at_ xv ch) (u : Value) (c : Nat) : RdAt ((w.setCell ⟨rb, 2, none⟩ u).setCell ⟨rb, 1, none⟩ (.int .i64 (c : Nat))) rb ov c u ch := by
  unfold RdAt at h ⊢
  have g1 := heap_setCell_same w rb 2 _ 38 u h
  have g2 := heap_setCell_same _ rb 1 _ 38 (.int .i64 (c : Nat)) g1
  exact g2
def midOf (O : List ByteArray) (i k : Nat) : List ByteArray := (O.take k).drop i
theorem midOf_len {O : List ByteArray} {i k : Nat} (hk : k ≤ O.length) : (midOf O i k).length = k - i := by unfold midOf; simp; omega
theorem mid_cells {w : World} {b o : Nat} {O : List ByteArray} {i k : Nat} (hc : ∀ j, j < O.length → w.cell? ⟨b, o + j, none⟩ = some (.string (O.getD j ByteArray.empty))) (hk : k ≤ O.length) :
    ∀ j u, (strs (midOf O i k))[j]? = some u → w.cell? ((⟨b, o + i, none⟩ : Addr).add j) = some u := by
  intro j u hj
  have hlen := midOf_len (i := i) hk
  unfold strs at hj
  rw [List.getElem?_map] at hj
  obtain ⟨t, ht, rfl⟩ := Option.map_eq_some_iff.1 hj
  have hlt : j < k - i := by
    rcases Nat.lt_or_ge j (k - i) with h | h
    · exact h
    · rw [List.getElem?_eq_none (by omega)] at ht; cases ht
  have e : (⟨b, o + i, none⟩ : Addr).add j = ⟨b, o + (i + j), none⟩ := by unfold Addr.add; split <;> simp_all <;> omega
  rw [e, hc (i + j) (by omega)]
  unfold midOf at ht
  rw [List.getElem?_drop, List.getElem?_take_of_lt (by omega)] at ht
  rw [List.getD_eq_getElem?_getD, ht]
  rfl

set_option maxRecDepth 100000 in
set_option maxHeartbeats 3200000 in
theorem ktake15_at (w0 : World) (O X : List ByteArray) (b o oc : Nat) (at_ k ch rb : Nat) (xv : Value) (s : ByteArray) (w : World) (h : RdAt w rb (.slice (some ⟨b, o, none⟩) O.length oc) at_ xv ch) (hoc : O.length ≤ oc) (hO : O.length ≤ 10000) (hc : ∀ j, j < O.length → w.cell? ⟨b, o + j, none⟩ = some (.string (O.getD j ByteArray.empty)))
    (hrb : rb < w0.heap.size) (hb0 : But w0 w rb) (hown : w.ownsRow w0.heap.size 9 1 xv X.length (strs X)) (hX : X.length ≤ 10000)
    (hs0 : 3 ≤ s.size) (hs1 : s.size ≤ 5) (h64 : gb s 0 = 64) (hd : ∀ i, i < (s.extract 1 (s.size - 1)).size → 48 ≤ gb (s.extract 1 (s.size - 1)) i ∧ gb (s.extract 1 (s.size - 1)) i ≤ 57) (hk : decV (s.extract 1 (s.size - 1)) (s.extract 1 (s.size - 1)).size = k + 1) (hat : at_ < k) (hkO : k ≤ O.length) :
    Calls Tryz.prog 20 #[.pointer (some ⟨rb, 0, none⟩), .string s] w fun e w' => e = .returned (.bool true) ∧ ∃ xv', RdAt w' rb (.slice (some ⟨b, o, none⟩) O.length oc) k xv' ch ∧ w'.ownsRow w0.heap.size 9 1 xv' (X ++ midOf O at_ k).length (strs (X ++ midOf O at_ k)) ∧ But w0 w' rb := by
  obtain ⟨i0, hi, hz0, hz1, hz2⟩ := info_parts Tryz.info9
  obtain ⟨c0, c1, c2, c3⟩ := h.cells
  have y2 := h.free 2
  have hsz := hb0.size
  have HN : Hid (Calls Tryz.prog 47 #[.string (s.extract 1 (s.size - 1))] w fun e w' => e = .returned (.int .i64 ((k : Int) + 1)) ∧ w' = w) := by
    have := knumber31_any (s.extract 1 (s.size - 1)) w (by rw [ByteArray.size_extract]; omega) (by rw [ByteArray.size_extract]; omega) hd
    rw [hk] at this
    exact this
  have hlt0 : 0 < s.size := by omega
  have h64' : s[0].toNat = 64 := by rw [gb_eq s 0 hlt0]; exact h64
  have e1 : (((s[0].toNat : Nat) : Int) == 64) = true := by rw [h64']; rfl
  have s1 : IntKind.i64.wrap ((s.size : Int) - 1) = (s.size : Int) - 1 := by simp [IntKind.wrap, IntKind.signed, IntKind.bits]; omega
  have s2 : ((s.size : Int) - 1).toNat = s.size - 1 := by omega
  have s3 : (1 : Int) ≤ (s.size : Int) - 1 := by omega
  have s4 : (s.size : Int) - 1 ≤ (s.size : Int) := by omega
  have s5 : (0 : Int) ≤ (s.size : Int) - 1 := by omega
  have k1 : IntKind.i64.wrap ((k : Int) + 1 - 1) = (k : Int) := by simp [IntKind.wrap, IntKind.signed, IntKind.bits]; omega
  have a1 : decide ((k : Int) < (at_ : Int)) = false := by simp; omega
  have a2 : decide (k < at_) = false := by simp; omega
  have a3 : decide ((O.length : Int) < (k : Int)) = false := by simp; omega
  have a4 : decide (O.length < k) = false := by simp; omega
  have q1 : (at_ : Int) ≤ (k : Int) := by omega
  have q2 : (k : Int) ≤ (oc : Int) := by omega
  have hml := midOf_len (i := at_) hkO
  have HR : Hid (RdAt w rb (.slice (some ⟨b, o, none⟩) O.length oc) at_ xv ch) := h
  have HC : Hid (∀ j u, (strs (midOf O at_ k))[j]? = some u → w.cell? ((⟨b, o + at_, none⟩ : Addr).add j) = some u) := mid_cells hc hkO
  clear h h64 h64' hd hk hc
  go_enter Tryz.func20, Tryz.ntmps20
  go_wp2_with fail
  refine HN.out.mono ?_
  rintro e w' ⟨rfl, rfl⟩
  clear HN
  go_wp2_with fail
  have hrow : ∀ j, xv.ownBlock = some j → w0.heap.size ≤ j := fun j hj => (hown.lt j hj).1
  have H1 : Hid (∀ u ∈ strs (midOf O at_ k), u.oneCell' = true) := strs_one _
  have hsl : (strs (midOf O at_ k)).length = (k - at_) * 1 := by unfold strs; rw [List.length_map, hml]; omega
  have hne : ¬ oc = at_ := by omega
  have tk : ((k : Int) - (at_ : Int)).toNat = k - at_ := by omega
  have to' : ((oc : Int) - (at_ : Int)).toNat = oc - at_ := by omega
  go_region_law (first
      | (refine step_append_lies _ (by rfl) _ _ _ (by rfl) w0.heap.size 9 i0 _ 1 16 Tryz.underlying35 hi hz0 hz1 hz2 rfl (by omega) _ X.length (strs X) (by rfl) hown.drew ⟨b, o + at_, none⟩ (k - at_) (oc - at_) (strs (midOf O at_ k)) (by first | rfl | (show Value.slice (if oc = at_ then some (⟨b, o, none⟩ : Addr) else some ⟨b, o + at_, none⟩) (k - at_) (oc - at_) = _; rw [if_neg hne])) hsl HC.out H1.out (by omega) (by unfold maxLen; omega) (by omega) (by simp; omega) w'.heap.size (by simp) ?_; intro g cp w2 hown2 hgrow hat2 hlt2
         have hR2 : Hid (RdAt w2 rb (.slice (some ⟨b, o, none⟩) O.length oc) at_ xv ch) := (hgrow.block rb (by simp; omega) (fun e => by have := hrow rb e.symm; omega)).trans HR.out
         have d0 := hR2.out.cells.1
         have d1 := hR2.out.cells.2.1
         have d2 := hR2.out.cells.2.2.1
         have z2 := hR2.out.free 2))
  all_goals
    have hb2 : But w0 w2 rb := hb0.drew.grown hgrow hrow
    have hO2 : w2.ownsRow w0.heap.size 9 1 (.slice (some ⟨g, 0, none⟩) (X.length + (k - at_)) cp) (X ++ midOf O at_ k).length (strs (X ++ midOf O at_ k)) := by
      have e : strs (X ++ midOf O at_ k) = strs X ++ strs (midOf O at_ k) := by simp
      rw [e, List.length_append, hml]
      exact hown2
    have HF : Hid (RdAt ((w2.setCell ⟨rb, 2, none⟩ (.slice (some ⟨g, 0, none⟩) (X.length + (k - at_)) cp)).setCell ⟨rb, 1, none⟩ (.int .i64 (k : Nat))) rb (.slice (some ⟨b, o, none⟩) O.length oc) k (.slice (some ⟨g, 0, none⟩) (X.length + (k - at_)) cp) ch) := hR2.out.far _ k
    have HO : Hid (((w2.setCell ⟨rb, 2, none⟩ (.slice (some ⟨g, 0, none⟩) (X.length + (k - at_)) cp)).setCell ⟨rb, 1, none⟩ (.int .i64 (k : Nat))).ownsRow w0.heap.size 9 1 (.slice (some ⟨g, 0, none⟩) (X.length + (k - at_)) cp) (X ++ midOf O at_ k).length (strs (X ++ midOf O at_ k))) := ownsRow_setCell_below (ownsRow_setCell_below hO2 (a := ⟨rb, 2, none⟩) hrb _) (a := ⟨rb, 1, none⟩) hrb _
    have HB : Hid (But w0 ((w2.setCell ⟨rb, 2, none⟩ (.slice (some ⟨g, 0, none⟩) (X.length + (k - at_)) cp)).setCell ⟨rb, 1, none⟩ (.int .i64 (k : Nat))) rb) := (hb2.set _).set _
    have hR3 : RdAt (w2.setCell ⟨rb, 2, none⟩ (.slice (some ⟨g, 0, none⟩) (X.length + (k - at_)) cp)) rb (.slice (some ⟨b, o, none⟩) O.length oc) at_ (.slice (some ⟨g, 0, none⟩) (X.length + (k - at_)) cp) ch := by
      have h1 := hR2.out
      unfold RdAt at h1 ⊢
      exact heap_setCell_same w2 rb 2 _ 38 _ h1
    have g1 := hR3.cells.2.1
    have z1 := hR3.free 1
    clear hown2 hgrow hown hb0 hb2 hO2 HR hR2 hR3 HC H1 d0 d1 d2 z2 c0 c1 c2 c3 y2
    generalize w2.setCell ⟨rb, 2, none⟩ (.slice (some ⟨g, 0, none⟩) (X.length + (k - at_)) cp) = w8 at *
    go_wp2
    go_ret
    exact ⟨rfl, _, HF.out, HO.out, HB.out⟩
end Go.Proofs.YtgdfipmdmgkidaaGreatDoor

/- The statement's reading of a telling: where a hunk stands, with no line ahead of it. -/
namespace Go.Proofs.YtgdfipmdmgkidaaGreatDoor
open Go.RowKit

theorem run_append_zero {P : Program} {w : World} (base : Nat) (t ty e : TypeId) (i : TypeInfo) (size : Nat) (ht : P.underlying t = some (.slice e)) (hi : P.info? e = some i)
    (v : Value) (n : Nat) (xs : List Value) (hown : w.ownsRow base e size v n xs) (xa : Option Addr) (xc : Nat) :
    (Builtin.append_ #[t, t] ty #[v, .slice xa 0 xc]).run P w = .ok v w := by
  rcases hown.2 with ⟨rfl, rfl⟩ | ⟨g, cap, cur, rfl, _, _, hnc, _⟩
  · cases xa <;> simp [Builtin.append_, run_underlying ht, sizeOf, typeInfo, hi, Builtin.lenOf, Builtin.firstCells, loadCells, loadCellsFrom]
  · cases xa <;> simp [Builtin.append_, run_underlying ht, sizeOf, typeInfo, hi, Builtin.lenOf, Builtin.firstCells, hnc, storeCells, loadCells, loadCellsFrom]
theorem step_append_zero {P : Program} {w : World} {ops : Array Oper} {o : Oper} {a : Act} {K : Act → World → Prop} {Q : Exit → Act → World → Prop} {E : Prop} (hgd : o.guard = none) (s x : Operand) (t : TypeId)
    (ho : o.op = .call { callee := .builtin .append, args := #[s, x], argTypes := #[t, t] })
    (base : Nat) (e : TypeId) (i : TypeInfo) (size : Nat) (ht : P.underlying t = some (.slice e)) (hi : P.info? e = some i)
    (v : Value) (n : Nat) (xs : List Value) (hs : a.eval s = v) (hown : w.ownsRow base e size v n xs) (hx : ∃ xa xc, a.eval x = .slice xa 0 xc)
    (h : K (a.put o.dst v) w) : if Region.wanted o (yielded ops a.tmps) = true then Oper.wp P o a w K Q else E := by
  have hw : Region.wanted o (yielded ops a.tmps) = true := by simp [Region.wanted, hgd]
  rw [if_pos hw]
  obtain ⟨xa, xc, hx⟩ := hx
  have hrun := run_append_zero (P := P) (w := w) base t o.type e i size ht hi v n xs hown xa xc
  unfold Oper.wp
  simp [execOp, ho, resolve, invoke, builtin, hs, hx, hrun, Result.andThen]
  exact h

set_option maxRecDepth 100000 in
set_option maxHeartbeats 3200000 in
theorem ktake15_at0 (w0 : World) (O X : List ByteArray) (oa : Option Addr) (oc : Nat) (k ch rb : Nat) (xv : Value) (s : ByteArray) (w : World) (h : RdAt w rb (.slice oa O.length oc) k xv ch) (hoc : O.length ≤ oc) (hO : O.length ≤ 10000)
    (hrb : rb < w0.heap.size) (hb0 : But w0 w rb) (hown : w.ownsRow w0.heap.size 9 1 xv X.length (strs X)) (_hX : X.length ≤ 10000)
    (hs0 : 3 ≤ s.size) (hs1 : s.size ≤ 5) (h64 : gb s 0 = 64) (hd : ∀ i, i < (s.extract 1 (s.size - 1)).size → 48 ≤ gb (s.extract 1 (s.size - 1)) i ∧ gb (s.extract 1 (s.size - 1)) i ≤ 57) (hk : decV (s.extract 1 (s.size - 1)) (s.extract 1 (s.size - 1)).size = k + 1) (hkO : k ≤ O.length) :
    Calls Tryz.prog 20 #[.pointer (some ⟨rb, 0, none⟩), .string s] w fun e w' => e = .returned (.bool true) ∧ ∃ xv', RdAt w' rb (.slice oa O.length oc) k xv' ch ∧ w'.ownsRow w0.heap.size 9 1 xv' (X).length (strs (X)) ∧ But w0 w' rb := by
  obtain ⟨i0, hi, hz0, hz1, hz2⟩ := info_parts Tryz.info9
  obtain ⟨c0, c1, c2, c3⟩ := h.cells
  have y2 := h.free 2
  have hsz := hb0.size
  have HN : Hid (Calls Tryz.prog 47 #[.string (s.extract 1 (s.size - 1))] w fun e w' => e = .returned (.int .i64 ((k : Int) + 1)) ∧ w' = w) := by
    have := knumber31_any (s.extract 1 (s.size - 1)) w (by rw [ByteArray.size_extract]; omega) (by rw [ByteArray.size_extract]; omega) hd
    rw [hk] at this
    exact this
  have hlt0 : 0 < s.size := by omega
  have h64' : s[0].toNat = 64 := by rw [gb_eq s 0 hlt0]; exact h64
  have e1 : (((s[0].toNat : Nat) : Int) == 64) = true := by rw [h64']; rfl
  have s1 : IntKind.i64.wrap ((s.size : Int) - 1) = (s.size : Int) - 1 := by simp [IntKind.wrap, IntKind.signed, IntKind.bits]; omega
  have s2 : ((s.size : Int) - 1).toNat = s.size - 1 := by omega
  have s3 : (1 : Int) ≤ (s.size : Int) - 1 := by omega
  have s4 : (s.size : Int) - 1 ≤ (s.size : Int) := by omega
  have s5 : (0 : Int) ≤ (s.size : Int) - 1 := by omega
  have k1 : IntKind.i64.wrap ((k : Int) + 1 - 1) = (k : Int) := by simp [IntKind.wrap, IntKind.signed, IntKind.bits]; omega
  have a1 : decide ((k : Int) < (k : Int)) = false := by simp
  have a2 : decide (k < k) = false := by simp
  have a3 : decide ((O.length : Int) < (k : Int)) = false := by simp; omega
  have a4 : decide (O.length < k) = false := by simp; omega
  have q1 : (k : Int) ≤ (k : Int) := by omega
  have q2 : (k : Int) ≤ (oc : Int) := by omega
  have HR : Hid (RdAt w rb (.slice oa O.length oc) k xv ch) := h
  clear h h64 h64' hd hk
  go_enter Tryz.func20, Tryz.ntmps20
  go_wp2_with fail
  refine HN.out.mono ?_
  rintro e w' ⟨rfl, rfl⟩
  clear HN
  go_wp2_with fail
  have hrow : ∀ j, xv.ownBlock = some j → w0.heap.size ≤ j := fun j hj => (hown.lt j hj).1
  have zk : k - k = 0 := by omega
  obtain ⟨xa, xc, rfl⟩ := own_shape hown
  go_region_law (first
      | (refine step_append_zero (by rfl) _ _ _ (by rfl) w0.heap.size 9 i0 1 Tryz.underlying35 hi _ X.length (strs X) (by rfl) hown.drew ⟨_, _, by first | rfl | (simp [zk]; rfl)⟩ ?_))
  all_goals
    have HF : Hid (RdAt ((w'.setCell ⟨rb, 2, none⟩ (.slice xa X.length xc)).drew.setCell ⟨rb, 1, none⟩ (.int .i64 (k : Nat))) rb (.slice oa O.length oc) k (.slice xa X.length xc) ch) := HR.out.far _ k
    have HO1 : (w'.setCell ⟨rb, 2, none⟩ (.slice xa X.length xc)).drew.ownsRow w0.heap.size 9 1 (.slice xa X.length xc) X.length (strs X) := (ownsRow_setCell_below hown (a := ⟨rb, 2, none⟩) hrb _).drew
    have HO : Hid (((w'.setCell ⟨rb, 2, none⟩ (.slice xa X.length xc)).drew.setCell ⟨rb, 1, none⟩ (.int .i64 (k : Nat))).ownsRow w0.heap.size 9 1 (.slice xa X.length xc) X.length (strs X)) := ownsRow_setCell_below HO1 (a := ⟨rb, 1, none⟩) hrb _
    have HB : Hid (But w0 ((w'.setCell ⟨rb, 2, none⟩ (.slice xa X.length xc)).drew.setCell ⟨rb, 1, none⟩ (.int .i64 (k : Nat))) rb) := ((hb0.set _).drew).set _
    have hR3 : RdAt (w'.setCell ⟨rb, 2, none⟩ (.slice xa X.length xc)).drew rb (.slice oa O.length oc) k (.slice xa X.length xc) ch := by
      have h1 := HR.out
      unfold RdAt at h1 ⊢
      exact heap_setCell_same w' rb 2 _ 38 _ h1
    have g1 := hR3.cells.2.1
    have z1 := hR3.free 1
    clear hown hb0 HR hR3 HO1 c0 c1 c2 c3 y2
    generalize (w'.setCell ⟨rb, 2, none⟩ (.slice xa X.length xc)).drew = w8 at *
    by_cases hq : oc = k
    · rw [hq]
      go_wp2
      go_ret
      exact ⟨rfl, _, HF.out, HO.out, HB.out⟩
    · go_wp2
      go_ret
      exact ⟨rfl, _, HF.out, HO.out, HB.out⟩
end Go.Proofs.YtgdfipmdmgkidaaGreatDoor
