/- The walk of the statement Lined: for every text the call returns true, and writes nothing that was there. -/
import Derived.Test.YtgdfipmdmgkidaaWref
import Derived.Test.YtgdfipmdmgkidaaWtake
import Derived.Test.YtgdfipmdmgkidaaWlooks
namespace Go.Proofs.Ytgdfipmdmgkidaa
open Go.RowKit

theorem num6_any (z : Int) (w : World) (_h0 : 0 ≤ z) (_h1 : z ≤ 1000) : Calls Try.prog 6 #[.int .i64 z] w fun e w' => e = .returned (.int .i64 z) ∧ w' = w := by
  go_enter Try.func6, Try.ntmps6
  go_wp2
  go_ret
  exact ⟨rfl, rfl⟩

theorem linesErr_bd (s : ByteArray) : 0 ≤ linesErr s ∧ linesErr s ≤ 1000 := by unfold linesErr; split <;> omega
theorem linesOf_len (s : ByteArray) : (linesOf s).length ≤ 16 := by
  unfold linesOf linesOk
  split
  · rename_i h
    simp at h
    exact h.1.2
  · simp

set_option maxHeartbeats 1600000 in
theorem lined8_any (s : ByteArray) (B bb : Nat) (S : Nat → Prop) (K : List Ent) (kv : Value) (w : World) (hbk : BookAt w B S bb K kv) (hS : ∀ g, S g → g < w.heap.size) (hB : B ≤ w.heap.size) (hK : K.length + 1 ≤ 10000000) :
    Calls Try.prog 8 #[.pointer (some ⟨bb, 0, none⟩), .string s] w fun e w' => e = .returned (.bool true) ∧ ∃ x kv', BookAt w' B (Old w') bb (K ++ [x]) kv' ∧ Below B w w' := by
  have hbd := linesErr_bd s
  have hlen := linesOf_len s
  have h5 := lines5_any s w
  have h14 := fun w1 => lines14_any s w1
  generalize linesErr s = z at *
  generalize linesOf s = L at *
  obtain ⟨hz0, hz1⟩ := hbd
  have hzz : (z == z) = true := by simp
  have H14 : Hid (∀ w1, Calls Try.prog 14 #[.string s] w1 fun e w' => ∃ v, e = .returned (.tuple #[v, .int .i64 z]) ∧ w'.ownsRow w1.heap.size 9 1 v L.length (strs L) ∧ Below w1.heap.size w1 w') := h14
  have H5 : Hid (Calls Try.prog 5 #[.string s] w fun e w' => ∃ v, e = .returned (.tuple #[v, .int .i64 z]) ∧ w'.ownsRow w.heap.size 9 1 v L.length (strs L) ∧ Below w.heap.size w w') := h5
  clear h14 h5
  go_enter Try.func8, Try.ntmps8
  go_wp2_with fail
  refine H5.out.mono ?_
  rintro e w1 ⟨v, rfl, hown1, hb1⟩
  obtain ⟨ao, ca, rfl⟩ := own_shape hown1
  go_wp2_with fail
  refine (H14.out w1).mono ?_
  rintro e w2 ⟨v2, rfl, hown2, hb2⟩
  obtain ⟨bo, cb, rfl⟩ := own_shape hown2
  have hown1' := own_below hown1 hb2 (Nat.le_refl _)
  go_wp2_with fail
  refine (same15_any L ao bo ca cb _ _ w2 hown1' hown2 (by omega)).mono ?_
  rintro e w3 ⟨rfl, q, rfl⟩
  have hb3 : Below w2.heap.size w2 (w2.drewN q) := below_drewN (Below.refl _ _) q
  have hs1 := hb1.size
  have hs2 := hb2.size
  have hs3 := hb3.size
  have hbw : Below w.heap.size w (w2.drewN q) := hb1.trans ((hb2.mono (by omega)).trans (hb3.mono (by omega)))
  have hbk3 := hbk.same (Same.of_below hbw hS)
  have hown3 := own_below hown1' hb3 (Nat.le_refl _)
  have hbB : Below B w (w2.drewN q) := hbw.mono hB
  have hS3 : ∀ g, S g → g < (w2.drewN q).heap.size := fun g hg => by have := hS g hg; have := hbw.size; omega
  have hfree : ∀ g, (Value.slice ao L.length ca).ownBlock = some g → ¬ S g := fun g hg hs => by have := (hown3.lt g hg).1; have := hS g hs; omega
  clear hown1 hown2 hown1' hb1 hb2 hb3 hbk
  go_wp2_with fail
  refine (take7_any L _ w.heap.size B bb S K kv _ hbk3 hS3 hown3 hB (by omega) hfree (by omega) hK).mono ?_
  rintro e w4 ⟨rfl, x, kv', hbk4, hb4⟩
  go_wp2_with (go_at_call 6; refine (num6_any _ _ hz0 hz1).mono ?_; rintro e w' ⟨rfl, rfl⟩)
  go_ret
  exact ⟨rfl, x, kv', hbk4, hbB.trans hb4⟩

theorem lines_ab : linesOf ⟨#[97, 10, 98]⟩ = [⟨#[97, 10]⟩, ⟨#[98]⟩] ∧ linesErr ⟨#[97, 10, 98]⟩ = 0 := by decide +kernel

theorem book_new (w : World) (B : Nat) (hB : B ≤ w.heap.size) : BookAt (w.alloc (.cells #[.slice none 0 0] 30)) B (fun g => g = w.heap.size) w.heap.size [] (.slice none 0 0) :=
  ⟨hB, rfl, heap_alloc_new w _, World.ownsRow_nil _ _ _ _, fun g hg => by simp [Value.ownBlock] at hg, fun e he => by simp at he, by simp⟩

set_option maxHeartbeats 1600000 in
theorem lined3_any (s : ByteArray) (w : World) :
    Calls Try.prog 3 #[.string s] w fun e w' => e = .returned (.bool true) ∧ Below w.heap.size w w' := by
  have h5 := lines5_any ⟨#[97, 10, 98]⟩ w
  rw [lines_ab.1, lines_ab.2] at h5
  have H5 : Hid (Calls Try.prog 5 #[.string ⟨#[97, 10, 98]⟩] w fun e w' => ∃ v, e = .returned (.tuple #[v, .int .i64 0]) ∧ w'.ownsRow w.heap.size 9 1 v 2 (strs [⟨#[97, 10]⟩, ⟨#[98]⟩]) ∧ Below w.heap.size w w') := h5
  clear h5
  go_enter Try.func3, Try.ntmps3
  go_wp2_with fail
  refine H5.out.mono ?_
  rintro e w1 ⟨v, rfl, hown1, hb1⟩
  obtain ⟨ao, ca, rfl⟩ := own_shape hown1
  obtain ⟨g, hao, hgB, hgs⟩ := own_at hown1 (by omega)
  subst hao
  have hc0 : w1.cell? ⟨g, 0, none⟩ = some (.string ⟨#[97, 10]⟩) := hown1.cellAt 0 (by omega)
  have hc1 : w1.cell? ⟨g, 1, none⟩ = some (.string ⟨#[98]⟩) := hown1.cellAt 1 (by omega)
  have hs1 := hb1.size
  go_wp2_with (first | (go_at_call 6; refine (num6_any _ _ (by omega) (by omega)).mono ?_; rintro e w' ⟨rfl, rfl⟩))
  refine (take7_any [⟨#[97, 10]⟩, ⟨#[98]⟩] _ w.heap.size w.heap.size _ _ [] _ _ (book_new _ _ hs1) (fun g hg => by subst hg; simp) (hown1.alloc _) (Nat.le_refl _) (by simp; omega) (fun g' hg' hs => by simp [Value.ownBlock] at hg'; omega) (by simp) (by simp)).mono ?_
  rintro e w2 ⟨rfl, x, kv', hbk2, hb2⟩
  have hs2 := hb2.size
  simp at hs2
  go_wp2_with fail
  refine (lined8_any s w.heap.size _ _ _ _ _ hbk2 (fun g hg => hg) (by omega) (by simp)).mono ?_
  rintro e w3 ⟨rfl, x', kv3, hbk3, hb3⟩
  have hs3 := hb3.size
  go_wp2_with fail
  refine (looks9_any w.heap.size _ _ _ _ _ hbk3 (fun g hg => hg)).mono ?_
  rintro e w4 ⟨rfl, hb4⟩
  go_wp2
  go_ret
  exact ⟨rfl, ((hb1.alloc hs1 _).trans hb2).trans (hb3.trans (hb4.mono (by omega)))⟩
end Go.Proofs.Ytgdfipmdmgkidaa
