/- The walk of the statement Lined: for every text the call returns true, and writes nothing that was there. -/
import Derived.Test.YtgdfipmdmgkidaaGreatDoorWref
import Derived.Test.YtgdfipmdmgkidaaGreatDoorWtake
import Derived.Test.YtgdfipmdmgkidaaGreatDoorWlooks
namespace Go.Proofs.YtgdfipmdmgkidaaGreatDoor
open Go.RowKit

theorem num6_any (z : Int) (w : World) (_h0 : 0 ≤ z) (_h1 : z ≤ 1000) : Calls Tryz.prog 53 #[.int .i64 z] w fun e w' => e = .returned (.int .i64 z) ∧ w' = w := by
  go_enter Tryz.func53, Tryz.ntmps53
  go_wp2
  go_ret
  exact ⟨rfl, rfl⟩

theorem linesErr_bd (s : ByteArray) : 0 ≤ linesErr s ∧ linesErr s ≤ 1000 := by unfold linesErr; split <;> omega
theorem linesOf_len (s : ByteArray) : (linesOf s).length ≤ 16 := by
  unfold linesOf linesOk
  split
  · rename_i h
    simp at h
    exact h.1.2
  · simp

set_option maxRecDepth 100000 in
set_option maxHeartbeats 1600000 in
theorem lined8_any (s : ByteArray) (B bb : Nat) (S : Nat → Prop) (K : List Ent) (lv kv : Value) (w : World) (hbk : BookAt w B S bb K lv kv) (hS : ∀ g, S g → g < w.heap.size) (hB : B ≤ w.heap.size) (hK : K.length + 1 ≤ 10000000) :
    Calls Tryz.prog 56 #[.pointer (some ⟨bb, 1, none⟩), .string s] w fun e w' => e = .returned (.bool true) ∧ ∃ x kv', BookAt w' B (Old w') bb (K ++ [x]) lv kv' ∧ Below B w w' ∧ (∀ g, g < w.heap.size → g ≠ bb → some g ≠ kv.ownBlock → w'.heap[g]? = w.heap[g]?) := by
  have hbd := linesErr_bd s
  have hlen := linesOf_len s
  have h5 := lines5_any s w
  have h14 := fun w1 => lines14_any s w1
  generalize linesErr s = z at *
  generalize linesOf s = L at *
  obtain ⟨hz0, hz1⟩ := hbd
  have hzz : (z == z) = true := by simp
  have H14 : Hid (∀ w1, Calls Tryz.prog 92 #[.string s] w1 fun e w' => ∃ v, e = .returned (.tuple #[v, .int .i64 z]) ∧ w'.ownsRow w1.heap.size 9 1 v L.length (strs L) ∧ Below w1.heap.size w1 w') := h14
  have H5 : Hid (Calls Tryz.prog 91 #[.string s] w fun e w' => ∃ v, e = .returned (.tuple #[v, .int .i64 z]) ∧ w'.ownsRow w.heap.size 9 1 v L.length (strs L) ∧ Below w.heap.size w w') := h5
  clear h14 h5
  go_enter Tryz.func56, Tryz.ntmps56
  go_wp2_with fail
  refine H5.out.mono ?_
  rintro e w1 ⟨v, rfl, hown1, hb1⟩
  obtain ⟨ao, ca, rfl⟩ := own_shape hown1
  go_wp2_with fail
  refine (H14.out w1).mono ?_
  rintro e w2 ⟨v2, rfl, hown2, hb2⟩
  obtain ⟨bo, cb, rfl⟩ := own_shape hown2
  have hown1' := own_below hown1 hb2 (Nat.le_refl _)
  go_wp2_with fail
  refine (same15_any L ao bo ca cb _ _ w2 hown1' hown2 (by omega)).mono ?_
  rintro e w3 ⟨rfl, q, rfl⟩
  have hb3 : Below w2.heap.size w2 (w2.drewN q) := below_drewN (Below.refl _ _) q
  have hs1 := hb1.size
  have hs2 := hb2.size
  have hs3 := hb3.size
  have hbw : Below w.heap.size w (w2.drewN q) := hb1.trans ((hb2.mono (by omega)).trans (hb3.mono (by omega)))
  have HBW : Hid (Below w.heap.size w (w2.drewN q)) := hbw
  have hbk3 := hbk.same (Same.of_below hbw hS)
  have hown3 := own_below hown1' hb3 (Nat.le_refl _)
  have HLT : Hid (∀ g, (Value.slice ao L.length ca).ownBlock = some g → w.heap.size ≤ g) := fun g hg => (hown3.lt g hg).1
  have hbB : Below B w (w2.drewN q) := hbw.mono hB
  have hS3 : ∀ g, S g → g < (w2.drewN q).heap.size := fun g hg => by have := hS g hg; have := hbw.size; omega
  have hfree : ∀ g, (Value.slice ao L.length ca).ownBlock = some g → ¬ S g := fun g hg hs => by have := (hown3.lt g hg).1; have := hS g hs; omega
  clear hown1 hown2 hown1' hb1 hb2 hb3 hbk
  go_wp2_with fail
  refine (take7_any L _ w.heap.size B bb S K lv kv _ hbk3 hS3 hown3 hB (by omega) hfree (by omega) hK).mono ?_
  rintro e w4 ⟨rfl, x, kv', hbk4, hb4, hf4⟩
  go_wp2_with (go_at_call 53; refine (num6_any _ _ hz0 hz1).mono ?_; rintro e w' ⟨rfl, rfl⟩)
  go_ret
  refine ⟨rfl, x, kv', hbk4, hbB.trans hb4, fun g h1 h2 h3 => ?_⟩
  rw [hf4 g (by have := HBW.out.size; omega) h2 h3 (fun e => by have := HLT.out g e.symm; omega)]
  exact HBW.out.block g h1

end Go.Proofs.YtgdfipmdmgkidaaGreatDoor
