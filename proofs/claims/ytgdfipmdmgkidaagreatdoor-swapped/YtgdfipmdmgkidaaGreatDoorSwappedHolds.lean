/- The row of Swapped holds: its closed facts one by one, and the statement. -/
import Derived.Test.YtgdfipmdmgkidaaGreatDoorSwappedLift
import Derived.Stop.Joined
import Derived.ProofKit
namespace Go.Proofs.YtgdfipmdmgkidaaGreatDoor
open Go.ChangeShapes Go.WideShapes Go.ChangeAt Go.RowKit

theorem and_t {a b : Bool} (ha : a = true) (hb : b = true) : (a && b) = true := by rw [ha, hb]; rfl
theorem swapped_inPlace : (Rows.swappedRow.inPlace == Tryz.prog.inPlace 8) = true := by kernel_rfl
theorem swapped_unfollowed : (Rows.swappedRow.unfollowed == Tryz.prog.unfollowed 8) = true := by kernel_rfl
theorem swapped_recurses : (Rows.swappedRow.recurses == Tryz.prog.recurses 8) = true := by kernel_rfl
theorem swapped_named : (Rows.swappedRow.named == Tryz.prog.varsNamed 8) = true := by kernel_rfl
set_option maxRecDepth 100000 in
set_option maxHeartbeats 12800000 in
theorem swapped_closed : joinedFacts Tryz.prog 8 Tryz.f8 Rows.swappedSpec Rows.swappedRow = true := by
  unfold joinedFacts
  repeat' with_reducible refine and_t ?_ ?_
  all_goals first | with_reducible exact swapped_inPlace | with_reducible exact swapped_unfollowed | with_reducible exact swapped_recurses | with_reducible exact swapped_named | (as_aux_lemma => kernel_rfl)

theorem swapped_holds : Rows.SwappedSaid :=
  OpenClaim.holds_of_wide 8 Tryz.f8 rfl rfl rfl rfl rfl rfl rfl ⟨rfl, rfl, rfl, rfl, rfl⟩ rfl rfl rfl rfl rfl (by kernel_rfl) Tryz.func8 swapped_closed
    (of_decide_eq_true (by kernel_rfl)) (by unfold Func.isWrapper; first | (rw [if_pos (by decide +kernel)]; kernel_rfl) | (rw [if_neg (by decide +kernel)]; exact ⟨rfl, rfl⟩))
    (fun os started H enc _ => swapped_lifted os started H enc)
end Go.Proofs.YtgdfipmdmgkidaaGreatDoor
