/- The row of Both holds: its closed facts one by one, and the statement. -/
import Derived.Test.YtgdfipmdmgkidaaGreatDoorBothLift
import Derived.Stop.Joined
import Derived.ProofKit
namespace Go.Proofs.YtgdfipmdmgkidaaGreatDoor
open Go.ChangeShapes Go.WideShapes Go.ChangeAt Go.RowKit
theorem and_t {a b : Bool} (ha : a = true) (hb : b = true) : (a && b) = true := by rw [ha, hb]; rfl
theorem both_inPlace : (Rows.bothRow.inPlace == Tryz.prog.inPlace 12) = true := by kernel_rfl
theorem both_unfollowed : (Rows.bothRow.unfollowed == Tryz.prog.unfollowed 12) = true := by kernel_rfl
theorem both_recurses : (Rows.bothRow.recurses == Tryz.prog.recurses 12) = true := by kernel_rfl
theorem both_named : (Rows.bothRow.named == Tryz.prog.varsNamed 12) = true := by kernel_rfl
set_option maxRecDepth 100000 in
set_option maxHeartbeats 12800000 in
theorem both_closed : joinedFacts Tryz.prog 12 Tryz.f12 Rows.bothSpec Rows.bothRow = true := by
  unfold joinedFacts
  repeat' with_reducible refine and_t ?_ ?_
  all_goals first | with_reducible exact both_inPlace | with_reducible exact both_unfollowed | with_reducible exact both_recurses | with_reducible exact both_named | (as_aux_lemma => kernel_rfl)
theorem both_holds : Rows.BothSaid :=
  OpenClaim.holds_of_wide 12 Tryz.f12 rfl rfl rfl rfl rfl rfl rfl ⟨rfl, rfl, rfl, rfl, rfl⟩ rfl rfl rfl rfl rfl (by kernel_rfl) Tryz.func12 both_closed
    (of_decide_eq_true (by kernel_rfl)) (by unfold Func.isWrapper; first | (rw [if_pos (by decide +kernel)]; kernel_rfl) | (rw [if_neg (by decide +kernel)]; exact ⟨rfl, rfl⟩))
    (fun os started H enc _ => both_lifted os started H enc)
end Go.Proofs.YtgdfipmdmgkidaaGreatDoor
