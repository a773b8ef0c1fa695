/- The row of Same holds: its closed facts one by one, and the statement. -/
import Derived.Test.YtgdfipmdmgkidaaGreatDoorSameLift
import Derived.Stop.Joined
import Derived.ProofKit
namespace Go.Proofs.YtgdfipmdmgkidaaGreatDoor
open Go.ChangeShapes Go.WideShapes Go.ChangeAt Go.RowKit
theorem and_t {a b : Bool} (ha : a = true) (hb : b = true) : (a && b) = true := by rw [ha, hb]; rfl
theorem same_inPlace : (Rows.sameRow.inPlace == Tryz.prog.inPlace 11) = true := by kernel_rfl
theorem same_unfollowed : (Rows.sameRow.unfollowed == Tryz.prog.unfollowed 11) = true := by kernel_rfl
theorem same_recurses : (Rows.sameRow.recurses == Tryz.prog.recurses 11) = true := by kernel_rfl
theorem same_named : (Rows.sameRow.named == Tryz.prog.varsNamed 11) = true := by kernel_rfl
set_option maxRecDepth 100000 in
set_option maxHeartbeats 12800000 in
theorem same_closed : joinedFacts Tryz.prog 11 Tryz.f11 Rows.sameSpec Rows.sameRow = true := by
  unfold joinedFacts
  repeat' with_reducible refine and_t ?_ ?_
  all_goals first | with_reducible exact same_inPlace | with_reducible exact same_unfollowed | with_reducible exact same_recurses | with_reducible exact same_named | (as_aux_lemma => kernel_rfl)
theorem same_holds : Rows.SameSaid :=
  OpenClaim.holds_of_wide 11 Tryz.f11 rfl rfl rfl rfl rfl rfl rfl ⟨rfl, rfl, rfl, rfl, rfl⟩ rfl rfl rfl rfl rfl (by kernel_rfl) Tryz.func11 same_closed
    (of_decide_eq_true (by kernel_rfl)) (by unfold Func.isWrapper; first | (rw [if_pos (by decide +kernel)]; kernel_rfl) | (rw [if_neg (by decide +kernel)]; exact ⟨rfl, rfl⟩))
    (fun os started H enc _ => same_lifted os started H enc)
end Go.Proofs.YtgdfipmdmgkidaaGreatDoor
