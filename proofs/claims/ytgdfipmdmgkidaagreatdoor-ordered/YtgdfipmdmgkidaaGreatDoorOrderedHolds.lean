/- The row of Ordered holds: its closed facts one by one, and the statement. -/
import Derived.Test.YtgdfipmdmgkidaaGreatDoorOrderedLift
import Derived.Stop.Joined
import Derived.ProofKit
namespace Go.Proofs.YtgdfipmdmgkidaaGreatDoor
open Go.ChangeShapes Go.WideShapes Go.ChangeAt Go.RowKit

theorem and_t {a b : Bool} (ha : a = true) (hb : b = true) : (a && b) = true := by rw [ha, hb]; rfl
theorem ordered_inPlace : (Rows.orderedRow.inPlace == Tryz.prog.inPlace 9) = true := by kernel_rfl
theorem ordered_unfollowed : (Rows.orderedRow.unfollowed == Tryz.prog.unfollowed 9) = true := by kernel_rfl
theorem ordered_recurses : (Rows.orderedRow.recurses == Tryz.prog.recurses 9) = true := by kernel_rfl
theorem ordered_named : (Rows.orderedRow.named == Tryz.prog.varsNamed 9) = true := by kernel_rfl
set_option maxRecDepth 100000 in
set_option maxHeartbeats 12800000 in
theorem ordered_closed : joinedFacts Tryz.prog 9 Tryz.f9 Rows.orderedSpec Rows.orderedRow = true := by
  unfold joinedFacts
  repeat' with_reducible refine and_t ?_ ?_
  all_goals first | with_reducible exact ordered_inPlace | with_reducible exact ordered_unfollowed | with_reducible exact ordered_recurses | with_reducible exact ordered_named | (as_aux_lemma => kernel_rfl)

theorem ordered_holds : Rows.OrderedSaid :=
  OpenClaim.holds_of_wide 9 Tryz.f9 rfl rfl rfl rfl rfl rfl rfl ⟨rfl, rfl, rfl, rfl, rfl⟩ rfl rfl rfl rfl rfl (by kernel_rfl) Tryz.func9 ordered_closed
    (of_decide_eq_true (by kernel_rfl)) (by unfold Func.isWrapper; first | (rw [if_pos (by decide +kernel)]; kernel_rfl) | (rw [if_neg (by decide +kernel)]; exact ⟨rfl, rfl⟩))
    (fun os started H enc _ => ordered_lifted os started H enc)
end Go.Proofs.YtgdfipmdmgkidaaGreatDoor
