/- The row of Undone holds: its closed facts one by one, and the statement. -/
import Derived.Test.YtgdfipmdmgkidaaGreatDoorUndoneLift
import Derived.Stop.Joined
import Derived.ProofKit
namespace Go.Proofs.YtgdfipmdmgkidaaGreatDoor
open Go.ChangeShapes Go.WideShapes Go.ChangeAt Go.RowKit

theorem and_t {a b : Bool} (ha : a = true) (hb : b = true) : (a && b) = true := by rw [ha, hb]; rfl
theorem undone_inPlace : (Rows.undoneRow.inPlace == Tryz.prog.inPlace 7) = true := by kernel_rfl
theorem undone_unfollowed : (Rows.undoneRow.unfollowed == Tryz.prog.unfollowed 7) = true := by kernel_rfl
theorem undone_recurses : (Rows.undoneRow.recurses == Tryz.prog.recurses 7) = true := by kernel_rfl
theorem undone_named : (Rows.undoneRow.named == Tryz.prog.varsNamed 7) = true := by kernel_rfl
set_option maxRecDepth 100000 in
set_option maxHeartbeats 12800000 in
theorem undone_closed : joinedFacts Tryz.prog 7 Tryz.f7 Rows.undoneSpec Rows.undoneRow = true := by
  unfold joinedFacts
  repeat' with_reducible refine and_t ?_ ?_
  all_goals first | with_reducible exact undone_inPlace | with_reducible exact undone_unfollowed | with_reducible exact undone_recurses | with_reducible exact undone_named | (as_aux_lemma => kernel_rfl)

theorem undone_holds : Rows.UndoneSaid :=
  OpenClaim.holds_of_wide 7 Tryz.f7 rfl rfl rfl rfl rfl rfl rfl ⟨rfl, rfl, rfl, rfl, rfl⟩ rfl rfl rfl rfl rfl (by kernel_rfl) Tryz.func7 undone_closed
    (of_decide_eq_true (by kernel_rfl)) (by unfold Func.isWrapper; first | (rw [if_pos (by decide +kernel)]; kernel_rfl) | (rw [if_neg (by decide +kernel)]; exact ⟨rfl, rfl⟩))
    (fun os started H enc _ => undone_lifted os started H enc)
end Go.Proofs.YtgdfipmdmgkidaaGreatDoor
