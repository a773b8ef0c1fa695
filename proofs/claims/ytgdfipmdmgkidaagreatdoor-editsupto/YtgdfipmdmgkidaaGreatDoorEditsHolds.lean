/- The second row of Edits holds: its closed facts one by one, and the statement. -/
import Derived.Test.YtgdfipmdmgkidaaGreatDoorEditsLift
import Derived.Stop.Joined
import Derived.JoinedCond
import Derived.ProofKit
namespace Go.Proofs.YtgdfipmdmgkidaaGreatDoor
open Go.ChangeShapes Go.WideShapes Go.ChangeAt Go.RowKit Go.Deep

theorem and_t {a b : Bool} (ha : a = true) (hb : b = true) : (a && b) = true := by rw [ha, hb]; rfl
theorem edits_inPlace : (Rows.editsUptoRow.inPlace == Tryz.prog.inPlace 3) = true := by kernel_rfl
theorem edits_unfollowed : (Rows.editsUptoRow.unfollowed == Tryz.prog.unfollowed 3) = true := by kernel_rfl
theorem edits_recurses : (Rows.editsUptoRow.recurses == Tryz.prog.recurses 3) = true := by kernel_rfl
theorem edits_named : (Rows.editsUptoRow.named == Tryz.prog.varsNamed 3) = true := by kernel_rfl
set_option maxRecDepth 100000 in
set_option maxHeartbeats 12800000 in
theorem edits_closed : joinedFacts Tryz.prog 3 Tryz.f3 (Rows.OpenSpec.upto Rows.editsSpec).bare Rows.editsUptoRow = true := by
  unfold joinedFacts
  repeat' with_reducible refine and_t ?_ ?_
  all_goals first | with_reducible exact edits_inPlace | with_reducible exact edits_unfollowed | with_reducible exact edits_recurses | with_reducible exact edits_named | (as_aux_lemma => kernel_rfl)

theorem editsUpto_holds : Rows.EditsUptoSaid :=
  OpenClaim.holds_of_cond 3 Tryz.f3 rfl rfl rfl rfl rfl rfl rfl ⟨rfl, rfl, rfl, rfl, rfl⟩ rfl rfl rfl rfl rfl (by kernel_rfl) Tryz.func3 edits_closed
    (of_decide_eq_true (by kernel_rfl)) (by unfold Func.isWrapper; first | (rw [if_pos (by decide +kernel)]; kernel_rfl) | (rw [if_neg (by decide +kernel)]; exact ⟨rfl, rfl⟩))
    (fun os started H enc _ F => by rw [OpenClaim.pre_eq_preRow]; exact edits_lifted os started H enc F)
end Go.Proofs.YtgdfipmdmgkidaaGreatDoor
