/- The row of Told holds: its closed facts one by one, and the statement. -/
import Derived.Test.YtgdfipmdmgkidaaGreatDoorToldLift
import Derived.Stop.Joined
import Derived.ProofKit
namespace Go.Proofs.YtgdfipmdmgkidaaGreatDoor
open Go.ChangeShapes Go.WideShapes Go.ChangeAt Go.RowKit

theorem and_t {a b : Bool} (ha : a = true) (hb : b = true) : (a && b) = true := by rw [ha, hb]; rfl
theorem told_inPlace : (Rows.toldRow.inPlace == Tryz.prog.inPlace 5) = true := by kernel_rfl
theorem told_unfollowed : (Rows.toldRow.unfollowed == Tryz.prog.unfollowed 5) = true := by kernel_rfl
theorem told_recurses : (Rows.toldRow.recurses == Tryz.prog.recurses 5) = true := by kernel_rfl
theorem told_named : (Rows.toldRow.named == Tryz.prog.varsNamed 5) = true := by kernel_rfl
set_option maxRecDepth 100000 in
set_option maxHeartbeats 12800000 in
theorem told_closed : joinedFacts Tryz.prog 5 Tryz.f5 Rows.toldSpec Rows.toldRow = true := by
  unfold joinedFacts
  repeat' with_reducible refine and_t ?_ ?_
  all_goals first | with_reducible exact told_inPlace | with_reducible exact told_unfollowed | with_reducible exact told_recurses | with_reducible exact told_named | (as_aux_lemma => kernel_rfl)

theorem told_holds : Rows.ToldSaid :=
  OpenClaim.holds_of_wide 5 Tryz.f5 rfl rfl rfl rfl rfl rfl rfl ⟨rfl, rfl, rfl, rfl, rfl⟩ rfl rfl rfl rfl rfl (by kernel_rfl) Tryz.func5 told_closed
    (of_decide_eq_true (by kernel_rfl)) (by unfold Func.isWrapper; first | (rw [if_pos (by decide +kernel)]; kernel_rfl) | (rw [if_neg (by decide +kernel)]; exact ⟨rfl, rfl⟩))
    (fun os started H enc _ => told_lifted os started H enc)
end Go.Proofs.YtgdfipmdmgkidaaGreatDoor
