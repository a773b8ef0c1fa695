import Derived.Test.YtgdfipmdmgkidaaGreatDoorRecordsLift
import Derived.Stop.Joined
import Derived.JoinedCond
import Derived.ProofKit
import Derived.Test.YtgdfipmdmgkidaaGreatDoorAl
set_option linter.all false
set_option maxHeartbeats 12800000
set_option maxRecDepth 100000
namespace Go.Proofs.YtgdfipmdmgkidaaGreatDoor
open Go.ChangeShapes Go.WideShapes Go.ChangeAt Go.RowKit Go.Deep
theorem bBu{a b:Bool}(z:a=true)(E:b=true):(a && b)=true:=by rw[z,E];rfl
theorem aEh:(Rows.recordsUptoRow.inPlace == Tryz.prog.inPlace 4)=true:=by kernel_rfl
theorem aAc:(Rows.recordsUptoRow.unfollowed == Tryz.prog.unfollowed 4)=true:=by kernel_rfl
theorem aCh:(Rows.recordsUptoRow.recurses == Tryz.prog.recurses 4)=true:=by kernel_rfl
theorem aIh:(Rows.recordsUptoRow.named == Tryz.prog.varsNamed 4)=true:=by kernel_rfl
theorem aG1:joinedFacts Tryz.prog 4 Tryz.f4 (Rows.OpenSpec.upto Rows.recordsSpec).bare Rows.recordsUptoRow=true:=by
 unfold joinedFacts
 repeat' with_reducible refine bBu ?_ ?_
 all_goals first|with_reducible exact aEh|with_reducible exact aAc|with_reducible exact aCh|with_reducible exact aIh|(as_aux_lemma=>kernel_rfl)
theorem aBb:Rows.RecordsUptoSaid:=
 OpenClaim.holds_of_cond 4 Tryz.f4 rfl rfl rfl rfl rfl rfl rfl ⟨rfl,rfl,rfl,rfl,rfl⟩ rfl rfl rfl rfl rfl (by kernel_rfl) Tryz.func4 aG1
  (of_decide_eq_true (by kernel_rfl)) (by unfold Func.isWrapper;first|(rw[if_pos (by decide +kernel)];kernel_rfl)|(rw[if_neg (by decide +kernel)];exact⟨rfl,rfl⟩))
  (λos z H enc _ F=>by rw[OpenClaim.pre_eq_preRow];exact aG2 os z H enc F)
end Go.Proofs.YtgdfipmdmgkidaaGreatDoor
