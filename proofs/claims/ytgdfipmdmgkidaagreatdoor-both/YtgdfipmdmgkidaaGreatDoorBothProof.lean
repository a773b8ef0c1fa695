/- Both returns true at every three scripts, of any length, and leaves them as they were: the tied card; no condition but that the package-level variables which the card lists start as the text of the program lays them (the tie is given). -/
import Derived.Test.YtgdfipmdmgkidaaGreatDoorBothHolds
import Derived.Test.YtgdfipmdmgkidaaGreatDoorCards
import Derived.Test.YtgdfipmdmgkidaaGreatDoorTie
import Derived.SevenTiedAt
namespace Go.Proofs.YtgdfipmdmgkidaaGreatDoor
open Go.ChangeShapes Go.WideShapes Go.ChangeAt Go.RowKit
theorem ucard_wf : Rows.bothRow.wfByText (OpenSpec.ofChange Rows.bothSpec) = true := by kernel_rfl
theorem ucard_main : Tryz.pinned.checked.prog.mainIs = some (true, "78752d3219e4591588ae902fa8c77d740e791f0eb76b1398dcb5b97d2cc25ce9".toList) := by kernel_rfl
theorem ucard_looks : true = Tryz.pinned.checked.prog.looks [] := by kernel_rfl
theorem ucard_stand : ([43, 43, 43].all fun u => !Tryz.prog.wantsStandIn u) = true := by kernel_rfl
theorem ucard_func : Tryz.prog.funcNamed "stitch/stitchkeep.Both" = some 12 := by kernel_rfl
theorem ucard_goes : false = Rows.bothRow.goesBy Tryz.pinned.checked.prog := by kernel_rfl
theorem both_card : Rows.BothCardSaid :=
  Claim7.holds_tied_plain_at .later [] [.data, .data, .data, .sentinel, .sentinel] true (true, "78752d3219e4591588ae902fa8c77d740e791f0eb76b1398dcb5b97d2cc25ce9") true
    both_holds (fun _ h => by cases h) ucard_wf (fun _ h => by cases h) both_row_tie rfl ⟨rfl, rfl⟩ ucard_main rfl
    (fun f fn hf hfn => by
      obtain rfl : f = 12 := Option.some.inj (ucard_func.symm.trans hf) |>.symm
      obtain rfl : fn = Tryz.f12 := (Option.some.inj (Tryz.func12.symm.trans hfn)).symm
      exact ⟨ucard_looks, fun j t ht => by
        rw [Tryz.params12] at ht
        have hm : t ∈ [43, 43, 43] := by simpa using Array.mem_of_getElem? ht
        exact (show Tryz.prog.wantsStandIn t = false by simpa using List.all_eq_true.1 ucard_stand t hm)⟩)
    ucard_goes
#print axioms both_card
end Go.Proofs.YtgdfipmdmgkidaaGreatDoor
