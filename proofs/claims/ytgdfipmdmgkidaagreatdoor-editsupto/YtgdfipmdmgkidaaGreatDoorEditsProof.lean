/- Edits answers true at every script whose values and letters are together at most 1048576, and leaves the script as it was: the tied card of the second form; besides the bulk it asks that the package-level variables which the card lists start as the text of the program lays them (the tie is given). -/
import Derived.Test.YtgdfipmdmgkidaaGreatDoorEditsHolds
import Derived.Test.YtgdfipmdmgkidaaGreatDoorCards
import Derived.Test.YtgdfipmdmgkidaaGreatDoorTie
import Derived.SevenTiedAt
namespace Go.Proofs.YtgdfipmdmgkidaaGreatDoor
open Go.ChangeShapes Go.WideShapes Go.ChangeAt Go.RowKit Go.Deep

theorem card_wf : Rows.editsUptoRow.wfByText (Rows.OpenSpec.upto Rows.editsSpec) = true := by kernel_rfl
theorem card_main : Tryz.pinned.checked.prog.mainIs = some (true, "78752d3219e4591588ae902fa8c77d740e791f0eb76b1398dcb5b97d2cc25ce9".toList) := by kernel_rfl
theorem card_looks : true = Tryz.pinned.checked.prog.looks [] := by kernel_rfl
theorem card_stand : ([22].all fun u => !Tryz.prog.wantsStandIn u) = true := by kernel_rfl
theorem card_func : Tryz.prog.funcNamed "stitch/stitchlaw.Edits" = some 3 := by kernel_rfl
theorem card_goes : false = Rows.editsUptoRow.goesBy Tryz.pinned.checked.prog := by kernel_rfl
theorem editsUpto_card : Rows.EditsUptoCardSaid :=
  Claim7.holds_tied_plain_at .later [] [.data, .data, .data, .sentinel, .sentinel] true (true, "78752d3219e4591588ae902fa8c77d740e791f0eb76b1398dcb5b97d2cc25ce9") true
    editsUpto_holds (fun _ h => by cases h) card_wf (fun _ h => by cases h) editsUpto_row_tie rfl ⟨rfl, rfl⟩ card_main rfl
    (fun f fn hf hfn => by
      obtain rfl : f = 3 := Option.some.inj (card_func.symm.trans hf) |>.symm
      obtain rfl : fn = Tryz.f3 := (Option.some.inj (Tryz.func3.symm.trans hfn)).symm
      exact ⟨card_looks, fun j t ht => by
        rw [Tryz.params3] at ht
        have hm : t ∈ [22] := by simpa using Array.mem_of_getElem? ht
        exact (show Tryz.prog.wantsStandIn t = false by simpa using List.all_eq_true.1 card_stand t hm)⟩)
    card_goes
#print axioms editsUpto_card
end Go.Proofs.YtgdfipmdmgkidaaGreatDoor
