/- Records answers true at every script whose values and letters are together at most 1048576, and leaves the script as it was: the tied card of the second form; besides the bulk it asks that the package-level variables which the card lists start as the text of the program lays them (the tie is given). -/
import Derived.Test.YtgdfipmdmgkidaaGreatDoorRecordsHolds
import Derived.Test.YtgdfipmdmgkidaaGreatDoorCards
import Derived.Test.YtgdfipmdmgkidaaGreatDoorTie
import Derived.SevenTiedAt
import Derived.Test.YtgdfipmdmgkidaaGreatDoorAl
set_option linter.all false
namespace Go.Proofs.YtgdfipmdmgkidaaGreatDoor
open Go.ChangeShapes Go.WideShapes Go.ChangeAt Go.RowKit Go.Deep
theorem aY9:Rows.recordsUptoRow.wfByText (Rows.OpenSpec.upto Rows.recordsSpec)=true:=by kernel_rfl
theorem aTw : Tryz.pinned.checked.prog.mainIs = some (true, "78752d3219e4591588ae902fa8c77d740e791f0eb76b1398dcb5b97d2cc25ce9".toList) := by kernel_rfl
theorem aQl:true=Tryz.pinned.checked.prog.looks []:=by kernel_rfl
theorem aQm:([22].all λu=>!Tryz.prog.wantsStandIn u)=true:=by kernel_rfl
theorem aTu : Tryz.prog.funcNamed "stitch/stitchlaw.Records" = some 4 := by kernel_rfl
theorem aTv:false=Rows.recordsUptoRow.goesBy Tryz.pinned.checked.prog:=by kernel_rfl
theorem recordsUpto_card:Rows.RecordsUptoCardSaid:=
 Claim7.holds_tied_plain_at .later [] [.data, .data, .data, .sentinel, .sentinel] true (true, "78752d3219e4591588ae902fa8c77d740e791f0eb76b1398dcb5b97d2cc25ce9") true
  aBb (λ_ h=>by cases h) aY9 (λ_ h=>by cases h) recordsUpto_row_tie rfl ⟨rfl,rfl⟩ aTw rfl
  (λf fn hf hfn=>by
   obtain rfl:f=4:=fZ (aTu.symm.trans hf) |>.symm;obtain rfl:fn=Tryz.f4:=(fZ (Tryz.func4.symm.trans hfn)).symm
   exact⟨aQl,λj t ht=>by
    rw[Tryz.params4] at ht;have hm:t∈[22]:=by simpa using Array.mem_of_getElem? ht
    exact(show Tryz.prog.wantsStandIn t=false by simpa using aD2.1 aQm t hm)⟩)
  aTv
#print axioms recordsUpto_card
end Go.Proofs.YtgdfipmdmgkidaaGreatDoor
