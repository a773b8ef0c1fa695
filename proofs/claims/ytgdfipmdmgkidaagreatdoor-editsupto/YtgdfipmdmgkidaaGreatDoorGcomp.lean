/- What the statement's first step writes. -/
import Derived.Test.YtgdfipmdmgkidaaGreatDoorGlate
namespace Go.Proofs.YtgdfipmdmgkidaaGreatDoor
open Go.RowKit
def aName : ByteArray := ⟨#[97]⟩
def aText : ByteArray := ⟨#[120, 10, 121, 10, 122, 10]⟩
theorem aName_ok : nameB aName = true := by decide +kernel
theorem aText_ok : linesOk aText = true := by decide +kernel
theorem aCode : wCode [] aName aText = 0 := by
  unfold wCode
  rw [aName_ok, aText_ok]
  simp
theorem aFile : tText (setF [] aName aText true) aName = aText ∧ tCode (setF [] aName aText true) aName = 0 := by
  have h : fileOf (setF [] aName aText true) aName = some aText := by rw [fileOf_set (by simp [nms]), if_pos rfl]
  unfold tText tCode
  rw [aName_ok, h]
  exact ⟨rfl, rfl⟩
end Go.Proofs.YtgdfipmdmgkidaaGreatDoor
