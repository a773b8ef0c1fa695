/-
  No cell of these rows narrows 'for every input' (looked for: loops, veiled, ifaces, maps, wideKeys, modest, calm, conditions, laid).
  DERIVED. THE GIVEN ROWS OF THIS SEAT. 8 by the template 'for every input the law returns true; each argument reads behind the call as it read before'; 0 by the template 'total and deterministic' (their statements: YtamadmepbmholaaGreatTotals.lean).
  GIVEN WITH THE SEED: the statements are not yours to turn. If you find one false, say at which input.
  Laid BY PROGRAM, IN A SANDBOX (cutbox-rows.mjs): the forced cells as the released guide's own fill.sh prints them over the translation 91a3e9f610d0e853… (all of the seat's roots in one cut). By AI agents, Wed Nov 11 2026. No macro, syntax, notation, axiom, sorry.
-/
import Derived.Test.YtamadmepbmholaaGreatChecked
import GoSem.Claim
import GoSem.ClaimJoined
import GoSem.ClaimMapViews
import Derived.JoinedTies
import Derived.KernelRfl
namespace Go.Proofs.YtamadmepbmholaaGreat
/- THE CELL 'sum', in the pinned program and in every row, IS THE sha256 OF THE DUMP (.gsa) THAT YtamadmepbmholaaGreatProg.lean LOADS. Nothing in Lean hashes anything: it is a label: what it is worth is what the hold of that sum in a sandbox is worth. -/
noncomputable def Tryz.pinned : Pinned := { name := "ytamadmepbmholaagreat", sum := "91a3e9f610d0e853b8c513ae642ecaab1d440954e63eb0db9567ed69d8428e06", checked := Tryz.checked }
namespace Rows
def none {H : Type} : Left H := { results := [], args := [] }

/-- 'stitchlaw.Edits': WHATEVER THE INPUT: true; the input reads as it did. -/
def editsSpec : ChangeSpec := { name := "edits", fn := fun _ => fun
  | [d] => { results := [.lit (.bool true)], args := [d] }
  | _ => none }
def editsRow : OpenClaim := { program := "ytamadmepbmholaagreat", sum := "91a3e9f610d0e853b8c513ae642ecaab1d440954e63eb0db9567ed69d8428e06", func := "stitch/stitchlaw.Edits", spec := "edits", inPlace := ["internal/abi.NoEscape", "internal/bytealg.MakeNoZero"], unfollowed := true, recurses := true, plainKeys := false, apart := false }
def EditsSaid : Prop := editsRow.holds Tryz.pinned (OpenSpec.ofChange editsSpec)

/-- ITS FALSE NEIGHBOUR: 'it returns false'. Refute it at one input. -/
def editsWrong : ChangeSpec := { name := "edits", fn := fun _ => fun
  | [d] => { results := [.lit (.bool false)], args := [d] }
  | _ => none }
def EditsWrongFalsely : Prop := editsRow.holds Tryz.pinned (OpenSpec.ofChange editsWrong)

/-- 'stitchlaw.Records': WHATEVER THE INPUT: true; the input reads as it did. -/
def recordsSpec : ChangeSpec := { name := "records", fn := fun _ => fun
  | [d] => { results := [.lit (.bool true)], args := [d] }
  | _ => none }
def recordsRow : OpenClaim := { program := "ytamadmepbmholaagreat", sum := "91a3e9f610d0e853b8c513ae642ecaab1d440954e63eb0db9567ed69d8428e06", func := "stitch/stitchlaw.Records", spec := "records", inPlace := ["internal/abi.NoEscape", "internal/bytealg.MakeNoZero"], unfollowed := true, recurses := true, plainKeys := false, apart := false }
def RecordsSaid : Prop := recordsRow.holds Tryz.pinned (OpenSpec.ofChange recordsSpec)

/-- ITS FALSE NEIGHBOUR: 'it returns false'. Refute it at one input. -/
def recordsWrong : ChangeSpec := { name := "records", fn := fun _ => fun
  | [d] => { results := [.lit (.bool false)], args := [d] }
  | _ => none }
def RecordsWrongFalsely : Prop := recordsRow.holds Tryz.pinned (OpenSpec.ofChange recordsWrong)

/-- 'stitchkeep.Told': WHATEVER THE INPUT: true; the input reads as it did. -/
def toldSpec : ChangeSpec := { name := "told", fn := fun _ => fun
  | [d1, d2] => { results := [.lit (.bool true)], args := [d1, d2] }
  | _ => none }
def toldRow : OpenClaim := { program := "ytamadmepbmholaagreat", sum := "91a3e9f610d0e853b8c513ae642ecaab1d440954e63eb0db9567ed69d8428e06", func := "stitch/stitchkeep.Told", spec := "told", inPlace := ["internal/abi.NoEscape", "internal/bytealg.MakeNoZero"], unfollowed := true, recurses := true, plainKeys := false, apart := false }
def ToldSaid : Prop := toldRow.holds Tryz.pinned (OpenSpec.ofChange toldSpec)

/-- ITS FALSE NEIGHBOUR: 'it returns false'. Refute it at one input. -/
def toldWrong : ChangeSpec := { name := "told", fn := fun _ => fun
  | [d1, d2] => { results := [.lit (.bool false)], args := [d1, d2] }
  | _ => none }
def ToldWrongFalsely : Prop := toldRow.holds Tryz.pinned (OpenSpec.ofChange toldWrong)

/-- 'stitchlaw.Moves': WHATEVER THE INPUT: true; the input reads as it did. -/
def movesSpec : ChangeSpec := { name := "moves", fn := fun _ => fun
  | [d] => { results := [.lit (.bool true)], args := [d] }
  | _ => none }
def movesRow : OpenClaim := { program := "ytamadmepbmholaagreat", sum := "91a3e9f610d0e853b8c513ae642ecaab1d440954e63eb0db9567ed69d8428e06", func := "stitch/stitchlaw.Moves", spec := "moves", inPlace := ["internal/abi.NoEscape", "internal/bytealg.MakeNoZero"], unfollowed := true, recurses := true, plainKeys := false, apart := false }
def MovesSaid : Prop := movesRow.holds Tryz.pinned (OpenSpec.ofChange movesSpec)

/-- ITS FALSE NEIGHBOUR: 'it returns false'. Refute it at one input. -/
def movesWrong : ChangeSpec := { name := "moves", fn := fun _ => fun
  | [d] => { results := [.lit (.bool false)], args := [d] }
  | _ => none }
def MovesWrongFalsely : Prop := movesRow.holds Tryz.pinned (OpenSpec.ofChange movesWrong)

/-- 'stitchkeep.Undone': WHATEVER THE INPUT: true; the input reads as it did. -/
def undoneSpec : ChangeSpec := { name := "undone", fn := fun _ => fun
  | [d1, d2] => { results := [.lit (.bool true)], args := [d1, d2] }
  | _ => none }
def undoneRow : OpenClaim := { program := "ytamadmepbmholaagreat", sum := "91a3e9f610d0e853b8c513ae642ecaab1d440954e63eb0db9567ed69d8428e06", func := "stitch/stitchkeep.Undone", spec := "undone", inPlace := ["internal/abi.NoEscape", "internal/bytealg.MakeNoZero"], unfollowed := true, recurses := true, plainKeys := false, apart := false }
def UndoneSaid : Prop := undoneRow.holds Tryz.pinned (OpenSpec.ofChange undoneSpec)

/-- ITS FALSE NEIGHBOUR: 'it returns false'. Refute it at one input. -/
def undoneWrong : ChangeSpec := { name := "undone", fn := fun _ => fun
  | [d1, d2] => { results := [.lit (.bool false)], args := [d1, d2] }
  | _ => none }
def UndoneWrongFalsely : Prop := undoneRow.holds Tryz.pinned (OpenSpec.ofChange undoneWrong)

/-- 'stitchkeep.Swapped': WHATEVER THE INPUT: true; the input reads as it did. -/
def swappedSpec : ChangeSpec := { name := "swapped", fn := fun _ => fun
  | [d1, d2] => { results := [.lit (.bool true)], args := [d1, d2] }
  | _ => none }
def swappedRow : OpenClaim := { program := "ytamadmepbmholaagreat", sum := "91a3e9f610d0e853b8c513ae642ecaab1d440954e63eb0db9567ed69d8428e06", func := "stitch/stitchkeep.Swapped", spec := "swapped", inPlace := ["internal/abi.NoEscape", "internal/bytealg.MakeNoZero"], unfollowed := true, recurses := true, plainKeys := false, apart := false }
def SwappedSaid : Prop := swappedRow.holds Tryz.pinned (OpenSpec.ofChange swappedSpec)

/-- ITS FALSE NEIGHBOUR: 'it returns false'. Refute it at one input. -/
def swappedWrong : ChangeSpec := { name := "swapped", fn := fun _ => fun
  | [d1, d2] => { results := [.lit (.bool false)], args := [d1, d2] }
  | _ => none }
def SwappedWrongFalsely : Prop := swappedRow.holds Tryz.pinned (OpenSpec.ofChange swappedWrong)

/-- 'stitchkeep.Ordered': WHATEVER THE INPUT: true; the input reads as it did. -/
def orderedSpec : ChangeSpec := { name := "ordered", fn := fun _ => fun
  | [d] => { results := [.lit (.bool true)], args := [d] }
  | _ => none }
def orderedRow : OpenClaim := { program := "ytamadmepbmholaagreat", sum := "91a3e9f610d0e853b8c513ae642ecaab1d440954e63eb0db9567ed69d8428e06", func := "stitch/stitchkeep.Ordered", spec := "ordered", inPlace := ["internal/abi.NoEscape", "internal/bytealg.MakeNoZero"], unfollowed := true, recurses := true, plainKeys := false, apart := false }
def OrderedSaid : Prop := orderedRow.holds Tryz.pinned (OpenSpec.ofChange orderedSpec)

/-- ITS FALSE NEIGHBOUR: 'it returns false'. Refute it at one input. -/
def orderedWrong : ChangeSpec := { name := "ordered", fn := fun _ => fun
  | [d] => { results := [.lit (.bool false)], args := [d] }
  | _ => none }
def OrderedWrongFalsely : Prop := orderedRow.holds Tryz.pinned (OpenSpec.ofChange orderedWrong)

/-- 'stitchlaw.All': WHATEVER THE INPUT: true; the input reads as it did. -/
def allSpec : ChangeSpec := { name := "all", fn := fun _ => fun
  | [d] => { results := [.lit (.bool true)], args := [d] }
  | _ => none }
def allRow : OpenClaim := { program := "ytamadmepbmholaagreat", sum := "91a3e9f610d0e853b8c513ae642ecaab1d440954e63eb0db9567ed69d8428e06", func := "stitch/stitchlaw.All", spec := "all", inPlace := ["internal/abi.NoEscape", "internal/bytealg.MakeNoZero"], unfollowed := true, recurses := true, plainKeys := false, apart := false }
def AllSaid : Prop := allRow.holds Tryz.pinned (OpenSpec.ofChange allSpec)

/-- ITS FALSE NEIGHBOUR: 'it returns false'. Refute it at one input. -/
def allWrong : ChangeSpec := { name := "all", fn := fun _ => fun
  | [d] => { results := [.lit (.bool false)], args := [d] }
  | _ => none }
def AllWrongFalsely : Prop := allRow.holds Tryz.pinned (OpenSpec.ofChange allWrong)

/- THE SECOND FORM. 'bulk': how many values and letters a reading holds, each counted each time it is reached (what is shared counts as often as it is met; a slice's spare places count too). A statement '..UptoSaid' is the law's where the arguments, and the package variables that the reading takes, are together of bulk at most 1048576: NARROWER than '..Said'. Prove '..Said' where nothing that the law and all that it calls make is longer than what came in: it says more and counts as full. Else prove '..UptoSaid'. A law counts once. -/
mutual
def uptoBulk {H : Type} : DataW H → Nat
  | .lit (.string bytes) => bytes.length + 1
  | .lit _ => 1
  | .nil => 1
  | .ptr d => uptoBulk d + 1
  | .slice elems spare => uptoBulkAll elems + uptoBulkAll spare + 1
  | .agg parts => uptoBulkAll parts + 1
  | .iface _ d => uptoBulk d + 1
  | .map entries => uptoBulkEntries entries + 1
  | .held _ => 1
def uptoBulkAll {H : Type} : List (DataW H) → Nat
  | [] => 0
  | d :: r => uptoBulk d + uptoBulkAll r
def uptoBulkEntries {H : Type} : List (Lit × DataW H) → Nat
  | [] => 0
  | x :: r => uptoBulkEntry x + uptoBulkEntries r
def uptoBulkEntry {H : Type} : Lit × DataW H → Nat
  | (.string bytes, d) => bytes.length + uptoBulk d + 1
  | (_, d) => uptoBulk d + 1
 end
def uptoSmall : (H : Type) → List (DataW H) → Bool := fun _ ds => decide (uptoBulkAll ds ≤ 1048576)
def OpenSpec.upto (s : _root_.Go.ChangeSpec) : _root_.Go.OpenSpec := { _root_.Go.OpenSpec.ofChange s with cond := some uptoSmall }

/-- 'stitchlaw.Edits', WHERE WHAT IT READS IS OF BULK AT MOST 1048576: true; the input reads as it did. -/
def editsUptoRow : OpenClaim := { program := "ytamadmepbmholaagreat", sum := "91a3e9f610d0e853b8c513ae642ecaab1d440954e63eb0db9567ed69d8428e06", func := "stitch/stitchlaw.Edits", spec := "edits", inPlace := ["internal/abi.NoEscape", "internal/bytealg.MakeNoZero"], unfollowed := true, recurses := true, plainKeys := false, apart := false, narrowed := true }
def EditsUptoSaid : Prop := editsUptoRow.holds Tryz.pinned (OpenSpec.upto editsSpec)

/-- 'stitchlaw.Records', WHERE WHAT IT READS IS OF BULK AT MOST 1048576: true; the input reads as it did. -/
def recordsUptoRow : OpenClaim := { program := "ytamadmepbmholaagreat", sum := "91a3e9f610d0e853b8c513ae642ecaab1d440954e63eb0db9567ed69d8428e06", func := "stitch/stitchlaw.Records", spec := "records", inPlace := ["internal/abi.NoEscape", "internal/bytealg.MakeNoZero"], unfollowed := true, recurses := true, plainKeys := false, apart := false, narrowed := true }
def RecordsUptoSaid : Prop := recordsUptoRow.holds Tryz.pinned (OpenSpec.upto recordsSpec)

/-- 'stitchkeep.Told', WHERE WHAT IT READS IS OF BULK AT MOST 1048576: true; the input reads as it did. -/
def toldUptoRow : OpenClaim := { program := "ytamadmepbmholaagreat", sum := "91a3e9f610d0e853b8c513ae642ecaab1d440954e63eb0db9567ed69d8428e06", func := "stitch/stitchkeep.Told", spec := "told", inPlace := ["internal/abi.NoEscape", "internal/bytealg.MakeNoZero"], unfollowed := true, recurses := true, plainKeys := false, apart := false, narrowed := true }
def ToldUptoSaid : Prop := toldUptoRow.holds Tryz.pinned (OpenSpec.upto toldSpec)

/-- 'stitchlaw.Moves', WHERE WHAT IT READS IS OF BULK AT MOST 1048576: true; the input reads as it did. -/
def movesUptoRow : OpenClaim := { program := "ytamadmepbmholaagreat", sum := "91a3e9f610d0e853b8c513ae642ecaab1d440954e63eb0db9567ed69d8428e06", func := "stitch/stitchlaw.Moves", spec := "moves", inPlace := ["internal/abi.NoEscape", "internal/bytealg.MakeNoZero"], unfollowed := true, recurses := true, plainKeys := false, apart := false, narrowed := true }
def MovesUptoSaid : Prop := movesUptoRow.holds Tryz.pinned (OpenSpec.upto movesSpec)

/-- 'stitchkeep.Undone', WHERE WHAT IT READS IS OF BULK AT MOST 1048576: true; the input reads as it did. -/
def undoneUptoRow : OpenClaim := { program := "ytamadmepbmholaagreat", sum := "91a3e9f610d0e853b8c513ae642ecaab1d440954e63eb0db9567ed69d8428e06", func := "stitch/stitchkeep.Undone", spec := "undone", inPlace := ["internal/abi.NoEscape", "internal/bytealg.MakeNoZero"], unfollowed := true, recurses := true, plainKeys := false, apart := false, narrowed := true }
def UndoneUptoSaid : Prop := undoneUptoRow.holds Tryz.pinned (OpenSpec.upto undoneSpec)

/-- 'stitchkeep.Swapped', WHERE WHAT IT READS IS OF BULK AT MOST 1048576: true; the input reads as it did. -/
def swappedUptoRow : OpenClaim := { program := "ytamadmepbmholaagreat", sum := "91a3e9f610d0e853b8c513ae642ecaab1d440954e63eb0db9567ed69d8428e06", func := "stitch/stitchkeep.Swapped", spec := "swapped", inPlace := ["internal/abi.NoEscape", "internal/bytealg.MakeNoZero"], unfollowed := true, recurses := true, plainKeys := false, apart := false, narrowed := true }
def SwappedUptoSaid : Prop := swappedUptoRow.holds Tryz.pinned (OpenSpec.upto swappedSpec)

/-- 'stitchkeep.Ordered', WHERE WHAT IT READS IS OF BULK AT MOST 1048576: true; the input reads as it did. -/
def orderedUptoRow : OpenClaim := { program := "ytamadmepbmholaagreat", sum := "91a3e9f610d0e853b8c513ae642ecaab1d440954e63eb0db9567ed69d8428e06", func := "stitch/stitchkeep.Ordered", spec := "ordered", inPlace := ["internal/abi.NoEscape", "internal/bytealg.MakeNoZero"], unfollowed := true, recurses := true, plainKeys := false, apart := false, narrowed := true }
def OrderedUptoSaid : Prop := orderedUptoRow.holds Tryz.pinned (OpenSpec.upto orderedSpec)

/-- 'stitchlaw.All', WHERE WHAT IT READS IS OF BULK AT MOST 1048576: true; the input reads as it did. -/
def allUptoRow : OpenClaim := { program := "ytamadmepbmholaagreat", sum := "91a3e9f610d0e853b8c513ae642ecaab1d440954e63eb0db9567ed69d8428e06", func := "stitch/stitchlaw.All", spec := "all", inPlace := ["internal/abi.NoEscape", "internal/bytealg.MakeNoZero"], unfollowed := true, recurses := true, plainKeys := false, apart := false, narrowed := true }
def AllUptoSaid : Prop := allUptoRow.holds Tryz.pinned (OpenSpec.upto allSpec)

end Rows
end Go.Proofs.YtamadmepbmholaaGreat
