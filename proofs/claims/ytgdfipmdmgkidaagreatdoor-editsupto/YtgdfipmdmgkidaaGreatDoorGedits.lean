/- Edits, at every script that lies in memory. -/
import Derived.Test.YtgdfipmdmgkidaaGreatDoorGupto
namespace Go.Proofs.YtgdfipmdmgkidaaGreatDoor
open Go.RowKit

set_option maxRecDepth 100000 in
set_option maxHeartbeats 1600000 in
theorem edits3_any (W : World) (so : Option Addr) (cap : Nat) (L : List Stp) (hL : L.length ≤ 1048576) (hS : Script W so L) (hok : ∀ p ∈ L, OpOk p.kind p.on p.r p.s p.u) :
    Calls Tryz.prog 3 #[.slice so L.length cap] W fun e w' => e = .returned (.bool true) ∧ Below W.heap.size W w' := by
  have HU : Hid (Calls Tryz.prog 13 #[.slice so L.length cap, .int .i64 1] W fun e w' => e = .returned (.bool true) ∧ Below W.heap.size W w') := upTo4_any W so cap L hL hS hok
  clear hL hS hok
  go_enter Tryz.func3, Tryz.ntmps3
  go_wp2_with fail
  refine HU.out.mono ?_
  rintro e w1 ⟨rfl, hb⟩
  go_wp2
  go_ret
  exact ⟨rfl, hb⟩
end Go.Proofs.YtgdfipmdmgkidaaGreatDoor
