/- The script: every step, from a state that is whole. -/
import Derived.Test.YtgdfipmdmgkidaaGreatDoorGturn
namespace Go.Proofs.YtgdfipmdmgkidaaGreatDoor
open Go.RowKit

structure OpOk (kind on r : Int) (s u : ByteArray) : Prop where
  on1 : -9223372036854775808 ≤ on
  on2 : on ≤ 9223372036854775807
  s1 : s.size ≤ 10000000
  kind1 : -9223372036854775808 ≤ kind
  kind2 : kind ≤ 9223372036854775807

theorem play8_any (kind on r : Int) (hk : 1 ≤ kind ∧ kind ≤ 7) (s u : ByteArray) (ho : OpOk kind on r s u) (B bb : Nat) (K : List Ent) (lv kv : Value) (T : List Twin) (w : World) (h : WAt w B bb K lv kv T) (hT : 1 ≤ T.length) (hT2 : T.length + 1 ≤ 10000000) (hK : K.length + 1 ≤ 10000000) :
    Calls Tryz.prog 38 #[.pointer (some ⟨bb, 0, none⟩), opV kind on r s u] w fun e w' => e = .returned (.bool true) ∧ Stepped w B bb K T w' := by
  by_cases h4 : 4 ≤ kind
  · exact play8_world kind on r ⟨h4, hk.2⟩ ⟨ho.on1, ho.on2⟩ s u ho.s1 B bb K lv kv T w h hT hK
  · obtain rfl | rfl | rfl : kind = 1 ∨ kind = 2 ∨ kind = 3 := by omega
    · exact play8_lined on r s u B bb K lv kv T w h hK
    · exact play8_worded on r s u ho.s1 B bb K lv kv T w h hK
    · exact play8_begins on r s u B bb K lv kv T w h hT2
end Go.Proofs.YtgdfipmdmgkidaaGreatDoor
