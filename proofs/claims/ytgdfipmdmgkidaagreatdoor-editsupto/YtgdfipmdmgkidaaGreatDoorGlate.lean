/- Whether a command is of a later stage: it ends, whatever the text. -/
import Derived.Test.YtgdfipmdmgkidaaGreatDoorGloop
namespace Go.Proofs.YtgdfipmdmgkidaaGreatDoor
open Go.RowKit

set_option maxRecDepth 100000 in
set_option maxHeartbeats 1600000 in
theorem word14_any (s : ByteArray) (hs : s.size ≤ 10000000) (w : World) :
    Calls Tryz.prog 55 #[.string s] w fun e w' => ∃ t, e = .returned (.string t) ∧ w' = w := by
  go_enter Tryz.func55, Tryz.ntmps55
  go_wp2
  go_loop [3] (fun i => ∃ k : Nat, k ≤ s.size ∧ i = .int .i64 k) (fun i => s.size - (intOf i).toNat)
  case atStart => exact ⟨0, Nat.zero_le _, rfl⟩
  case round =>
    obtain ⟨k, hk, rfl⟩ := hrel
    by_cases hlt : k < s.size
    · cases hb : ((s[k].toNat : Int) == 32)
      · go_wp2
        go_loop [4] (fun i => ∃ m : Nat, k ≤ m ∧ m ≤ s.size ∧ i = .int .i64 m) (fun i => s.size - (intOf i).toNat)
        case atStart => exact ⟨k, Nat.le_refl _, hk, rfl⟩
        case round =>
          obtain ⟨m, hkm, hm, rfl⟩ := hrel
          by_cases hlt2 : m < s.size
          · cases hb2 : ((s[m].toNat : Int) != 32)
            · go_wp2
              go_ret
              exact ⟨⟨s.extract k m, rfl⟩, rfl⟩
            · go_wp2
              go_round
              case rel => exact ⟨m + 1, by omega, by omega, by go_num⟩
              case measure => simp [intOf]; omega
          · go_wp2
            go_ret
            exact ⟨⟨s.extract k m, rfl⟩, rfl⟩
      · go_wp2
        go_round
        case rel => exact ⟨k + 1, by omega, by go_num⟩
        case measure => simp [intOf]; omega
    · go_wp2
      go_loop [4] (fun i => ∃ m : Nat, k ≤ m ∧ m ≤ s.size ∧ i = .int .i64 m) (fun i => s.size - (intOf i).toNat)
      case atStart => exact ⟨k, Nat.le_refl _, hk, rfl⟩
      case round =>
        obtain ⟨m, hkm, hm, rfl⟩ := hrel
        by_cases hlt2 : m < s.size
        · cases hb2 : ((s[m].toNat : Int) != 32)
          · go_wp2
            go_ret
            exact ⟨⟨s.extract k m, rfl⟩, rfl⟩
          · go_wp2
            go_round
            case rel => exact ⟨m + 1, by omega, by omega, by go_num⟩
            case measure => simp [intOf]; omega
        · go_wp2
          go_ret
          exact ⟨⟨s.extract k m, rfl⟩, rfl⟩

set_option maxRecDepth 100000 in
set_option maxHeartbeats 1600000 in
theorem late7_any (s : ByteArray) (hs : s.size ≤ 10000000) (w : World) :
    Calls Tryz.prog 37 #[.string s, .int .i64 1] w fun e w' => ∃ b, e = .returned (.bool b) ∧ w' = w := by
  go_enter Tryz.func37, Tryz.ntmps37
  go_wp2_with (go_at_call 55; refine (word14_any s hs _).mono ?_; rintro e w' ⟨t, rfl, rfl⟩)
  all_goals go_ret
  all_goals exact ⟨_, rfl, rfl⟩
end Go.Proofs.YtgdfipmdmgkidaaGreatDoor
