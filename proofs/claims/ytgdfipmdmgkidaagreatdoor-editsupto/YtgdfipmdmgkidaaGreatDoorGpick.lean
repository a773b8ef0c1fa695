/- Which twin a step is for. -/
import Derived.Test.YtgdfipmdmgkidaaGreatDoorGplay
namespace Go.Proofs.YtgdfipmdmgkidaaGreatDoor
open Go.RowKit

theorem pick_nat (c : Int) (n : Nat) (hn : 1 ≤ n) : ∃ k : Nat, k < n ∧ c % (n : Int) = (k : Int) := by
  have h1 := Int.emod_nonneg c (b := (n : Int)) (by omega)
  have h2 := Int.emod_lt_of_pos c (b := (n : Int)) (by omega)
  exact ⟨(c % (n : Int)).toNat, by omega, by omega⟩

set_option maxRecDepth 100000 in
set_option maxHeartbeats 1600000 in
theorem pick18_det (c : Int) (n : Nat) (hn : 1 ≤ n) (hn2 : n ≤ 10000000) (h0 : -9223372036854775808 ≤ c) (h1 : c ≤ 9223372036854775807) :
    ∃ k : Nat, k < n ∧ ∀ w, Calls Tryz.prog 59 #[.int .i64 c, .int .i64 n] w fun e w' => e = .returned (.int .i64 k) ∧ w' = w := by
  have hnz : ((n : Nat) : Int) ≠ 0 := by omega
  have hne : (((n : Nat) : Int) == 0) = false := by simp; omega
  by_cases hlt : c < 0
  · obtain ⟨k, hk, e⟩ := pick_nat (-(c + 1)) n hn
    have e2 : -((c + 1).tmod (n : Int)) = (-(c + 1)) % (n : Int) := by rw [← Int.neg_tmod, Int.tmod_eq_emod_of_nonneg (by omega)]
    have E : Hid (-((c + 1).tmod (n : Int)) = (k : Int)) := e2.trans e
    clear e e2
    refine ⟨k, hk, fun w => ?_⟩
    clear hk
    go_enter Tryz.func59, Tryz.ntmps59
    go_wp2
    go_ret
    exact ⟨ret_int E.out, rfl⟩
  · obtain ⟨k, hk, e⟩ := pick_nat c n hn
    have E : Hid (c % (n : Int) = (k : Int)) := e
    clear e
    refine ⟨k, hk, fun w => ?_⟩
    clear hk
    go_enter Tryz.func59, Tryz.ntmps59
    go_wp2
    go_ret
    exact ⟨ret_int E.out, rfl⟩
end Go.Proofs.YtgdfipmdmgkidaaGreatDoor
