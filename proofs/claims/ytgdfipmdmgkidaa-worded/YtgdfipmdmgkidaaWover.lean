/- The contracts of the program's own counting of runes: whether a text has more of them than it may have, and whether a line is too long. -/
import Derived.Test.YtgdfipmdmgkidaaWsize
import Derived.WalkSmall
namespace Go.Proofs.Ytgdfipmdmgkidaa
open Go.RowKit

set_option maxRecDepth 100000 in
set_option maxHeartbeats 800000 in
theorem over_any (s : ByteArray) (most : Nat) (w : World) (hm : most ≤ 1000000) :
    Calls Try.prog 24 #[.string s, .int .i64 most] w fun e w' => e = .returned (.bool (decide (most < rcf s 0))) ∧ ∃ pos, w' = w.iter s pos := by
  go_enter Try.func24, Try.ntmps24
  go_wp2
  go_loopw [5] (fun n w' => ∃ (pos k : Nat), w' = w.iter s pos ∧ n = .int .i64 k ∧ k ≤ most ∧ k + rcf s pos = rcf s 0) (fun _ w' => s.size - w'.iterPos w.heap.size)
  case atStart => exact ⟨0, 0, rfl, rfl, Nat.zero_le _, by omega⟩
  case round =>
    obtain ⟨pos, k, rfl, rfl, hk, hr⟩ := hrel
    have HR : Hid (k + rcf s pos = rcf s 0) := hr
    clear hr
    by_cases hp : pos < s.size
    · have hnx : ∀ ty, (Instr.next (.pointer (some ⟨w.heap.size, 0, none⟩)) true ty).run Try.prog (w.iter s pos) = _ := fun ty => run_next_any w s pos ty hp
      have hwd := width_pos s pos hp
      by_cases hlt : most < k + 1
      · go_wp2
        go_ret
        exact ⟨ret_bool (by have := rcf_next s pos hp; have := HR.out; symm; rw [decide_eq_true_eq]; omega), _, rfl⟩
      · go_wp2
        go_roundw
        case rel => exact ⟨pos + (Utf8.decode s pos).2, k + 1, rfl, by go_num, by omega, by have := rcf_next s pos hp; have := HR.out; omega⟩
        case measure => simp; omega
    · have hnx : ∀ ty, (Instr.next (.pointer (some ⟨w.heap.size, 0, none⟩)) true ty).run Try.prog (w.iter s pos) = _ := fun ty => run_next_end w s pos ty hp
      go_wp2
      go_ret
      exact ⟨ret_bool (by have := rcf_end s pos (by omega); have := HR.out; symm; rw [decide_eq_false_iff_not]; omega), _, rfl⟩

theorem trim_yes (s : ByteArray) (h1 : 1 ≤ (s.size : Int)) (h : ((s.extract (s.size - 1) s.size).toList == [10]) = true) : s.extract 0 (s.size - 1) = trimNL s := by
  rw [last_list s (by omega), decide_eq_true_eq] at h
  unfold trimNL
  rw [if_pos ⟨by omega, h⟩]
theorem trim_no (s : ByteArray) (h1 : 1 ≤ (s.size : Int)) (h : ((s.extract (s.size - 1) s.size).toList == [10]) = false) : s = trimNL s := by
  rw [last_list s (by omega), decide_eq_false_iff_not] at h
  unfold trimNL
  rw [if_neg (by intro hh; exact h hh.2)]
theorem trim_none (s : ByteArray) (h1 : (s.size : Int) < 1) : s = trimNL s := by
  unfold trimNL
  rw [if_neg (by omega)]
theorem ret_string {a b : ByteArray} (h : a = b) : Ending.returned (.string a) = .returned (.string b) := by rw [h]

set_option maxHeartbeats 800000 in
theorem trim_any (s : ByteArray) (w : World) (hs : s.size ≤ maxLen) :
    Calls Try.prog 30 #[.string s, .string ⟨#[10]⟩] w fun e w' => e = .returned (.string (trimNL s)) ∧ w' = w := by
  unfold maxLen at hs
  go_enter Try.func30, Try.ntmps30
  go_wp2
  all_goals go_ret
  · exact ⟨ret_string (trim_yes s ‹_› ‹_›), rfl⟩
  · exact ⟨ret_string (trim_no s ‹_› ‹_›), rfl⟩
  · exact ⟨ret_string (trim_none s ‹_›), rfl⟩

set_option maxHeartbeats 800000 in
theorem isLong_any (s : ByteArray) (w : World) (hs : s.size ≤ maxLen) :
    Calls Try.prog 21 #[.string s] w fun e w' => e = .returned (.bool (decide (12 < lineRunes s))) ∧ Below w.heap.size w w' := by
  go_enter Try.func21, Try.ntmps21
  go_wp2_with (first
    | (go_at_call 30; refine (trim_any _ _ hs).mono ?_; rintro e w' ⟨rfl, rfl⟩)
    | (go_at_call 24; refine (over_any _ 12 _ (by omega)).mono ?_; rintro e w' ⟨rfl, pos, rfl⟩))
  go_ret
  exact ⟨rfl, (Below.refl _ _).alloc (Nat.le_refl _) _⟩
end Go.Proofs.Ytgdfipmdmgkidaa
