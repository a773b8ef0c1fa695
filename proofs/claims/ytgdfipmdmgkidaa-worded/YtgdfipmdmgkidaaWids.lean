/- The contracts of the program's and the document's tests of single words: ids, names, repositories. -/
import Derived.Test.YtgdfipmdmgkidaaWover
import Derived.Test.YtgdfipmdmgkidaaWmath
import Derived.Deep.QuietTactic
import Derived.BigQuiet
namespace Go.Proofs.Ytgdfipmdmgkidaa
open Go.RowKit

set_option maxHeartbeats 400000 in
theorem idRune41_any (r : Int) (w : World) : Calls Try.prog 41 #[.int .i32 r] w fun e w' => e = .returned (.bool (hexB r)) ∧ w' = w := by
  go_enter Try.func41, Try.ntmps41
  go_wp2
  all_goals
    go_ret
    refine ⟨ret_bool ?_, rfl⟩
    rw [Bool.eq_iff_iff]
    simp only [hexB, decide_eq_true_eq]
    simp_all
    try omega

set_option maxHeartbeats 400000 in
theorem letter45_any (r : Int) (w : World) : Calls Try.prog 45 #[.int .i32 r] w fun e w' => e = .returned (.bool (letB r)) ∧ w' = w := by
  go_enter Try.func45, Try.ntmps45
  go_wp2
  all_goals
    go_ret
    refine ⟨ret_bool ?_, rfl⟩
    rw [Bool.eq_iff_iff]
    simp only [letB, decide_eq_true_eq]
    simp_all
    try omega

set_option maxRecDepth 100000 in
set_option maxHeartbeats 800000 in
theorem isId33_any (s : ByteArray) (w : World) : Calls Try.prog 33 #[.string s] w fun e w' => e = .returned (.bool (idB s)) ∧ Below w.heap.size w w' := by
  by_cases h4 : s.size = 4
  · have hne : (((s.size : Nat) : Int) != 4) = false := by rw [h4]; rfl
    have H4 : Hid (s.size = 4) := h4
    clear h4
    go_enter Try.func33, Try.ntmps33
    go_wp2
    go_loopw [] (fun w' => ∃ (pos : Nat), w' = w.iter s pos ∧ pos ≤ s.size ∧ hexTo s pos) (fun w' => s.size - w'.iterPos w.heap.size)
    case atStart => exact ⟨0, rfl, Nat.zero_le _, fun i hi => by omega⟩
    case round =>
      obtain ⟨pos, rfl, hle, hx⟩ := hrel
      by_cases hp : pos < s.size
      · have hnx : ∀ ty, (Instr.next (.pointer (some ⟨w.heap.size, 0, none⟩)) true ty).run Try.prog (w.iter s pos) = _ := fun ty => run_next_any w s pos ty hp
        obtain ⟨hr1, hr2⟩ := hex_rune s pos hp
        cases hh : hexB (gb s pos)
        · rw [hh] at hr1
          have HH : Hid (hexB (gb s pos) = false) := hh
          have HR : Hid (hexB (((Utf8.decode s pos).1 : Nat) : Int) = false) := hr1
          clear hh hr1 hr2
          go_wp2_with (go_at_call 41; refine (idRune41_any _ _).mono ?_; rw [HR.out]; rintro e w' ⟨rfl, rfl⟩)
          go_ret
          exact ⟨ret_bool (id_no hp HH.out).symm, (Below.refl _ _).alloc (Nat.le_refl _) _⟩
        · rw [hh] at hr1
          have HH : Hid (hexB (gb s pos) = true) := hh
          have HR : Hid (hexB (((Utf8.decode s pos).1 : Nat) : Int) = true) := hr1
          have HW : Hid ((Utf8.decode s pos).2 = 1) := hr2 hh
          clear hh hr1 hr2
          go_wp2_with (go_at_call 41; refine (idRune41_any _ _).mono ?_; rw [HR.out]; rintro e w' ⟨rfl, rfl⟩)
          go_roundw
          case rel => exact ⟨pos + 1, by rw [HW.out], by omega, hexTo_next hx HH.out⟩
          case measure => rw [HW.out]; simp; omega
      · have hnx : ∀ ty, (Instr.next (.pointer (some ⟨w.heap.size, 0, none⟩)) true ty).run Try.prog (w.iter s pos) = _ := fun ty => run_next_end w s pos ty hp
        go_wp2
        go_ret
        have e : pos = s.size := by omega
        rw [e] at hx
        exact ⟨ret_bool (id_yes H4.out hx).symm, (Below.refl _ _).alloc (Nat.le_refl _) _⟩
  · have hne : (((s.size : Nat) : Int) != 4) = true := by rw [bne_iff_ne]; omega
    have H4 : Hid (s.size ≠ 4) := h4
    clear h4
    go_enter Try.func33, Try.ntmps33
    go_wp2
    go_ret
    exact ⟨ret_bool (id_len H4.out).symm, Below.refl _ _⟩

set_option maxHeartbeats 800000 in
theorem isId36_any (s : ByteArray) (w : World) (hs : s.size ≤ maxLen) : Calls Try.prog 36 #[.string s] w fun e w' => e = .returned (.bool (idB s)) ∧ w' = w := by
  unfold maxLen at hs
  go_enter Try.func36, Try.ntmps36
  go_wp2
  go_loop [3] (fun i => ∃ k : Nat, k ≤ s.size ∧ i = .int .i64 k ∧ hexTo s k) (fun i => s.size - (intOf i).toNat)
  case atStart => exact ⟨0, Nat.zero_le _, rfl, fun i hi => by omega⟩
  case round =>
    obtain ⟨k, hk, rfl, hx⟩ := hrel
    by_cases hlt : k < s.size
    · have hg := gb_eq s k hlt
      by_cases hh : (48 ≤ s[k].toNat ∧ s[k].toNat ≤ 57) ∨ (97 ≤ s[k].toNat ∧ s[k].toNat ≤ 102)
      · have HH : Hid (hexB (gb s k) = true) := by rw [← hg]; show _ = _; unfold hexB; rw [decide_eq_true_eq]; omega
        clear hg
        rcases hh with ⟨hh1, hh2⟩ | ⟨hh1, hh2⟩
        all_goals
          go_wp2
          go_round
          case rel => exact ⟨k + 1, by omega, by go_num, hexTo_next hx HH.out⟩
          case measure => simp [intOf]; omega
      · have HH : Hid (hexB (gb s k) = false) := by rw [← hg]; show _ = _; unfold hexB; rw [decide_eq_false_iff_not]; omega
        clear hg
        have hc : s[k].toNat < 48 ∨ (57 < s[k].toNat ∧ s[k].toNat < 97) ∨ 102 < s[k].toNat := by omega
        clear hh
        rcases hc with hc | ⟨hc, hc2⟩ | hc
        all_goals
          go_wp2
          go_ret
          exact ⟨ret_bool (id_no hlt HH.out).symm, rfl⟩
    · have e : k = s.size := by omega
      have HX : Hid (hexTo s s.size) := by rw [← e]; exact hx
      clear hx
      by_cases h4 : s.size = 4
      · have hne : (((s.size : Nat) : Int) == 4) = true := by rw [h4]; rfl
        have H4 : Hid (s.size = 4) := h4
        clear h4
        go_wp2
        go_ret
        exact ⟨ret_bool (by rw [id_yes H4.out HX.out]), rfl⟩
      · have hne : (((s.size : Nat) : Int) == 4) = false := by rw [beq_eq_false_iff_ne]; omega
        have H4 : Hid (s.size ≠ 4) := h4
        clear h4
        go_wp2
        go_ret
        exact ⟨ret_bool (by rw [id_len H4.out]), rfl⟩
end Go.Proofs.Ytgdfipmdmgkidaa
