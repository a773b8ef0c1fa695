/- The contracts of the runes' functions of the statement's own document: how many bytes a rune has, and how many runes a text has. -/
import Derived.Test.YtgdfipmdmgkidaaRows
import Derived.Test.YtgdfipmdmgkidaaTexts
import Derived.WalkKit
import Derived.WalkSpells
import Derived.WalkLawsBesides
namespace Go.Proofs.Ytgdfipmdmgkidaa
open Go.RowKit

theorem ret_bool {a b : Bool} (h : a = b) : Ending.returned (.bool a) = .returned (.bool b) := by rw [h]
theorem ret_int {k : IntKind} {a b : Int} (h : a = b) : Ending.returned (.int k a) = .returned (.int k b) := by rw [h]

set_option maxHeartbeats 400000 in
theorem follows_any (c k b : Int) (w : World) :
    Calls Try.prog 40 #[.int .u8 c, .int .i64 k, .int .u8 b] w fun e w' => e = .returned (.bool (folB c k b)) ∧ w' = w := by
  go_enter Try.func40, Try.ntmps40
  go_wp2
  all_goals
    go_ret
    refine ⟨ret_bool ?_, rfl⟩
    rw [Bool.eq_iff_iff]
    simp only [folB, decide_eq_true_eq]
    simp_all
    try omega

theorem okTo_one (s : ByteArray) (a : Nat) : okTo s a 1 := fun i h1 h2 => by omega
theorem okTo_next {s : ByteArray} {a j : Nat} (h : okTo s a j) (hin : a + j < s.size) (hf : folB (gb s a) j (gb s (a + j)) = true) : okTo s a (j + 1) := by
  intro i h1 h2
  by_cases e : i = j
  · subst e; exact ⟨hin, hf⟩
  · exact h i h1 (by omega)
theorem okTo_le {s : ByteArray} {a j : Nat} (h : okTo s a j) (ha : a < s.size) (hj : 1 ≤ j) : a + j ≤ s.size := by
  by_cases e : j = 1
  · omega
  · have := (h (j - 1) (by omega) (by omega)).1
    omega

set_option maxHeartbeats 800000 in
theorem size_1 (s : ByteArray) (a : Nat) (w : World) (h : a < s.size) (_hs : s.size ≤ maxLen) (h1 : s[a].toNat < 194 ∨ 244 < s[a].toNat) :
    Calls Try.prog 31 #[.string s, .int .i64 a] w fun e w' => e = .returned (.int .i64 (Utf8.decode s a).2) ∧ w' = w := by
  have HC : Hid (cls 1 (gb s a)) := by rw [gb_eq s a h] at h1; unfold cls; show _ ∨ _; omega
  rcases h1 with h1 | h1
  all_goals
    go_enter Try.func31, Try.ntmps31
    go_wp2
    refine wp_loop_rounds 1 ?_
    rw [rounds_succ]
    go_wp2
    go_ret
    exact ⟨ret_int (by rw [dec_ok s a 1 h HC.out (okTo_one s a)]; rfl), rfl⟩

set_option maxHeartbeats 800000 in
theorem size_2 (s : ByteArray) (a : Nat) (w : World) (h : a < s.size) (hs : s.size ≤ maxLen) (h1 : 194 ≤ s[a].toNat) (h2 : s[a].toNat ≤ 223) :
    Calls Try.prog 31 #[.string s, .int .i64 a] w fun e w' => e = .returned (.int .i64 (Utf8.decode s a).2) ∧ w' = w := by
  have HC : Hid (cls 2 (gb s a)) := by rw [gb_eq s a h] at h1 h2; unfold cls; show _ ∨ _; omega
  unfold maxLen at hs
  have g1 : decide ((s[a].toNat : Int) ≤ 223) = true := by simp; omega
  have g2 : decide ((194 : Int) ≤ (s[a].toNat : Int)) = true := by simp; omega
  go_enter Try.func31, Try.ntmps31
  go_wp2
  go_loop [7] (fun k => ∃ j : Nat, 1 ≤ j ∧ j ≤ 2 ∧ k = .int .i64 j ∧ okTo s a j) (fun k => (2 - intOf k).toNat)
  case atStart => exact ⟨1, by omega, by omega, rfl, okTo_one s a⟩
  case round =>
    obtain ⟨j, hj1, hj2, rfl, hok⟩ := hrel
    by_cases hlt : j < 2
    · by_cases hin : a + j < s.size
      · cases hf : folB s[a].toNat j s[a + j].toNat
        · go_wp2_with (go_at_call 40; refine (follows_any _ _ _ _).mono ?_; rintro e w' ⟨rfl, rfl⟩)
          go_ret
          rw [gb_eq s a h, gb_eq s (a + j) hin] at hf
          exact ⟨ret_int (by rw [dec_no s a 2 j h HC.out hj1 hlt (by rw [hf]; simp)]; rfl), rfl⟩
        · go_wp2_with (go_at_call 40; refine (follows_any _ _ _ _).mono ?_; rintro e w' ⟨rfl, rfl⟩)
          go_round
          case rel =>
            rw [gb_eq s a h, gb_eq s (a + j) hin] at hf
            exact ⟨j + 1, by omega, by omega, by go_num, okTo_next hok hin hf⟩
          case measure => simp [intOf]; omega
      · have hle := okTo_le hok h hj1
        go_wp2_with fail
        go_ret
        exact ⟨ret_int (by rw [dec_no s a 2 j h HC.out hj1 hlt (by omega)]; rfl), rfl⟩
    · go_wp2_with fail
      go_ret
      have e : j = 2 := by omega
      subst e
      exact ⟨ret_int (by rw [dec_ok s a _ h HC.out hok]; rfl), rfl⟩

set_option maxHeartbeats 800000 in
theorem size_3 (s : ByteArray) (a : Nat) (w : World) (h : a < s.size) (hs : s.size ≤ maxLen) (h1 : 224 ≤ s[a].toNat) (h2 : s[a].toNat ≤ 239) :
    Calls Try.prog 31 #[.string s, .int .i64 a] w fun e w' => e = .returned (.int .i64 (Utf8.decode s a).2) ∧ w' = w := by
  have HC : Hid (cls 3 (gb s a)) := by rw [gb_eq s a h] at h1 h2; unfold cls; show _ ∨ _; omega
  unfold maxLen at hs
  have g1 : decide ((s[a].toNat : Int) ≤ 223) = false := by simp; omega
  have g2 : decide ((194 : Int) ≤ (s[a].toNat : Int)) = true := by simp; omega
  have g3 : decide ((s[a].toNat : Int) ≤ 239) = true := by simp; omega
  have g4 : decide ((224 : Int) ≤ (s[a].toNat : Int)) = true := by simp; omega
  go_enter Try.func31, Try.ntmps31
  go_wp2
  go_loop [7] (fun k => ∃ j : Nat, 1 ≤ j ∧ j ≤ 3 ∧ k = .int .i64 j ∧ okTo s a j) (fun k => (3 - intOf k).toNat)
  case atStart => exact ⟨1, by omega, by omega, rfl, okTo_one s a⟩
  case round =>
    obtain ⟨j, hj1, hj2, rfl, hok⟩ := hrel
    by_cases hlt : j < 3
    · by_cases hin : a + j < s.size
      · cases hf : folB s[a].toNat j s[a + j].toNat
        · go_wp2_with (go_at_call 40; refine (follows_any _ _ _ _).mono ?_; rintro e w' ⟨rfl, rfl⟩)
          go_ret
          rw [gb_eq s a h, gb_eq s (a + j) hin] at hf
          exact ⟨ret_int (by rw [dec_no s a 3 j h HC.out hj1 hlt (by rw [hf]; simp)]; rfl), rfl⟩
        · go_wp2_with (go_at_call 40; refine (follows_any _ _ _ _).mono ?_; rintro e w' ⟨rfl, rfl⟩)
          go_round
          case rel =>
            rw [gb_eq s a h, gb_eq s (a + j) hin] at hf
            exact ⟨j + 1, by omega, by omega, by go_num, okTo_next hok hin hf⟩
          case measure => simp [intOf]; omega
      · have hle := okTo_le hok h hj1
        go_wp2_with fail
        go_ret
        exact ⟨ret_int (by rw [dec_no s a 3 j h HC.out hj1 hlt (by omega)]; rfl), rfl⟩
    · go_wp2_with fail
      go_ret
      have e : j = 3 := by omega
      subst e
      exact ⟨ret_int (by rw [dec_ok s a _ h HC.out hok]; rfl), rfl⟩

set_option maxHeartbeats 800000 in
theorem size_4 (s : ByteArray) (a : Nat) (w : World) (h : a < s.size) (hs : s.size ≤ maxLen) (h1 : 240 ≤ s[a].toNat) (h2 : s[a].toNat ≤ 244) :
    Calls Try.prog 31 #[.string s, .int .i64 a] w fun e w' => e = .returned (.int .i64 (Utf8.decode s a).2) ∧ w' = w := by
  have HC : Hid (cls 4 (gb s a)) := by rw [gb_eq s a h] at h1 h2; unfold cls; show _ ∨ _; omega
  unfold maxLen at hs
  have g1 : decide ((s[a].toNat : Int) ≤ 223) = false := by simp; omega
  have g2 : decide ((194 : Int) ≤ (s[a].toNat : Int)) = true := by simp; omega
  have g3 : decide ((s[a].toNat : Int) ≤ 239) = false := by simp; omega
  have g4 : decide ((224 : Int) ≤ (s[a].toNat : Int)) = true := by simp; omega
  have g5 : decide ((s[a].toNat : Int) ≤ 244) = true := by simp; omega
  have g6 : decide ((240 : Int) ≤ (s[a].toNat : Int)) = true := by simp; omega
  go_enter Try.func31, Try.ntmps31
  go_wp2
  go_loop [7] (fun k => ∃ j : Nat, 1 ≤ j ∧ j ≤ 4 ∧ k = .int .i64 j ∧ okTo s a j) (fun k => (4 - intOf k).toNat)
  case atStart => exact ⟨1, by omega, by omega, rfl, okTo_one s a⟩
  case round =>
    obtain ⟨j, hj1, hj2, rfl, hok⟩ := hrel
    by_cases hlt : j < 4
    · by_cases hin : a + j < s.size
      · cases hf : folB s[a].toNat j s[a + j].toNat
        · go_wp2_with (go_at_call 40; refine (follows_any _ _ _ _).mono ?_; rintro e w' ⟨rfl, rfl⟩)
          go_ret
          rw [gb_eq s a h, gb_eq s (a + j) hin] at hf
          exact ⟨ret_int (by rw [dec_no s a 4 j h HC.out hj1 hlt (by rw [hf]; simp)]; rfl), rfl⟩
        · go_wp2_with (go_at_call 40; refine (follows_any _ _ _ _).mono ?_; rintro e w' ⟨rfl, rfl⟩)
          go_round
          case rel =>
            rw [gb_eq s a h, gb_eq s (a + j) hin] at hf
            exact ⟨j + 1, by omega, by omega, by go_num, okTo_next hok hin hf⟩
          case measure => simp [intOf]; omega
      · have hle := okTo_le hok h hj1
        go_wp2_with fail
        go_ret
        exact ⟨ret_int (by rw [dec_no s a 4 j h HC.out hj1 hlt (by omega)]; rfl), rfl⟩
    · go_wp2_with fail
      go_ret
      have e : j = 4 := by omega
      subst e
      exact ⟨ret_int (by rw [dec_ok s a _ h HC.out hok]; rfl), rfl⟩

theorem size_any (s : ByteArray) (a : Nat) (w : World) (h : a < s.size) (hs : s.size ≤ maxLen) :
    Calls Try.prog 31 #[.string s, .int .i64 a] w fun e w' => e = .returned (.int .i64 (Utf8.decode s a).2) ∧ w' = w := by
  by_cases c1 : s[a].toNat < 194 ∨ 244 < s[a].toNat
  · exact size_1 s a w h hs c1
  by_cases c2 : s[a].toNat ≤ 223
  · exact size_2 s a w h hs (by omega) c2
  by_cases c3 : s[a].toNat ≤ 239
  · exact size_3 s a w h hs (by omega) c3
  · exact size_4 s a w h hs (by omega) (by omega)

set_option maxHeartbeats 400000 in
theorem runes_any (s : ByteArray) (w : World) (hs : s.size ≤ maxLen) :
    Calls Try.prog 23 #[.string s] w fun e w' => e = .returned (.int .i64 (rcf s 0)) ∧ w' = w := by
  have hs' := hs
  unfold maxLen at hs'
  go_enter Try.func23, Try.ntmps23
  go_wp2
  go_loop [3, 4] (fun n i => ∃ k p : Nat, p ≤ s.size ∧ k ≤ p ∧ i = .int .i64 p ∧ n = .int .i64 k ∧ k + rcf s p = rcf s 0) (fun _ i => s.size - (intOf i).toNat)
  case atStart => exact ⟨0, 0, Nat.zero_le _, Nat.zero_le _, rfl, rfl, by omega⟩
  case round =>
    obtain ⟨k, p, hp, hkp, rfl, rfl, hr⟩ := hrel
    have HR : Hid (k + rcf s p = rcf s 0) := hr
    clear hr
    by_cases hlt : p < s.size
    · have hw := width_pos s p hlt
      have hd := dec_in s p hlt
      go_wp2_with (go_at_call 31; refine (size_any _ _ _ hlt hs).mono ?_; rintro e w' ⟨rfl, rfl⟩)
      go_round
      case rel => exact ⟨k + 1, p + (Utf8.decode s p).2, hd, by omega, by go_num, by go_num, by have := rcf_next s p hlt; have := HR.out; omega⟩
      case measure => simp [intOf]; omega
    · go_wp2
      go_ret
      exact ⟨ret_int (by have := rcf_end s p (by omega); have := HR.out; omega), rfl⟩
end Go.Proofs.Ytgdfipmdmgkidaa
