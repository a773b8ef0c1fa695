/- The contracts of the program's and the document's tests of names and of repositories. -/
import Derived.Test.YtgdfipmdmgkidaaWids
namespace Go.Proofs.Ytgdfipmdmgkidaa
open Go.RowKit

theorem empty_yes (s : ByteArray) (h : s.size = 0) : (s.toList == []) = true := by
  rw [toList_data]
  have : s.data.toList = [] := List.eq_nil_of_length_eq_zero (by rw [Array.length_toList]; exact h)
  rw [this]; rfl
theorem empty_no (s : ByteArray) (h : 1 ≤ s.size) : (s.toList == []) = false := by
  rw [toList_data, beq_eq_false_iff_ne]
  intro e
  have := congrArg List.length e
  rw [Array.length_toList] at this
  have h2 : s.data.size = s.size := rfl
  simp only [List.length_nil] at this
  omega

theorem name_empty {s : ByteArray} (h : s.size = 0) : nameB s = false := by unfold nameB; simp [h]
theorem name_over {s : ByteArray} (h : 8 < rcf s 0) : nameB s = false := by
  unfold nameB
  have : decide (rcf s 0 ≤ 8) = false := by simpa using h
  rw [this]; simp
theorem name_lets {s : ByteArray} (h : lets s 0 = false) : nameB s = false := by unfold nameB; rw [h]; simp
theorem name_yes {s : ByteArray} (h1 : 1 ≤ s.size) (h2 : rcf s 0 ≤ 8) (h3 : lets s 0 = true) : nameB s = true := by
  unfold nameB
  rw [h3]
  simp [h1, h2]

set_option maxRecDepth 100000 in
set_option maxHeartbeats 800000 in
theorem isName42_any (s : ByteArray) (w : World) : Calls Try.prog 42 #[.string s] w fun e w' => e = .returned (.bool (nameB s)) ∧ Below w.heap.size w w' := by
  by_cases h0 : s.size = 0
  · have he := empty_yes s h0
    have HN : Hid (nameB s = false) := name_empty h0
    clear h0
    go_enter Try.func42, Try.ntmps42
    go_wp2
    go_ret
    exact ⟨ret_bool HN.out.symm, Below.refl _ _⟩
  · have he := empty_no s (by omega)
    by_cases h8 : 8 < rcf s 0
    · have HN : Hid (nameB s = false) := name_over h8
      have HO : Hid (decide (8 < rcf s 0) = true) := by show _ = _; simpa using h8
      clear h8 h0
      go_enter Try.func42, Try.ntmps42
      go_wp2_with (go_at_call 24; refine (over_any _ 8 _ (by omega)).mono ?_; rw [HO.out]; rintro e w' ⟨rfl, q, rfl⟩)
      go_ret
      exact ⟨ret_bool HN.out.symm, (Below.refl _ _).alloc (Nat.le_refl _) _⟩
    · have HS : Hid (1 ≤ s.size ∧ rcf s 0 ≤ 8) := ⟨by omega, by omega⟩
      have HO : Hid (decide (8 < rcf s 0) = false) := by show _ = _; simpa using h8
      clear h8 h0
      go_enter Try.func42, Try.ntmps42
      go_wp2_with (go_at_call 24; refine (over_any _ 8 _ (by omega)).mono ?_; rw [HO.out]; rintro e w' ⟨rfl, q, rfl⟩)
      have hw1 : Below w.heap.size w (w.iter s q) := (Below.refl _ _).alloc (Nat.le_refl _) _
      have hs1 : w.heap.size ≤ (w.iter s q).heap.size := hw1.size
      generalize w.iter s q = w1 at *
      go_wp2
      go_loopw [] (fun w' => ∃ (pos : Nat), w' = w1.iter s pos ∧ Hid (lets s 0 = lets s pos)) (fun w' => s.size - w'.iterPos w1.heap.size)
      case atStart => exact ⟨0, rfl, rfl⟩
      case round =>
        obtain ⟨pos, rfl, HL⟩ := hrel
        by_cases hp : pos < s.size
        · have hnx : ∀ ty, (Instr.next (.pointer (some ⟨w1.heap.size, 0, none⟩)) true ty).run Try.prog (w1.iter s pos) = _ := fun ty => run_next_any w1 s pos ty hp
          have hwd := width_pos s pos hp
          cases hh : letB (((Utf8.decode s pos).1 : Nat) : Int)
          · have HH : Hid (letB (((Utf8.decode s pos).1 : Nat) : Int) = false) := hh
            clear hh
            go_wp2_with (go_at_call 45; refine (letter45_any _ _).mono ?_; rw [HH.out]; rintro e w' ⟨rfl, rfl⟩)
            go_ret
            exact ⟨ret_bool (name_lets (by rw [HL.out, lets_next s pos hp, HH.out]; rfl)).symm, hw1.trans ((Below.refl _ _).alloc hs1 _)⟩
          · have HH : Hid (letB (((Utf8.decode s pos).1 : Nat) : Int) = true) := hh
            clear hh
            go_wp2_with (go_at_call 45; refine (letter45_any _ _).mono ?_; rw [HH.out]; rintro e w' ⟨rfl, rfl⟩)
            go_roundw
            case rel => exact ⟨pos + (Utf8.decode s pos).2, rfl, by show _ = _; rw [HL.out, lets_next s pos hp, HH.out]; rfl⟩
            case measure => simp; omega
        · have hnx : ∀ ty, (Instr.next (.pointer (some ⟨w1.heap.size, 0, none⟩)) true ty).run Try.prog (w1.iter s pos) = _ := fun ty => run_next_end w1 s pos ty hp
          go_wp2
          go_ret
          exact ⟨ret_bool (name_yes HS.out.1 HS.out.2 (by rw [HL.out, lets_end s pos (by omega)])).symm, hw1.trans ((Below.refl _ _).alloc hs1 _)⟩

theorem repo_list (s : ByteArray) (c : UInt8) : (s.toList == [c]) = decide (s.size = 1 ∧ gb s 0 = c.toNat) := by
  rw [toList_data, Bool.eq_iff_iff, beq_iff_eq, decide_eq_true_eq]
  constructor
  · intro e
    have hs : s = ⟨#[c]⟩ := by
      cases s with
      | mk d => simp only at e; congr 1; apply Array.ext'; exact e
    subst hs
    exact ⟨rfl, rfl⟩
  · rintro ⟨h1, h2⟩
    have hs : s = ⟨#[c]⟩ := by
      apply ext_gb
      · rw [h1]; rfl
      · intro i hi
        have : i = 0 := by omega
        subst this
        rw [h2]; rfl
    rw [hs]

set_option maxHeartbeats 800000 in
theorem isRepo43_any (s : ByteArray) (w : World) : Calls Try.prog 43 #[.string s] w fun e w' => e = .returned (.bool (repoB s)) ∧ w' = w := by
  have h0 := repo_list s 48
  have h1 := repo_list s 49
  have h2 := repo_list s 50
  have HH : Hid (repoB s = ((s.toList == [48]) || (s.toList == [49]) || (s.toList == [50]))) := by
    show _ = _
    rw [h0, h1, h2, Bool.eq_iff_iff]
    unfold repoB
    simp only [Bool.or_eq_true, decide_eq_true_eq]
    have e0 : (48 : UInt8).toNat = 48 := rfl
    have e1 : (49 : UInt8).toNat = 49 := rfl
    have e2 : (50 : UInt8).toNat = 50 := rfl
    rw [e0, e1, e2]
    omega
  clear h0 h1 h2
  cases c0 : (s.toList == [48]) <;> cases c1 : (s.toList == [49]) <;> cases c2 : (s.toList == [50])
  all_goals
    go_enter Try.func43, Try.ntmps43
    go_wp2
    go_ret
    exact ⟨ret_bool (by rw [HH.out, c0, c1, c2]; rfl), rfl⟩

set_option maxHeartbeats 800000 in
theorem repo38_any (s : ByteArray) (w : World) : Calls Try.prog 38 #[.string s] w fun e w' => ∃ r : Int, e = .returned (.int .i64 r) ∧ (0 ≤ r ↔ repoB s = true) ∧ w' = w := by
  by_cases h1 : s.size = 1
  · have h0 : 0 < s.size := by omega
    have hg := gb_eq s 0 h0
    have he : (((s.size : Nat) : Int) == 1) = true := by rw [h1]; rfl
    have hlt := gb_lt s 0
    rw [← hg] at hlt
    have HH : Hid (repoB s = true ↔ 48 ≤ s[0].toNat ∧ s[0].toNat ≤ 50) := by
      show _ ↔ _
      unfold repoB
      rw [decide_eq_true_eq, ← hg]
      omega
    clear h1 hg
    by_cases hc : 48 ≤ s[0].toNat ∧ s[0].toNat ≤ 50
    · obtain ⟨hc1, hc2⟩ := hc
      go_enter Try.func38, Try.ntmps38
      go_wp2
      go_ret
      exact ⟨_, rfl, by rw [HH.out]; omega, rfl⟩
    · have hc' : s[0].toNat < 48 ∨ 50 < s[0].toNat := by omega
      clear hc
      rcases hc' with hc | hc
      all_goals
        go_enter Try.func38, Try.ntmps38
        go_wp2
        go_ret
        exact ⟨-1, rfl, by rw [HH.out]; omega, rfl⟩
  · have he : (((s.size : Nat) : Int) == 1) = false := by rw [beq_eq_false_iff_ne]; omega
    have HH : Hid (repoB s = false) := by
      show _ = _
      unfold repoB
      rw [decide_eq_false_iff_not]
      omega
    clear h1
    go_enter Try.func38, Try.ntmps38
    go_wp2
    go_ret
    exact ⟨-1, rfl, by rw [HH.out]; simp, rfl⟩
end Go.Proofs.Ytgdfipmdmgkidaa
