/- The contracts of the program's and the document's tests of single words: ids, names, repositories. -/
import Derived.Test.YtgdfipmdmgkidaaGreatDoorWsize
import Derived.Test.YtgdfipmdmgkidaaGreatDoorWmath
import Derived.Deep.QuietTactic
import Derived.BigQuiet
namespace Go.Proofs.YtgdfipmdmgkidaaGreatDoor
open Go.RowKit

set_option maxHeartbeats 400000 in
theorem idRune41_any (r : Int) (w : World) : Calls Tryz.prog 173 #[.int .i32 r] w fun e w' => e = .returned (.bool (hexB r)) ∧ w' = w := by
  go_enter Tryz.func173, Tryz.ntmps173
  go_wp2
  all_goals
    go_ret
    refine ⟨ret_bool ?_, rfl⟩
    rw [Bool.eq_iff_iff]
    simp only [hexB, decide_eq_true_eq]
    simp_all
    try omega

set_option maxHeartbeats 400000 in
theorem letter45_any (r : Int) (w : World) : Calls Tryz.prog 102 #[.int .i32 r] w fun e w' => e = .returned (.bool (letB r)) ∧ w' = w := by
  go_enter Tryz.func102, Tryz.ntmps102
  go_wp2
  all_goals
    go_ret
    refine ⟨ret_bool ?_, rfl⟩
    rw [Bool.eq_iff_iff]
    simp only [letB, decide_eq_true_eq]
    simp_all
    try omega

set_option maxRecDepth 100000 in
set_option maxHeartbeats 800000 in
theorem isId33_any (s : ByteArray) (w : World) : Calls Tryz.prog 107 #[.string s] w fun e w' => e = .returned (.bool (idB s)) ∧ Below w.heap.size w w' := by
  by_cases h4 : s.size = 4
  · have hne : (((s.size : Nat) : Int) != 4) = false := by rw [h4]; rfl
    have H4 : Hid (s.size = 4) := h4
    clear h4
    go_enter Tryz.func107, Tryz.ntmps107
    go_wp2
    go_loopw [] (fun w' => ∃ (pos : Nat), w' = w.iter s pos ∧ pos ≤ s.size ∧ hexTo s pos) (fun w' => s.size - w'.iterPos w.heap.size)
    case atStart => exact ⟨0, rfl, Nat.zero_le _, fun i hi => by omega⟩
    case round =>
      obtain ⟨pos, rfl, hle, hx⟩ := hrel
      by_cases hp : pos < s.size
      · have hnx : ∀ ty, (Instr.next (.pointer (some ⟨w.heap.size, 0, none⟩)) true ty).run Tryz.prog (w.iter s pos) = _ := fun ty => run_next_any w s pos ty hp
        obtain ⟨hr1, hr2⟩ := hex_rune s pos hp
        cases hh : hexB (gb s pos)
        · rw [hh] at hr1
          have HH : Hid (hexB (gb s pos) = false) := hh
          have HR : Hid (hexB (((Utf8.decode s pos).1 : Nat) : Int) = false) := hr1
          clear hh hr1 hr2
          go_wp2_with (go_at_call 173; refine (idRune41_any _ _).mono ?_; rw [HR.out]; rintro e w' ⟨rfl, rfl⟩)
          go_ret
          exact ⟨ret_bool (id_no hp HH.out).symm, (Below.refl _ _).alloc (Nat.le_refl _) _⟩
        · rw [hh] at hr1
          have HH : Hid (hexB (gb s pos) = true) := hh
          have HR : Hid (hexB (((Utf8.decode s pos).1 : Nat) : Int) = true) := hr1
          have HW : Hid ((Utf8.decode s pos).2 = 1) := hr2 hh
          clear hh hr1 hr2
          go_wp2_with (go_at_call 173; refine (idRune41_any _ _).mono ?_; rw [HR.out]; rintro e w' ⟨rfl, rfl⟩)
          go_roundw
          case rel => exact ⟨pos + 1, by rw [HW.out], by omega, hexTo_next hx HH.out⟩
          case measure => rw [HW.out]; simp; omega
      · have hnx : ∀ ty, (Instr.next (.pointer (some ⟨w.heap.size, 0, none⟩)) true ty).run Tryz.prog (w.iter s pos) = _ := fun ty => run_next_end w s pos ty hp
        go_wp2
        go_ret
        have e : pos = s.size := by omega
        rw [e] at hx
        exact ⟨ret_bool (id_yes H4.out hx).symm, (Below.refl _ _).alloc (Nat.le_refl _) _⟩
  · have hne : (((s.size : Nat) : Int) != 4) = true := by rw [bne_iff_ne]; omega
    have H4 : Hid (s.size ≠ 4) := h4
    clear h4
    go_enter Tryz.func107, Tryz.ntmps107
    go_wp2
    go_ret
    exact ⟨ret_bool (id_len H4.out).symm, Below.refl _ _⟩

set_option maxHeartbeats 800000 in
theorem isId36_any (s : ByteArray) (w : World) (hs : s.size ≤ maxLen) : Calls Tryz.prog 202 #[.string s] w fun e w' => e = .returned (.bool (idB s)) ∧ w' = w := by
  unfold maxLen at hs
  go_enter Tryz.func202, Tryz.ntmps202
  go_wp2
  go_loop [3] (fun i => ∃ k : Nat, k ≤ s.size ∧ i = .int .i64 k ∧ hexTo s k) (fun i => s.size - (intOf i).toNat)
  case atStart => exact ⟨0, Nat.zero_le _, rfl, fun i hi => by omega⟩
  case round =>
    obtain ⟨k, hk, rfl, hx⟩ := hrel
    by_cases hlt : k < s.size
    · have hg := gb_eq s k hlt
      by_cases hh : (48 ≤ s[k].toNat ∧ s[k].toNat ≤ 57) ∨ (97 ≤ s[k].toNat ∧ s[k].toNat ≤ 102)
      · have HH : Hid (hexB (gb s k) = true) := by rw [← hg]; show _ = _; unfold hexB; rw [decide_eq_true_eq]; omega
        clear hg
        rcases hh with ⟨hh1, hh2⟩ | ⟨hh1, hh2⟩
        all_goals
          go_wp2
          go_round
          case rel => exact ⟨k + 1, by omega, by go_num, hexTo_next hx HH.out⟩
          case measure => simp [intOf]; omega
      · have HH : Hid (hexB (gb s k) = false) := by rw [← hg]; show _ = _; unfold hexB; rw [decide_eq_false_iff_not]; omega
        clear hg
        have hc : s[k].toNat < 48 ∨ (57 < s[k].toNat ∧ s[k].toNat < 97) ∨ 102 < s[k].toNat := by omega
        clear hh
        rcases hc with hc | ⟨hc, hc2⟩ | hc
        all_goals
          go_wp2
          go_ret
          exact ⟨ret_bool (id_no hlt HH.out).symm, rfl⟩
    · have e : k = s.size := by omega
      have HX : Hid (hexTo s s.size) := by rw [← e]; exact hx
      clear hx
      by_cases h4 : s.size = 4
      · have hne : (((s.size : Nat) : Int) == 4) = true := by rw [h4]; rfl
        have H4 : Hid (s.size = 4) := h4
        clear h4
        go_wp2
        go_ret
        exact ⟨ret_bool (by rw [id_yes H4.out HX.out]), rfl⟩
      · have hne : (((s.size : Nat) : Int) == 4) = false := by rw [beq_eq_false_iff_ne]; omega
        have H4 : Hid (s.size ≠ 4) := h4
        clear h4
        go_wp2
        go_ret
        exact ⟨ret_bool (by rw [id_len H4.out]), rfl⟩
end Go.Proofs.YtgdfipmdmgkidaaGreatDoor

/- The contracts of the program's and the document's tests of names and of repositories. -/
namespace Go.Proofs.YtgdfipmdmgkidaaGreatDoor
open Go.RowKit

theorem empty_yes (s : ByteArray) (h : s.size = 0) : (s.toList == []) = true := by
  rw [toList_data]
  have : s.data.toList = [] := List.eq_nil_of_length_eq_zero (by rw [Array.length_toList]; exact h)
  rw [this]; rfl
theorem empty_no (s : ByteArray) (h : 1 ≤ s.size) : (s.toList == []) = false := by
  rw [toList_data, beq_eq_false_iff_ne]
  intro e
  have := congrArg List.length e
  rw [Array.length_toList] at this
  have h2 : s.data.size = s.size := rfl
  simp only [List.length_nil] at this
  omega

theorem name_empty {s : ByteArray} (h : s.size = 0) : nameB s = false := by unfold nameB; simp [h]
theorem name_over {s : ByteArray} (h : 8 < rcf s 0) : nameB s = false := by
  unfold nameB
  have : decide (rcf s 0 ≤ 8) = false := by simpa using h
  rw [this]; simp
theorem name_lets {s : ByteArray} (h : lets s 0 = false) : nameB s = false := by unfold nameB; rw [h]; simp
theorem name_yes {s : ByteArray} (h1 : 1 ≤ s.size) (h2 : rcf s 0 ≤ 8) (h3 : lets s 0 = true) : nameB s = true := by
  unfold nameB
  rw [h3]
  simp [h1, h2]

set_option maxRecDepth 100000 in
set_option maxHeartbeats 800000 in
theorem isName42_any (s : ByteArray) (w : World) : Calls Tryz.prog 61 #[.string s] w fun e w' => e = .returned (.bool (nameB s)) ∧ Below w.heap.size w w' := by
  by_cases h0 : s.size = 0
  · have he := empty_yes s h0
    have HN : Hid (nameB s = false) := name_empty h0
    clear h0
    go_enter Tryz.func61, Tryz.ntmps61
    go_wp2
    go_ret
    exact ⟨ret_bool HN.out.symm, Below.refl _ _⟩
  · have he := empty_no s (by omega)
    by_cases h8 : 8 < rcf s 0
    · have HN : Hid (nameB s = false) := name_over h8
      have HO : Hid (decide (8 < rcf s 0) = true) := by show _ = _; simpa using h8
      clear h8 h0
      go_enter Tryz.func61, Tryz.ntmps61
      go_wp2_with (go_at_call 63; refine (over_any _ 8 _ (by omega)).mono ?_; rw [HO.out]; rintro e w' ⟨rfl, q, rfl⟩)
      go_ret
      exact ⟨ret_bool HN.out.symm, (Below.refl _ _).alloc (Nat.le_refl _) _⟩
    · have HS : Hid (1 ≤ s.size ∧ rcf s 0 ≤ 8) := ⟨by omega, by omega⟩
      have HO : Hid (decide (8 < rcf s 0) = false) := by show _ = _; simpa using h8
      clear h8 h0
      go_enter Tryz.func61, Tryz.ntmps61
      go_wp2_with (go_at_call 63; refine (over_any _ 8 _ (by omega)).mono ?_; rw [HO.out]; rintro e w' ⟨rfl, q, rfl⟩)
      have hw1 : Below w.heap.size w (w.iter s q) := (Below.refl _ _).alloc (Nat.le_refl _) _
      have hs1 : w.heap.size ≤ (w.iter s q).heap.size := hw1.size
      generalize w.iter s q = w1 at *
      go_wp2
      go_loopw [] (fun w' => ∃ (pos : Nat), w' = w1.iter s pos ∧ Hid (lets s 0 = lets s pos)) (fun w' => s.size - w'.iterPos w1.heap.size)
      case atStart => exact ⟨0, rfl, rfl⟩
      case round =>
        obtain ⟨pos, rfl, HL⟩ := hrel
        by_cases hp : pos < s.size
        · have hnx : ∀ ty, (Instr.next (.pointer (some ⟨w1.heap.size, 0, none⟩)) true ty).run Tryz.prog (w1.iter s pos) = _ := fun ty => run_next_any w1 s pos ty hp
          have hwd := width_pos s pos hp
          cases hh : letB (((Utf8.decode s pos).1 : Nat) : Int)
          · have HH : Hid (letB (((Utf8.decode s pos).1 : Nat) : Int) = false) := hh
            clear hh
            go_wp2_with (go_at_call 102; refine (letter45_any _ _).mono ?_; rw [HH.out]; rintro e w' ⟨rfl, rfl⟩)
            go_ret
            exact ⟨ret_bool (name_lets (by rw [HL.out, lets_next s pos hp, HH.out]; rfl)).symm, hw1.trans ((Below.refl _ _).alloc hs1 _)⟩
          · have HH : Hid (letB (((Utf8.decode s pos).1 : Nat) : Int) = true) := hh
            clear hh
            go_wp2_with (go_at_call 102; refine (letter45_any _ _).mono ?_; rw [HH.out]; rintro e w' ⟨rfl, rfl⟩)
            go_roundw
            case rel => exact ⟨pos + (Utf8.decode s pos).2, rfl, by show _ = _; rw [HL.out, lets_next s pos hp, HH.out]; rfl⟩
            case measure => simp; omega
        · have hnx : ∀ ty, (Instr.next (.pointer (some ⟨w1.heap.size, 0, none⟩)) true ty).run Tryz.prog (w1.iter s pos) = _ := fun ty => run_next_end w1 s pos ty hp
          go_wp2
          go_ret
          exact ⟨ret_bool (name_yes HS.out.1 HS.out.2 (by rw [HL.out, lets_end s pos (by omega)])).symm, hw1.trans ((Below.refl _ _).alloc hs1 _)⟩

theorem repo_list (s : ByteArray) (c : UInt8) : (s.toList == [c]) = decide (s.size = 1 ∧ gb s 0 = c.toNat) := by
  rw [toList_data, Bool.eq_iff_iff, beq_iff_eq, decide_eq_true_eq]
  constructor
  · intro e
    have hs : s = ⟨#[c]⟩ := by
      cases s with
      | mk d => simp only at e; congr 1; apply Array.ext'; exact e
    subst hs
    exact ⟨rfl, rfl⟩
  · rintro ⟨h1, h2⟩
    have hs : s = ⟨#[c]⟩ := by
      apply ext_gb
      · rw [h1]; rfl
      · intro i hi
        have : i = 0 := by omega
        subst this
        rw [h2]; rfl
    rw [hs]

set_option maxHeartbeats 800000 in
theorem isRepo43_any (s : ByteArray) (w : World) : Calls Tryz.prog 174 #[.string s] w fun e w' => e = .returned (.bool (repoB s)) ∧ w' = w := by
  have h0 := repo_list s 48
  have h1 := repo_list s 49
  have h2 := repo_list s 50
  have HH : Hid (repoB s = ((s.toList == [48]) || (s.toList == [49]) || (s.toList == [50]))) := by
    show _ = _
    rw [h0, h1, h2, Bool.eq_iff_iff]
    unfold repoB
    simp only [Bool.or_eq_true, decide_eq_true_eq]
    have e0 : (48 : UInt8).toNat = 48 := rfl
    have e1 : (49 : UInt8).toNat = 49 := rfl
    have e2 : (50 : UInt8).toNat = 50 := rfl
    rw [e0, e1, e2]
    omega
  clear h0 h1 h2
  cases c0 : (s.toList == [48]) <;> cases c1 : (s.toList == [49]) <;> cases c2 : (s.toList == [50])
  all_goals
    go_enter Tryz.func174, Tryz.ntmps174
    go_wp2
    go_ret
    exact ⟨ret_bool (by rw [HH.out, c0, c1, c2]; rfl), rfl⟩

set_option maxHeartbeats 800000 in
theorem repo38_any (s : ByteArray) (w : World) : Calls Tryz.prog 89 #[.string s] w fun e w' => ∃ r : Int, e = .returned (.int .i64 r) ∧ (0 ≤ r ↔ repoB s = true) ∧ w' = w := by
  by_cases h1 : s.size = 1
  · have h0 : 0 < s.size := by omega
    have hg := gb_eq s 0 h0
    have he : (((s.size : Nat) : Int) == 1) = true := by rw [h1]; rfl
    have hlt := gb_lt s 0
    rw [← hg] at hlt
    have HH : Hid (repoB s = true ↔ 48 ≤ s[0].toNat ∧ s[0].toNat ≤ 50) := by
      show _ ↔ _
      unfold repoB
      rw [decide_eq_true_eq, ← hg]
      omega
    clear h1 hg
    by_cases hc : 48 ≤ s[0].toNat ∧ s[0].toNat ≤ 50
    · obtain ⟨hc1, hc2⟩ := hc
      go_enter Tryz.func89, Tryz.ntmps89
      go_wp2
      go_ret
      exact ⟨_, rfl, by rw [HH.out]; omega, rfl⟩
    · have hc' : s[0].toNat < 48 ∨ 50 < s[0].toNat := by omega
      clear hc
      rcases hc' with hc | hc
      all_goals
        go_enter Tryz.func89, Tryz.ntmps89
        go_wp2
        go_ret
        exact ⟨-1, rfl, by rw [HH.out]; omega, rfl⟩
  · have he : (((s.size : Nat) : Int) == 1) = false := by rw [beq_eq_false_iff_ne]; omega
    have HH : Hid (repoB s = false) := by
      show _ = _
      unfold repoB
      rw [decide_eq_false_iff_not]
      omega
    clear h1
    go_enter Tryz.func89, Tryz.ntmps89
    go_wp2
    go_ret
    exact ⟨-1, rfl, by rw [HH.out]; simp, rfl⟩
end Go.Proofs.YtgdfipmdmgkidaaGreatDoor

/- The contract of the document's own test of names. -/
namespace Go.Proofs.YtgdfipmdmgkidaaGreatDoor
open Go.RowKit

theorem rcf_pos (s : ByteArray) (h : 1 ≤ s.size) : 1 ≤ rcf s 0 := by
  rw [rcf_next s 0 (by omega)]
  omega

theorem wrap_in (z : Int) (h0 : -1000000000000 ≤ z) (h1 : z ≤ 1000000000000) : IntKind.i64.wrap z = z := by
  rw [IntKind.wrap_i64]
  omega

set_option maxHeartbeats 1600000 in
theorem named37_any (s : ByteArray) (w : World) (hs : s.size ≤ 10000000) : Calls Tryz.prog 164 #[.string s] w fun e w' => e = .returned (.bool (nameB s)) ∧ ∃ q, w' = w.drewN q := by
  have hsm : s.size ≤ maxLen := by unfold maxLen; omega
  go_enter Tryz.func164, Tryz.ntmps164
  go_wp2
  go_loopw [3, 4] (fun n a wr => ∃ k p q : Nat, p ≤ s.size ∧ k ≤ p ∧ n = .int .i64 k ∧ a = .int .i64 p ∧ Hid (k + rcf s p = rcf s 0) ∧ Hid (lets s 0 = lets s p) ∧ wr = w.drewN q) (fun _ a _ => s.size - (intOf a).toNat)
  case atStart => exact ⟨0, 0, 0, Nat.zero_le _, Nat.zero_le _, rfl, rfl, by show _ = _; omega, rfl, rfl⟩
  case round =>
    obtain ⟨k, p, q, hp, hkp, rfl, rfl, HR, HL, rfl⟩ := hrel
    by_cases hlt : p < s.size
    · have hwd := width_pos s p hlt
      have hin := dec_in s p hlt
      obtain ⟨l1, l2, l3⟩ := let_rune s p hlt
      have hsz := size_any s p (w.drewN q) hlt hsm
      have hnr := rcf_next s p hlt
      have hnl := lets_next s p hlt
      have hg := gb_eq s p hlt
      generalize (Utf8.decode s p).2 = d at *
      generalize (Utf8.decode s p).1 = r at *
      have hbyte := gb_lt s p
      have HSZ := hsz
      clear hsz
      by_cases hd1 : d = 1
      · subst hd1
        have hl := l1 rfl
        clear l1 l2 l3
        by_cases hc : 97 ≤ gb s p ∧ gb s p ≤ 122
        · have HH : Hid (letB (r : Int) = true) := by show _ = _; rw [hl]; simpa using hc
          have HN1 : Hid (rcf s p = 1 + rcf s (p + 1)) := hnr
          have HN2 : Hid (lets s p = (letB (r : Int) && lets s (p + 1))) := hnl
          rw [← hg] at hc hbyte
          obtain ⟨hc1, hc2⟩ := hc
          clear hl hnr hnl hg
          go_wp2_with (go_at_call 201; refine HSZ.mono ?_; rintro e w' ⟨rfl, rfl⟩)
          go_roundw
          case rel => exact ⟨k + 1, p + 1, q, by omega, by omega, by go_num, by go_num, by have h1 := HR.out; have h2 := HN1.out; show _ = _; omega, by show _ = _; rw [HL.out, HN2.out, HH.out]; rfl, rfl⟩
          case measure => simp [intOf]; omega
        · have HH : Hid (letB (r : Int) = false) := by show _ = _; rw [hl]; simpa using hc
          have HN2 : Hid (lets s p = (letB (r : Int) && lets s (p + 1))) := hnl
          rw [← hg] at hc hbyte
          have hc' : s[p].toNat < 97 ∨ 122 < s[p].toNat := by omega
          clear hl hnr hnl hg hc
          rcases hc' with hc | hc
          all_goals
            go_wp2_with (go_at_call 201; refine HSZ.mono ?_; rintro e w' ⟨rfl, rfl⟩)
            go_ret
            exact ⟨ret_bool (name_lets (by rw [HL.out, HN2.out, HH.out]; rfl)).symm, q, rfl⟩
      · by_cases hd2 : d = 2
        · subst hd2
          obtain ⟨e1, e2, e3, e4, e5, e6⟩ := l2 rfl
          have hg1 := gb_eq s (p + 1) e1
          rw [← hg] at e2 e3 e6 hbyte
          rw [← hg1] at e4 e5 e6
          clear l1 l2 l3 hd1 hg hg1
          have HV : Hid ((r : Int) = 64 * ((s[p].toNat : Int) - 192) + (s[p + 1].toNat : Int) - 128) := e6
          have HN1 : Hid (rcf s p = 1 + rcf s (p + 2)) := hnr
          have HN2 : Hid (lets s p = (letB (r : Int) && lets s (p + 2))) := hnl
          clear e6 hnr hnl
          go_wp2_with (go_at_call 201; refine HSZ.mono ?_; rintro e w' ⟨rfl, rfl⟩)
          have w1 : IntKind.i64.wrap ((p : Int) + 1) = (p : Int) + 1 := wrap_in _ (by omega) (by omega)
          have w1' : (p : Int) + 1 < (s.size : Int) := by omega
          have w1'' : (0 : Int) ≤ (p : Int) + 1 := by omega
          have w2 : IntKind.i64.wrap ((s[p].toNat : Nat) : Int) = ((s[p].toNat : Nat) : Int) := wrap_in _ (by omega) (by omega)
          have w3 : IntKind.i64.wrap (((s[p].toNat : Nat) : Int) - 192) = ((s[p].toNat : Nat) : Int) - 192 := wrap_in _ (by omega) (by omega)
          have w4 : IntKind.i64.wrap (64 * (((s[p].toNat : Nat) : Int) - 192)) = 64 * (((s[p].toNat : Nat) : Int) - 192) := wrap_in _ (by omega) (by omega)
          have w5 : IntKind.i64.wrap ((s[p + 1].toNat : Nat) : Int) = ((s[p + 1].toNat : Nat) : Int) := wrap_in _ (by omega) (by omega)
          have w6 : IntKind.i64.wrap (64 * (((s[p].toNat : Nat) : Int) - 192) + ((s[p + 1].toNat : Nat) : Int)) = 64 * (((s[p].toNat : Nat) : Int) - 192) + ((s[p + 1].toNat : Nat) : Int) := wrap_in _ (by omega) (by omega)
          have w7 : IntKind.i64.wrap (64 * (((s[p].toNat : Nat) : Int) - 192) + ((s[p + 1].toNat : Nat) : Int) - 128) = 64 * (((s[p].toNat : Nat) : Int) - 192) + ((s[p + 1].toNat : Nat) : Int) - 128 := wrap_in _ (by omega) (by omega)
          go_quiet (fail)
          have hv := HV.out
          rw [← hv]
          have hr1 : 128 ≤ r := by omega
          have hr2 : r ≤ 2000000 := by omega
          clear w1 w2 w3 w4 w5 w6 w7 hv HV
          by_cases hc : 945 ≤ r ∧ r ≤ 969
          · have HH : Hid (letB (r : Int) = true) := by show _ = _; unfold letB; rw [decide_eq_true_eq]; omega
            obtain ⟨hc1, hc2⟩ := hc
            go_wp2
            go_roundw
            case rel => exact ⟨k + 1, p + 2, q + nq, by omega, by omega, by go_num, by go_num, by have h1 := HR.out; have h2 := HN1.out; show _ = _; omega, by show _ = _; rw [HL.out, HN2.out, HH.out]; rfl, rfl⟩
            case measure => simp [intOf]; omega
          · have HH : Hid (letB (r : Int) = false) := by show _ = _; unfold letB; rw [decide_eq_false_iff_not]; omega
            have hc' : r < 945 ∨ 969 < r := by omega
            clear hc
            rcases hc' with hc | hc
            all_goals
              go_wp2
              go_ret
              exact ⟨ret_bool (name_lets (by rw [HL.out, HN2.out, HH.out]; rfl)).symm, q + nq, rfl⟩
        · have HH : Hid (letB (r : Int) = false) := l3 (by omega)
          have HN2 : Hid (lets s p = (letB (r : Int) && lets s (p + d))) := hnl
          have hd3 : 2 < d := by omega
          clear l1 l2 l3 hnl hnr hd1 hd2
          go_wp2_with (go_at_call 201; refine HSZ.mono ?_; rintro e w' ⟨rfl, rfl⟩)
          go_ret
          exact ⟨ret_bool (name_lets (by rw [HL.out, HN2.out, HH.out]; rfl)).symm, q, rfl⟩
    · have HE : Hid (rcf s p = 0 ∧ lets s p = true) := ⟨rcf_end s p (by omega), lets_end s p (by omega)⟩
      have HK : Hid (k = rcf s 0) := by have h1 := HR.out; have h2 := HE.out.1; show _ = _; omega
      have HLT : Hid (lets s 0 = true) := by show _ = _; rw [HL.out, HE.out.2]
      by_cases h0 : s.size = 0
      · have hk0 : k < 1 := by omega
        have HN : Hid (nameB s = false) := name_empty h0
        go_wp2
        go_ret
        exact ⟨ret_bool HN.out.symm, q, rfl⟩
      · have hk1 : 1 ≤ k := by rw [HK.out]; exact rcf_pos s (by omega)
        by_cases h8 : k ≤ 8
        · have HN : Hid (nameB s = true) := name_yes (by omega) (by rw [← HK.out]; exact h8) HLT.out
          go_wp2
          go_ret
          exact ⟨ret_bool (by rw [HN.out]; simp; omega), q, rfl⟩
        · have HN : Hid (nameB s = false) := name_over (by rw [← HK.out]; omega)
          go_wp2
          go_ret
          exact ⟨ret_bool (by rw [HN.out]; simp; omega), q, rfl⟩
end Go.Proofs.YtgdfipmdmgkidaaGreatDoor
