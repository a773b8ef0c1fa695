/- The contract of the document's own test of names. -/
import Derived.Test.YtgdfipmdmgkidaaWnames
namespace Go.Proofs.Ytgdfipmdmgkidaa
open Go.RowKit

theorem rcf_pos (s : ByteArray) (h : 1 ≤ s.size) : 1 ≤ rcf s 0 := by
  rw [rcf_next s 0 (by omega)]
  omega

theorem wrap_in (z : Int) (h0 : -1000000 ≤ z) (h1 : z ≤ 1000000) : IntKind.i64.wrap z = z := by
  rw [IntKind.wrap_i64]
  omega

set_option maxHeartbeats 1600000 in
theorem named37_any (s : ByteArray) (w : World) (hs : s.size ≤ 100000) : Calls Try.prog 37 #[.string s] w fun e w' => e = .returned (.bool (nameB s)) ∧ ∃ q, w' = w.drewN q := by
  have hsm : s.size ≤ maxLen := by unfold maxLen; omega
  go_enter Try.func37, Try.ntmps37
  go_wp2
  go_loopw [3, 4] (fun n a wr => ∃ k p q : Nat, p ≤ s.size ∧ k ≤ p ∧ n = .int .i64 k ∧ a = .int .i64 p ∧ Hid (k + rcf s p = rcf s 0) ∧ Hid (lets s 0 = lets s p) ∧ wr = w.drewN q) (fun _ a _ => s.size - (intOf a).toNat)
  case atStart => exact ⟨0, 0, 0, Nat.zero_le _, Nat.zero_le _, rfl, rfl, by show _ = _; omega, rfl, rfl⟩
  case round =>
    obtain ⟨k, p, q, hp, hkp, rfl, rfl, HR, HL, rfl⟩ := hrel
    by_cases hlt : p < s.size
    · have hwd := width_pos s p hlt
      have hin := dec_in s p hlt
      obtain ⟨l1, l2, l3⟩ := let_rune s p hlt
      have hsz := size_any s p (w.drewN q) hlt hsm
      have hnr := rcf_next s p hlt
      have hnl := lets_next s p hlt
      have hg := gb_eq s p hlt
      generalize (Utf8.decode s p).2 = d at *
      generalize (Utf8.decode s p).1 = r at *
      have hbyte := gb_lt s p
      have HSZ := hsz
      clear hsz
      by_cases hd1 : d = 1
      · subst hd1
        have hl := l1 rfl
        clear l1 l2 l3
        by_cases hc : 97 ≤ gb s p ∧ gb s p ≤ 122
        · have HH : Hid (letB (r : Int) = true) := by show _ = _; rw [hl]; simpa using hc
          have HN1 : Hid (rcf s p = 1 + rcf s (p + 1)) := hnr
          have HN2 : Hid (lets s p = (letB (r : Int) && lets s (p + 1))) := hnl
          rw [← hg] at hc hbyte
          obtain ⟨hc1, hc2⟩ := hc
          clear hl hnr hnl hg
          go_wp2_with (go_at_call 31; refine HSZ.mono ?_; rintro e w' ⟨rfl, rfl⟩)
          go_roundw
          case rel => exact ⟨k + 1, p + 1, q, by omega, by omega, by go_num, by go_num, by have h1 := HR.out; have h2 := HN1.out; show _ = _; omega, by show _ = _; rw [HL.out, HN2.out, HH.out]; rfl, rfl⟩
          case measure => simp [intOf]; omega
        · have HH : Hid (letB (r : Int) = false) := by show _ = _; rw [hl]; simpa using hc
          have HN2 : Hid (lets s p = (letB (r : Int) && lets s (p + 1))) := hnl
          rw [← hg] at hc hbyte
          have hc' : s[p].toNat < 97 ∨ 122 < s[p].toNat := by omega
          clear hl hnr hnl hg hc
          rcases hc' with hc | hc
          all_goals
            go_wp2_with (go_at_call 31; refine HSZ.mono ?_; rintro e w' ⟨rfl, rfl⟩)
            go_ret
            exact ⟨ret_bool (name_lets (by rw [HL.out, HN2.out, HH.out]; rfl)).symm, q, rfl⟩
      · by_cases hd2 : d = 2
        · subst hd2
          obtain ⟨e1, e2, e3, e4, e5, e6⟩ := l2 rfl
          have hg1 := gb_eq s (p + 1) e1
          rw [← hg] at e2 e3 e6 hbyte
          rw [← hg1] at e4 e5 e6
          clear l1 l2 l3 hd1 hg hg1
          have HV : Hid ((r : Int) = 64 * ((s[p].toNat : Int) - 192) + (s[p + 1].toNat : Int) - 128) := e6
          have HN1 : Hid (rcf s p = 1 + rcf s (p + 2)) := hnr
          have HN2 : Hid (lets s p = (letB (r : Int) && lets s (p + 2))) := hnl
          clear e6 hnr hnl
          go_wp2_with (go_at_call 31; refine HSZ.mono ?_; rintro e w' ⟨rfl, rfl⟩)
          have w1 : IntKind.i64.wrap ((p : Int) + 1) = (p : Int) + 1 := wrap_in _ (by omega) (by omega)
          have w1' : (p : Int) + 1 < (s.size : Int) := by omega
          have w1'' : (0 : Int) ≤ (p : Int) + 1 := by omega
          have w2 : IntKind.i64.wrap ((s[p].toNat : Nat) : Int) = ((s[p].toNat : Nat) : Int) := wrap_in _ (by omega) (by omega)
          have w3 : IntKind.i64.wrap (((s[p].toNat : Nat) : Int) - 192) = ((s[p].toNat : Nat) : Int) - 192 := wrap_in _ (by omega) (by omega)
          have w4 : IntKind.i64.wrap (64 * (((s[p].toNat : Nat) : Int) - 192)) = 64 * (((s[p].toNat : Nat) : Int) - 192) := wrap_in _ (by omega) (by omega)
          have w5 : IntKind.i64.wrap ((s[p + 1].toNat : Nat) : Int) = ((s[p + 1].toNat : Nat) : Int) := wrap_in _ (by omega) (by omega)
          have w6 : IntKind.i64.wrap (64 * (((s[p].toNat : Nat) : Int) - 192) + ((s[p + 1].toNat : Nat) : Int)) = 64 * (((s[p].toNat : Nat) : Int) - 192) + ((s[p + 1].toNat : Nat) : Int) := wrap_in _ (by omega) (by omega)
          have w7 : IntKind.i64.wrap (64 * (((s[p].toNat : Nat) : Int) - 192) + ((s[p + 1].toNat : Nat) : Int) - 128) = 64 * (((s[p].toNat : Nat) : Int) - 192) + ((s[p + 1].toNat : Nat) : Int) - 128 := wrap_in _ (by omega) (by omega)
          go_quiet (fail)
          have hv := HV.out
          rw [← hv]
          have hr1 : 128 ≤ r := by omega
          have hr2 : r ≤ 2000000 := by omega
          clear w1 w2 w3 w4 w5 w6 w7 hv HV
          by_cases hc : 945 ≤ r ∧ r ≤ 969
          · have HH : Hid (letB (r : Int) = true) := by show _ = _; unfold letB; rw [decide_eq_true_eq]; omega
            obtain ⟨hc1, hc2⟩ := hc
            go_wp2
            go_roundw
            case rel => exact ⟨k + 1, p + 2, q + nq, by omega, by omega, by go_num, by go_num, by have h1 := HR.out; have h2 := HN1.out; show _ = _; omega, by show _ = _; rw [HL.out, HN2.out, HH.out]; rfl, rfl⟩
            case measure => simp [intOf]; omega
          · have HH : Hid (letB (r : Int) = false) := by show _ = _; unfold letB; rw [decide_eq_false_iff_not]; omega
            have hc' : r < 945 ∨ 969 < r := by omega
            clear hc
            rcases hc' with hc | hc
            all_goals
              go_wp2
              go_ret
              exact ⟨ret_bool (name_lets (by rw [HL.out, HN2.out, HH.out]; rfl)).symm, q + nq, rfl⟩
        · have HH : Hid (letB (r : Int) = false) := l3 (by omega)
          have HN2 : Hid (lets s p = (letB (r : Int) && lets s (p + d))) := hnl
          have hd3 : 2 < d := by omega
          clear l1 l2 l3 hnl hnr hd1 hd2
          go_wp2_with (go_at_call 31; refine HSZ.mono ?_; rintro e w' ⟨rfl, rfl⟩)
          go_ret
          exact ⟨ret_bool (name_lets (by rw [HL.out, HN2.out, HH.out]; rfl)).symm, q, rfl⟩
    · have HE : Hid (rcf s p = 0 ∧ lets s p = true) := ⟨rcf_end s p (by omega), lets_end s p (by omega)⟩
      have HK : Hid (k = rcf s 0) := by have h1 := HR.out; have h2 := HE.out.1; show _ = _; omega
      have HLT : Hid (lets s 0 = true) := by show _ = _; rw [HL.out, HE.out.2]
      by_cases h0 : s.size = 0
      · have hk0 : k < 1 := by omega
        have HN : Hid (nameB s = false) := name_empty h0
        go_wp2
        go_ret
        exact ⟨ret_bool HN.out.symm, q, rfl⟩
      · have hk1 : 1 ≤ k := by rw [HK.out]; exact rcf_pos s (by omega)
        by_cases h8 : k ≤ 8
        · have HN : Hid (nameB s = true) := name_yes (by omega) (by rw [← HK.out]; exact h8) HLT.out
          go_wp2
          go_ret
          exact ⟨ret_bool (by rw [HN.out]; simp; omega), q, rfl⟩
        · have HN : Hid (nameB s = false) := name_over (by rw [← HK.out]; omega)
          go_wp2
          go_ret
          exact ⟨ret_bool (by rw [HN.out]; simp; omega), q, rfl⟩
end Go.Proofs.Ytgdfipmdmgkidaa
