/- The contract of the document's own Lines. -/
import Derived.Test.YtgdfipmdmgkidaaGreatDoorWsize
import Derived.Deep.QuietTactic
import Derived.BigQuiet
namespace Go.Proofs.YtgdfipmdmgkidaaGreatDoor
open Go.RowKit

theorem lines_long {s : ByteArray} {L : List ByteArray} (hc : cutAll s = L) (h : anyLong L = true) : linesOk s = false := by unfold linesOk; rw [hc, h]; simp

theorem wrap_last (t : ByteArray) (h : 1 ≤ t.size) (h2 : t.size ≤ 100000) : IntKind.i64.wrap ((t.size : Int) - 1) = ((t.size - 1 : Nat) : Int) := by
  rw [IntKind.wrap_i64]
  omega

set_option maxHeartbeats 1600000 in
theorem lines14_any (s : ByteArray) (w : World) :
    Calls Tryz.prog 92 #[.string s] w fun e w' => ∃ v, e = .returned (.tuple #[v, .int .i64 (linesErr s)]) ∧ w'.ownsRow w.heap.size 9 1 v (linesOf s).length (strs (linesOf s)) ∧ Below w.heap.size w w' := by
  by_cases h240 : 240 < s.size
  · have hno : linesOk s = false := by unfold linesOk; simp; omega
    rw [(lines_no hno).1, (lines_no hno).2]
    clear hno
    go_enter Tryz.func92, Tryz.ntmps92
    go_wp2
    go_ret2
    exact ⟨_, rfl, World.ownsRow_nil _ _ _ _, Below.refl _ _⟩
  · have hsm : ∀ l ∈ cutAll s, 1 ≤ l.size ∧ l.size ≤ s.size := cutAll_each s
    have hlm := cutAll_len s
    by_cases h16 : 16 < (cutAll s).length
    · have hno : linesOk s = false := by unfold linesOk; simp; omega
      rw [(lines_no hno).1, (lines_no hno).2]
      clear hno
      go_enter Tryz.func92, Tryz.ntmps92
      go_wp2_with fail
      refine (cut22_any s w (by omega)).mono ?_
      rintro e w1 ⟨v, rfl, hown, hbw⟩
      obtain ⟨ao, cap, rfl⟩ := own_shape hown
      go_wp2
      go_ret2
      exact ⟨_, rfl, World.ownsRow_nil _ _ _ _, hbw⟩
    · go_enter Tryz.func92, Tryz.ntmps92
      go_wp2_with fail
      refine (cut22_any s w (by omega)).mono ?_
      rintro e w1 ⟨v, rfl, hown, hbw⟩
      obtain ⟨ao, cap, rfl⟩ := own_shape hown
      obtain ⟨L, hL⟩ : ∃ L, cutAll s = L := ⟨_, rfl⟩
      rw [hL] at hsm hlm h16 hown
      have HC : Hid (cutAll s = L) := hL
      rw [hL]
      clear hL
      go_wp2
      go_loopw [5] (fun i wr => ∃ k : Nat, k ≤ L.length ∧ i = .int .i64 k ∧ Hid (anyLong (L.take k) = false) ∧ Below w1.heap.size w1 wr) (fun i _ => L.length - (intOf i).toNat)
      case atStart => exact ⟨0, Nat.zero_le _, rfl, rfl, Below.refl _ _⟩
      case round =>
        obtain ⟨k, hk, rfl, HN, hb1⟩ := hrel
        by_cases hlt : k < L.length
        · obtain ⟨g, hao, hgB, hgs⟩ := own_at hown (by omega)
          subst hao
          obtain ⟨t, ht⟩ : ∃ t, t = L.getD k ByteArray.empty := ⟨_, rfl⟩
          have hcell : wr.cell? ⟨g, k, none⟩ = some (.string t) := by rw [ht]; exact (hb1.cell (p := ⟨g, k, none⟩) hgs).trans (row_cell hown k hlt)
          have htt : 1 ≤ t.size ∧ t.size ≤ s.size := by
            rw [ht, List.getD_eq_getElem?_getD, List.getElem?_eq_getElem hlt]
            exact hsm _ (List.getElem_mem hlt)
          have HT : Hid (t = L.getD k ByteArray.empty) := ht
          clear ht
          obtain ⟨ht1, ht2⟩ := htt
          have hrc := rcf_le t 0
          have hwrap := wrap_last t ht1 (by omega)
          have hlast : (((t.size - 1 : Nat)) : Int) < (t.size : Int) := by omega
          by_cases hnl : t[t.size - 1].toNat = 10
          · have hb : (((t[t.size - 1].toNat : Nat) : Int) == 10) = true := by rw [hnl]; rfl
            have hlr := lineRunes_nl t ht1 (by rw [← gb_eq t (t.size - 1) (by omega)]; exact hnl)
            clear hnl
            obtain ⟨m, hm⟩ : ∃ m, rcf t 0 = m := ⟨_, rfl⟩
            have hrun := runes_any t wr (by unfold maxLen; omega)
            rw [hm] at hrc hlr hrun
            clear hm
            by_cases hlong : 12 < lineRunes t
            · have HL : Hid (decide (12 < lineRunes t) = true) := by show _ = _; simpa using hlong
              have hm1 : 13 < m := by omega
              clear hlong hlr
              go_wp2_with (go_at_call 137; refine hrun.mono ?_; rintro e w' ⟨rfl, rfl⟩)
              go_quiet (fail)
              go_wp2
              go_ret2
              have hno := lines_long HC.out (anyLong_yes hlt (by rw [← HT.out]; exact HL.out))
              rw [(lines_no hno).1, (lines_no hno).2]
              exact ⟨_, rfl, World.ownsRow_nil _ _ _ _, hbw.trans ((below_drewN hb1 _).mono hbw.size)⟩
            · have HL : Hid (decide (12 < lineRunes t) = false) := by show _ = _; simpa using hlong
              have hm1 : m ≤ 13 := by omega
              clear hlong hlr
              go_wp2_with (go_at_call 137; refine hrun.mono ?_; rintro e w' ⟨rfl, rfl⟩)
              go_quiet (fail)
              go_wp2
              go_roundw
              case rel => exact ⟨k + 1, by omega, by go_num, anyLong_next hlt HN.out (by rw [← HT.out]; exact HL.out), below_drewN hb1 _⟩
              case measure => simp [intOf]; omega
          · have hb : (((t[t.size - 1].toNat : Nat) : Int) == 10) = false := by rw [beq_eq_false_iff_ne]; omega
            have hlr := lineRunes_no t (by rw [← gb_eq t (t.size - 1) (by omega)]; exact hnl)
            clear hnl
            obtain ⟨m, hm⟩ : ∃ m, rcf t 0 = m := ⟨_, rfl⟩
            have hrun := runes_any t wr (by unfold maxLen; omega)
            rw [hm] at hrc hlr hrun
            clear hm
            by_cases hlong : 12 < lineRunes t
            · have HL : Hid (decide (12 < lineRunes t) = true) := by show _ = _; simpa using hlong
              have hm1 : 12 < m := by omega
              clear hlong hlr
              go_wp2_with (go_at_call 137; refine hrun.mono ?_; rintro e w' ⟨rfl, rfl⟩)
              go_quiet (fail)
              go_wp2
              go_ret2
              have hno := lines_long HC.out (anyLong_yes hlt (by rw [← HT.out]; exact HL.out))
              rw [(lines_no hno).1, (lines_no hno).2]
              exact ⟨_, rfl, World.ownsRow_nil _ _ _ _, hbw.trans ((below_drewN hb1 _).mono hbw.size)⟩
            · have HL : Hid (decide (12 < lineRunes t) = false) := by show _ = _; simpa using hlong
              have hm1 : m ≤ 12 := by omega
              clear hlong hlr
              go_wp2_with (go_at_call 137; refine hrun.mono ?_; rintro e w' ⟨rfl, rfl⟩)
              go_quiet (fail)
              go_wp2
              go_roundw
              case rel => exact ⟨k + 1, by omega, by go_num, anyLong_next hlt HN.out (by rw [← HT.out]; exact HL.out), below_drewN hb1 _⟩
              case measure => simp [intOf]; omega
        · go_wp2
          go_ret2
          have e : k = L.length := by omega
          have hn := HN.out
          rw [e, List.take_length] at hn
          have hok : linesOk s = true := by unfold linesOk; rw [HC.out, hn]; simp; omega
          rw [(lines_yes hok).1, (lines_yes hok).2, HC.out]
          exact ⟨_, rfl, own_below hown hb1 (Nat.le_refl _), hbw.trans (hb1.mono hbw.size)⟩
end Go.Proofs.YtgdfipmdmgkidaaGreatDoor
