/- The contracts of the document's own small functions on lists of texts: where a text stands, a list without a place, a list sorted. -/
import Derived.Test.YtgdfipmdmgkidaaGreatDoorWsplit
namespace Go.Proofs.YtgdfipmdmgkidaaGreatDoor
open Go.RowKit

theorem eq_bytes (t s : ByteArray) : (t.toList == s.toList) = decide (t = s) := by
  by_cases h : t = s
  · subst h; simp
  · rw [word_ne h]; simp [h]

/-- Where a text stands in a list. -/
def whr (L : List ByteArray) (s : ByteArray) : Option Nat := L.findIdx? fun x => decide (x = s)
def whrInt : Option Nat → Int
  | some k => k
  | none => -1

theorem whr_hit {L : List ByteArray} {s : ByteArray} {k : Nat} (hk : k < L.length) (h : L[k] = s) (hno : ∀ i (hi : i < k), L[i]'(by omega) ≠ s) : whr L s = some k := by
  unfold whr
  rw [List.findIdx?_eq_some_iff_getElem]
  refine ⟨hk, by simpa using h, fun j hj => by simpa using hno j hj⟩
theorem whr_miss {L : List ByteArray} {s : ByteArray} (hno : ∀ i (hi : i < L.length), L[i] ≠ s) : whr L s = none := by
  unfold whr
  rw [List.findIdx?_eq_none_iff]
  intro x hx
  obtain ⟨i, hi, rfl⟩ := List.mem_iff_getElem.1 hx
  simpa using hno i hi

theorem getD_at {L : List ByteArray} {k : Nat} (h : k < L.length) : L.getD k ByteArray.empty = L[k] := by rw [List.getD_eq_getElem?_getD, List.getElem?_eq_getElem h]; rfl

set_option maxRecDepth 100000 in
set_option maxHeartbeats 800000 in
theorem where79_any (L : List ByteArray) (s : ByteArray) (ao : Option Addr) (cap : Nat) (w : World) (hv : View w ao L) (hlen : L.length ≤ 1000000) :
    Calls Tryz.prog 165 #[.slice ao L.length cap, .string s] w fun e w' => e = .returned (.int .i64 (whrInt (whr L s))) ∧ w' = w := by
  go_enter Tryz.func165, Tryz.ntmps165
  go_wp2
  go_loop [5] (fun i => ∃ k : Nat, k ≤ L.length ∧ i = .int .i64 k ∧ Hid (∀ i (hi : i < L.length), i < k → L[i] ≠ s)) (fun i => L.length - (intOf i).toNat)
  case atStart => exact ⟨0, Nat.zero_le _, rfl, fun i _ h => by omega⟩
  case round =>
    obtain ⟨k, hk, rfl, HN⟩ := hrel
    by_cases hlt : k < L.length
    · rcases hv with h | ⟨b, o, rfl, hb, hc⟩
      · omega
      have hcell := hc k hlt
      rw [getD_at hlt] at hcell
      obtain ⟨t, ht⟩ : ∃ t, L[k] = t := ⟨_, rfl⟩
      rw [ht] at hcell
      have HT : Hid (L[k] = t) := ht
      clear ht hc
      cases he : decide (t = s)
      · have hb2 : (t.toList == s.toList) = false := by rw [eq_bytes]; exact he
        have HE : Hid (t ≠ s) := by show _ ≠ _; simpa using he
        clear he
        go_wp2
        go_round
        case rel =>
          refine ⟨k + 1, by omega, by go_num, fun i hi h => ?_⟩
          by_cases e : i = k
          · subst e; rw [HT.out]; exact HE.out
          · exact HN.out i hi (by omega)
        case measure => simp [intOf]; omega
      · have hb2 : (t.toList == s.toList) = true := by rw [eq_bytes]; exact he
        have HE : Hid (t = s) := by show _ = _; simpa using he
        clear he
        go_wp2
        go_ret
        exact ⟨ret_int (by rw [whr_hit hlt (by rw [HT.out]; exact HE.out) (fun i hi => HN.out i (by omega) hi)]; rfl), rfl⟩
    · go_wp2
      go_ret
      exact ⟨ret_int (by rw [whr_miss (fun i hi => HN.out i hi (by omega))]; rfl), rfl⟩

def wOut (L : List ByteArray) (q : Nat) (k : Nat) : List ByteArray := (L.take k).eraseIdx q
theorem wOut_same {L : List ByteArray} {q k : Nat} (hk : k < L.length) (e : k = q) : wOut L q (k + 1) = wOut L q k := by
  subst e
  have hl : (L.take k).length = k := by rw [List.length_take]; omega
  unfold wOut
  rw [show (L.take k).eraseIdx k = L.take k from List.eraseIdx_of_length_le (by omega), List.take_succ_eq_append_getElem hk, List.eraseIdx_append_of_length_le (by omega), hl, Nat.sub_self]
  simp
theorem wOut_more {L : List ByteArray} {q k : Nat} (hk : k < L.length) (e : k ≠ q) : wOut L q (k + 1) = wOut L q k ++ [L[k]] := by
  have hl : (L.take k).length = k := by rw [List.length_take]; omega
  unfold wOut
  rw [List.take_succ_eq_append_getElem hk]
  by_cases h : q < k
  · rw [List.eraseIdx_append_of_lt_length (by omega)]
  · rw [show (L.take k).eraseIdx q = L.take k from List.eraseIdx_of_length_le (by omega)]
    exact List.eraseIdx_of_length_le (by simp; omega)
theorem wOut_len (L : List ByteArray) (q k : Nat) : (wOut L q k).length ≤ k := by
  unfold wOut
  have := List.length_eraseIdx_le (l := L.take k) (i := q)
  have h2 := List.length_take_le k L
  omega

set_option maxRecDepth 100000 in
set_option maxHeartbeats 1600000 in
theorem without106_any (L : List ByteArray) (q : Nat) (ao : Option Addr) (cap : Nat) (w : World) (hv : View w ao L) (hlen : L.length ≤ 1000000) (_hq : q ≤ 1000000) :
    Calls Tryz.prog 213 #[.slice ao L.length cap, .int .i64 q] w fun e w' => ∃ v, e = .returned v ∧ w'.ownsRow w.heap.size 9 1 v (L.eraseIdx q).length (strs (L.eraseIdx q)) ∧ Below w.heap.size w w' := by
  obtain ⟨i0, hi, hz0, hz1, hz2⟩ := info_parts Tryz.info9
  go_enter Tryz.func213, Tryz.ntmps213
  go_wp2
  go_loopw [5, 6] (fun v i wr => ∃ k : Nat, k ≤ L.length ∧ i = .int .i64 k ∧ wr.ownsRow w.heap.size 9 1 v (wOut L q k).length (strs (wOut L q k)) ∧ Below w.heap.size w wr) (fun _ i _ => L.length - (intOf i).toNat)
  case atStart => exact ⟨0, Nat.zero_le _, rfl, by simpa [wOut] using World.ownsRow_nil _ _ _ _, Below.refl _ _⟩
  case round =>
    obtain ⟨k, hk, rfl, hown, hbw⟩ := hrel
    have hsz : w.heap.size ≤ wr.heap.size := hbw.size
    have hwl := wOut_len L q k
    by_cases hlt : k < L.length
    · rcases hv with h | ⟨b, o, rfl, hb, hc⟩
      · omega
      have hcell : wr.cell? ⟨b, o + k, none⟩ = some (.string L[k]) := by rw [← getD_at hlt]; exact (hbw.cell (p := ⟨b, o + k, none⟩) hb).trans (hc k hlt)
      clear hc
      by_cases hkq : k = q
      · have hne : (((k : Nat) : Int) != ((q : Nat) : Int)) = false := by rw [hkq]; simp
        have HS : Hid (wOut L q (k + 1) = wOut L q k) := wOut_same hlt hkq
        clear hkq
        go_wp2
        go_roundw
        case rel => exact ⟨k + 1, by omega, by go_num, by rw [HS.out]; exact hown, hbw⟩
        case measure => simp [intOf]; omega
      · have hne : (((k : Nat) : Int) != ((q : Nat) : Int)) = true := by rw [bne_iff_ne]; omega
        have HS : Hid (wOut L q (k + 1) = wOut L q k ++ [L[k]]) := wOut_more hlt hkq
        clear hkq
        generalize L[k] = t at *
        go_wp2_with (at_builtin; refine wpList_append_own _ rfl _ _ 35 rfl w.heap.size 9 i0 (.string ⟨#[]⟩) 1 16 Tryz.underlying35 hi hz0 hz1 hz2 rfl (by decide) _ _ _ rfl (hown.alloc _) ⟨wr.heap.size, 0, none⟩ 1 1 [.string t] rfl rfl (new_one _ _ _) (strs_one [_]) (by unfold maxLen; omega) (by omega) (by simp; omega) ?_)
        intro v' w1 hown' hg _
        have R := step_own (Nat.le_refl _) hown hbw hsz hown' hg
        clear hown' hg hown hbw
        go_wp2
        go_roundw
        case rel => exact ⟨k + 1, by omega, by go_num, by rw [HS.out]; exact R.1, R.2.1⟩
        case measure => simp [intOf]; omega
    · have e : k = L.length := by omega
      have HE : Hid (wOut L q k = L.eraseIdx q) := by show _ = _; unfold wOut; rw [e, List.take_length]
      clear e
      go_wp2
      go_ret
      rw [HE.out] at hown
      exact ⟨_, rfl, hown, hbw⟩
end Go.Proofs.YtgdfipmdmgkidaaGreatDoor
