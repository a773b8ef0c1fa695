/- The contracts of the two ways to part a command into its words: the program's by runes, the document's by bytes. -/
import Derived.Test.YtgdfipmdmgkidaaWcut
import Derived.Test.YtgdfipmdmgkidaaWlines
import Derived.Test.YtgdfipmdmgkidaaWnames
namespace Go.Proofs.Ytgdfipmdmgkidaa
open Go.RowKit

theorem addWord_yes {L : List ByteArray} {s : ByteArray} {p q : Nat} (h : p < q) : addWord L s p q = L ++ [s.extract p q] := by unfold addWord; exact if_pos h
theorem addWord_no {L : List ByteArray} {s : ByteArray} {p q : Nat} (h : ¬ p < q) : addWord L s p q = L := by unfold addWord; exact if_neg h

def oneMore (L : List ByteArray) (x : ByteArray) : List ByteArray := if 1 ≤ x.size then L ++ [x] else L

set_option maxHeartbeats 800000 in
theorem append32_any (L : List ByteArray) (x : ByteArray) (v : Value) (B C : Nat) (w : World) (hown : w.ownsRow C 9 1 v L.length (strs L)) (hC : C ≤ w.heap.size) (hBC : B ≤ C) (hL : L.length ≤ 1000000) :
    Calls Try.prog 32 #[v, .string x] w fun e w' => ∃ v', e = .returned v' ∧ w'.ownsRow C 9 1 v' (oneMore L x).length (strs (oneMore L x)) ∧ Below B w w' ∧ (∀ k, k < C → k < w.heap.size → w'.heap[k]? = w.heap[k]?) ∧ w.heap.size ≤ w'.heap.size := by
  obtain ⟨i0, hi, hz0, hz1, hz2⟩ := info_parts Try.info9
  by_cases h1 : 1 ≤ x.size
  · have he := empty_no x h1
    have e : oneMore L x = L ++ [x] := by unfold oneMore; rw [if_pos h1]
    rw [e]
    clear e
    go_enter Try.func32, Try.ntmps32
    go_wp2_with (at_builtin; refine wpList_append_own _ rfl _ _ 22 rfl C 9 i0 (.string ⟨#[]⟩) 1 16 Try.underlying22 hi hz0 hz1 hz2 rfl (by decide) _ _ _ rfl (hown.alloc _) ⟨w.heap.size, 0, none⟩ 1 1 [.string x] rfl rfl (new_one _ _ _) (strs_one [_]) (by unfold maxLen; omega) (by omega) (by simp; omega) ?_)
    intro v' w1 hown' hg _
    have R := step_own hBC hown (Below.refl B w) (by omega) hown' hg
    have hsz : w.heap.size ≤ w1.heap.size := by have := hg.size; simp at this; omega
    clear hown' hg hown
    go_wp2
    go_ret
    exact ⟨_, rfl, R.1, R.2.1, R.2.2, hsz⟩
  · have he := empty_yes x (by omega)
    have e : oneMore L x = L := by unfold oneMore; rw [if_neg h1]
    rw [e]
    clear e
    go_enter Try.func32, Try.ntmps32
    go_wp2
    go_ret
    exact ⟨_, rfl, hown, Below.refl _ _, fun _ _ _ => rfl, Nat.le_refl _⟩

theorem oneMore_add (L : List ByteArray) (s : ByteArray) (p q : Nat) (hq : q ≤ s.size) : oneMore L (s.extract p q) = addWord L s p q := by
  unfold oneMore addWord
  rw [size_ex _ _ _ hq]
  by_cases h : p < q
  · rw [if_pos (by omega), if_pos h]
  · rw [if_neg (by omega), if_neg h]

set_option maxRecDepth 100000 in
set_option maxHeartbeats 1600000 in
theorem split25_any (s : ByteArray) (w : World) (hs : s.size ≤ 100000) :
    Calls Try.prog 25 #[.string s] w fun e w' => ∃ v, e = .returned v ∧ w'.ownsRow w.heap.size 9 1 v (splitAll s).length (strs (splitAll s)) ∧ Below w.heap.size w w' := by
  go_enter Try.func25, Try.ntmps25
  go_wp2
  go_loopw [3, 4] (fun v st wr => ∃ (p q : Nat) (L : List ByteArray), p ≤ s.size ∧ st = .int .i64 q ∧ Hid (wTo s p = (L, q)) ∧ wr.ownsRow (w.heap.size + 1) 9 1 v L.length (strs L) ∧ Below w.heap.size w wr ∧ wr.heap[w.heap.size]? = some (.stringIter s p)) (fun _ _ wr => s.size - wr.iterPos w.heap.size)
  case atStart => exact ⟨0, 0, [], Nat.zero_le _, rfl, rfl, World.ownsRow_nil _ _ _ _, (Below.refl _ _).alloc (Nat.le_refl _) _, World.iter_heap w s 0⟩
  case round =>
    obtain ⟨p, q, L, hp, rfl, HS, hown, hbw, hit⟩ := hrel
    have hq : q ≤ p := by have := (wTo_le s p).1; rw [HS.out] at this; exact this
    have hLq : L.length ≤ q := by have := (wTo_le s p).2; rw [HS.out] at this; exact this
    have hsz : w.heap.size < wr.heap.size := (Array.getElem?_eq_some_iff.1 hit).1
    by_cases hlt : p < s.size
    · by_cases h32 : gb s p = 32
      · have hnx : ∀ ty, (Instr.next (.pointer (some ⟨w.heap.size, 0, none⟩)) true ty).run Try.prog wr = .ok (.tuple #[.bool true, .int .i64 p, .int .i32 32]) (wr.iterAt w.heap.size s (p + 1)) := fun ty => by
          rw [Lib.run_next_any_at wr w.heap.size s p ty hit hlt, dec_at_low s p hlt (by omega), h32]; rfl
        have HB : Hid (gb s p = 32) := h32
        clear h32
        have hown1 := ownsRow_iterAt hown (k := w.heap.size) (by omega) s (p + 1)
        have hbw1 := Lib.below_iterAt hbw (k := w.heap.size) (Nat.le_refl _) s (p + 1)
        have hit1 := Lib.iterAt_heap wr w.heap.size s p (p + 1) hit
        have hsz1 : w.heap.size < (wr.iterAt w.heap.size s (p + 1)).heap.size := by rw [Lib.iterAt_size]; exact hsz
        have HM : Hid (wr.iterPos w.heap.size = p) := iterPos_of hit
        clear hit hown hbw
        obtain ⟨wq, hwq⟩ : ∃ wq, wr.iterAt w.heap.size s (p + 1) = wq := ⟨_, rfl⟩
        rw [hwq] at hown1 hbw1 hit1 hsz1 hnx
        clear hwq
        go_wp2_with fail
        refine (append32_any L _ _ w.heap.size (w.heap.size + 1) wq hown1 (by omega) (by omega) (by omega)).mono ?_
        rintro e w1 ⟨v', rfl, hown', hb', hk', hs'⟩
        rw [oneMore_add L s q p (by omega)] at hown'
        have hit2 := (hk' w.heap.size (by omega) hsz1).trans hit1
        clear hown1 hnx hk'
        go_wp2
        go_roundw
        case rel => exact ⟨p + 1, p + 1, addWord L s q p, by omega, by go_num, by show _ = _; rw [wTo_sp HB.out, HS.out], hown', hbw1.trans hb', hit2⟩
        case measure => rw [iterPos_of hit2, HM.out]; omega
      · obtain ⟨r, k, hdec, hr, hk, hin, hall⟩ := dec_not s p 32 hlt (by omega) h32
        have hnx : ∀ ty, (Instr.next (.pointer (some ⟨w.heap.size, 0, none⟩)) true ty).run Try.prog wr = .ok (.tuple #[.bool true, .int .i64 p, .int .i32 r]) (wr.iterAt w.heap.size s (p + k)) := fun ty => by
          rw [Lib.run_next_any_at wr w.heap.size s p ty hit hlt, hdec]
        have hb : ((r : Int) == 32) = false := by rw [beq_eq_false_iff_ne]; omega
        have HB : Hid (wTo s (p + k) = wTo s p) := wTo_skip s p k hall
        clear h32 hdec hall
        have hown1 := ownsRow_iterAt hown (k := w.heap.size) (by omega) s (p + k)
        have hbw1 := Lib.below_iterAt hbw (k := w.heap.size) (Nat.le_refl _) s (p + k)
        have hit1 := Lib.iterAt_heap wr w.heap.size s p (p + k) hit
        have HM : Hid (wr.iterPos w.heap.size = p) := iterPos_of hit
        clear hit hown hbw
        obtain ⟨wq, hwq⟩ : ∃ wq, wr.iterAt w.heap.size s (p + k) = wq := ⟨_, rfl⟩
        rw [hwq] at hown1 hbw1 hit1 hnx
        clear hwq
        go_wp2
        go_roundw
        case rel => exact ⟨p + k, q, L, hin, rfl, by show _ = _; rw [HB.out, HS.out], hown1, hbw1, hit1⟩
        case measure => rw [iterPos_of hit1, HM.out]; omega
    · have hnx : ∀ ty, (Instr.next (.pointer (some ⟨w.heap.size, 0, none⟩)) true ty).run Try.prog wr = .ok (.tuple #[.bool false]) wr := fun ty => Lib.run_next_end_at wr w.heap.size s p ty hit hlt
      have hps : Hid (p = s.size) := by show _ = _; omega
      have hqs : q ≤ s.size := by omega
      go_wp2_with fail
      refine (append32_any L _ _ w.heap.size (w.heap.size + 1) wr hown (by omega) (by omega) (by omega)).mono ?_
      rintro e w1 ⟨v', rfl, hown', hb', hk', hs'⟩
      rw [oneMore_add L s q s.size (Nat.le_refl _)] at hown'
      have e : splitAll s = addWord L s q s.size := by
        have e := HS.out
        rw [hps.out] at e
        unfold splitAll
        rw [e]
      rw [← e] at hown'
      clear e
      go_wp2
      go_ret
      exact ⟨_, rfl, ownsRow_mono hown' (by omega), hbw.trans hb'⟩

set_option maxHeartbeats 1600000 in
theorem parted27_any (s : ByteArray) (w : World) (hs : s.size ≤ 100000) :
    Calls Try.prog 27 #[.string s] w fun e w' => ∃ v, e = .returned v ∧ w'.ownsRow w.heap.size 9 1 v (splitAll s).length (strs (splitAll s)) ∧ Below w.heap.size w w' := by
  obtain ⟨i0, hi, hz0, hz1, hz2⟩ := info_parts Try.info9
  go_enter Try.func27, Try.ntmps27
  go_wp2
  go_loopw [3, 4, 5] (fun v st i wr => ∃ (p q : Nat) (L : List ByteArray), p ≤ s.size + 1 ∧ q ≤ p ∧ L.length ≤ p ∧ i = .int .i64 p ∧ st = .int .i64 q ∧ Hid ((p ≤ s.size ∧ wTo s p = (L, q)) ∨ (p = s.size + 1 ∧ L = splitAll s)) ∧ wr.ownsRow w.heap.size 9 1 v L.length (strs L) ∧ Below w.heap.size w wr) (fun _ _ i _ => s.size + 1 - (intOf i).toNat)
  case atStart => exact ⟨0, 0, [], Nat.zero_le _, Nat.le_refl _, Nat.le_refl _, rfl, rfl, .inl ⟨Nat.zero_le _, rfl⟩, World.ownsRow_nil _ _ _ _, Below.refl _ _⟩
  case round =>
    obtain ⟨p, q, L, hp, hq, hL, rfl, rfl, HS, hown, hbw⟩ := hrel
    have hsz : w.heap.size ≤ wr.heap.size := hbw.size
    by_cases hend : p = s.size + 1
    · have e : L = splitAll s := by rcases HS.out with h | h; omega; exact h.2
      have hnot : ¬ (p : Int) ≤ (s.size : Int) := by omega
      subst e
      clear hend
      go_wp2
      go_ret
      exact ⟨_, rfl, hown, hbw⟩
    · have HS2 : Hid (wTo s p = (L, q)) := by rcases HS.out with h | h; exact h.2; omega
      clear HS
      have hple : p ≤ s.size := by omega
      clear hp
      by_cases hps : p = s.size
      · have heq : (((p : Nat) : Int) == ((s.size : Nat) : Int)) = true := by rw [hps]; simp
        have HP : Hid (p = s.size) := hps
        have HE : Hid (splitAll s = addWord L s q p) := by
          have e := HS2.out
          show _ = _
          unfold splitAll
          rw [hps] at e
          rw [e, hps]
        clear hps hend
        by_cases hw : q < p
        · go_wp2_with (at_builtin; refine wpList_append_own _ rfl _ _ 22 rfl w.heap.size 9 i0 (.string ⟨#[]⟩) 1 16 Try.underlying22 hi hz0 hz1 hz2 rfl (by decide) _ _ _ rfl (hown.alloc _) ⟨wr.heap.size, 0, none⟩ 1 1 [.string (s.extract q p)] rfl rfl (new_one _ _ _) (strs_one [_]) (by unfold maxLen; omega) (by omega) (by simp; omega) ?_)
          intro v' w1 hown' hg _
          have R := step_own (Nat.le_refl _) hown hbw hsz hown' hg
          clear hown' hg hown hbw
          go_wp2
          go_roundw
          case rel => exact ⟨p + 1, p + 1, L ++ [s.extract q p], by omega, by omega, by simp; omega, by go_num, by go_num, .inr ⟨by rw [HP.out], by rw [HE.out, addWord_yes hw]⟩, R.1, R.2.1⟩
          case measure => simp [intOf]; omega
        · go_wp2
          go_roundw
          case rel => exact ⟨p + 1, p + 1, L, by omega, by omega, by omega, by go_num, by go_num, .inr ⟨by rw [HP.out], by rw [HE.out, addWord_no hw]⟩, hown, hbw⟩
          case measure => simp [intOf]; omega
      · have heq : (((p : Nat) : Int) == ((s.size : Nat) : Int)) = false := by rw [beq_eq_false_iff_ne]; omega
        have hlt : p < s.size := by omega
        clear hps hend hple
        by_cases h32 : s[p].toNat = 32
        · have hb : (((s[p].toNat : Nat) : Int) == 32) = true := by rw [h32]; rfl
          have HB : Hid (gb s p = 32) := by rw [← gb_eq s p hlt]; exact h32
          clear h32
          by_cases hw : q < p
          · go_wp2_with (at_builtin; refine wpList_append_own _ rfl _ _ 22 rfl w.heap.size 9 i0 (.string ⟨#[]⟩) 1 16 Try.underlying22 hi hz0 hz1 hz2 rfl (by decide) _ _ _ rfl (hown.alloc _) ⟨wr.heap.size, 0, none⟩ 1 1 [.string (s.extract q p)] rfl rfl (new_one _ _ _) (strs_one [_]) (by unfold maxLen; omega) (by omega) (by simp; omega) ?_)
            intro v' w1 hown' hg _
            have R := step_own (Nat.le_refl _) hown hbw hsz hown' hg
            clear hown' hg hown hbw
            go_wp2
            go_roundw
            case rel => exact ⟨p + 1, p + 1, L ++ [s.extract q p], by omega, by omega, by simp; omega, by go_num, by go_num, .inl ⟨by omega, by rw [wTo_sp HB.out, HS2.out, addWord_yes hw]⟩, R.1, R.2.1⟩
            case measure => simp [intOf]; omega
          · go_wp2
            go_roundw
            case rel => exact ⟨p + 1, p + 1, L, by omega, by omega, by omega, by go_num, by go_num, .inl ⟨by omega, by rw [wTo_sp HB.out, HS2.out, addWord_no hw]⟩, hown, hbw⟩
            case measure => simp [intOf]; omega
        · have hb : (((s[p].toNat : Nat) : Int) == 32) = false := by rw [beq_eq_false_iff_ne]; omega
          have HB : Hid (gb s p ≠ 32) := by rw [← gb_eq s p hlt]; exact h32
          clear h32
          go_wp2
          go_roundw
          case rel => exact ⟨p + 1, q, L, by omega, by omega, by omega, by go_num, rfl, .inl ⟨by omega, by rw [wTo_no HB.out, HS2.out]⟩, hown, hbw⟩
          case measure => simp [intOf]; omega
end Go.Proofs.Ytgdfipmdmgkidaa
