/- The contracts of the two ways to cut a text into its lines: the program's by runes, the document's by bytes. -/
import Derived.Test.YtgdfipmdmgkidaaWsize
import Derived.WalkSmall
namespace Go.Proofs.Ytgdfipmdmgkidaa
open Go.RowKit

theorem Try.info9 : (Try.prog.info? 9).map (fun i => (i.zero, i.size, i.bytes)) = some (some (.string ⟨#[]⟩), 1, 16) := by kernel_rfl

abbrev strs (L : List ByteArray) : List Value := L.map Value.string

theorem strs_one (L : List ByteArray) : ∀ u ∈ strs L, u.oneCell' = true := by
  intro u hu
  obtain ⟨_, _, rfl⟩ := List.mem_map.1 hu
  rfl
theorem strs_length (L : List ByteArray) : (strs L).length = L.length := by simp
theorem strs_snoc (L : List ByteArray) (x : ByteArray) : strs L ++ [.string x] = strs (L ++ [x]) := by simp
theorem new_one (w : World) (v : Value) (t : TypeId) : ∀ j u, [v][j]? = some u → (w.alloc (.cells #[v] t)).cell? ((⟨w.heap.size, 0, none⟩ : Addr).add j) = some u := by
  intro j u hj
  match j, hj with
  | 0, hj => simp at hj; subst hj; simp [Addr.add]
  | j + 1, hj => simp at hj

/-- What an append of one text to a row of the call's own leaves. -/
theorem step_own {B B' : Nat} {w wr w1 : World} {v v' : Value} {L : List ByteArray} {x : ByteArray} {o : Obj} (hB : B ≤ B') (hown : wr.ownsRow B' 9 1 v L.length (strs L)) (hbw : Below B w wr) (hsz : B ≤ wr.heap.size)
    (hown' : w1.ownsRow B' 9 1 v' (L.length + 1) (strs L ++ [.string x])) (hg : (wr.alloc o).grownBy w1 v.ownBlock) :
    w1.ownsRow B' 9 1 v' (L ++ [x]).length (strs (L ++ [x])) ∧ Below B w w1 ∧ (∀ k, k < B' → k < wr.heap.size → w1.heap[k]? = wr.heap[k]?) := by
  have hlt := hown.lt
  refine ⟨by rw [strs_snoc] at hown'; simpa using hown', (hbw.alloc hsz o).grown hg (by simp; omega) (fun k hk => by have := hlt k hk; omega), fun k h1 h2 => ?_⟩
  rw [hg.block k (by simp; omega) (fun e => by have := hlt k e.symm; omega)]
  exact Below.heap_alloc _ _ _ h2

theorem cut_end {s : ByteArray} {L : List ByteArray} {q : Nat} (h : stTo s s.size = (L, q)) (hq : q < s.size) : cutAll s = L ++ [s.extract q s.size] := by
  unfold cutAll; rw [h]; exact if_pos hq
theorem cut_end0 {s : ByteArray} {L : List ByteArray} {q : Nat} (h : stTo s s.size = (L, q)) (hq : ¬ q < s.size) : cutAll s = L := by
  unfold cutAll; rw [h]; exact if_neg hq

set_option maxHeartbeats 1600000 in
/-- The document's: byte by byte. -/
theorem cut22_any (s : ByteArray) (w : World) (hs : s.size ≤ 100000) :
    Calls Try.prog 22 #[.string s] w fun e w' => ∃ v, e = .returned v ∧ w'.ownsRow w.heap.size 9 1 v (cutAll s).length (strs (cutAll s)) ∧ Below w.heap.size w w' := by
  obtain ⟨i0, hi, hz0, hz1, hz2⟩ := info_parts Try.info9
  go_enter Try.func22, Try.ntmps22
  go_wp2
  go_loopw [3, 4, 5] (fun v st i wr => ∃ (p q : Nat) (L : List ByteArray), p ≤ s.size ∧ i = .int .i64 p ∧ st = .int .i64 q ∧ Hid (stTo s p = (L, q)) ∧ wr.ownsRow w.heap.size 9 1 v L.length (strs L) ∧ Below w.heap.size w wr) (fun _ _ i _ => s.size - (intOf i).toNat)
  case atStart => exact ⟨0, 0, [], Nat.zero_le _, rfl, rfl, rfl, World.ownsRow_nil _ _ _ _, Below.refl _ _⟩
  case round =>
    obtain ⟨p, q, L, hp, rfl, rfl, HS, hown, hbw⟩ := hrel
    have hq : q ≤ p := by have := (stTo_le s p).1; rw [HS.out] at this; exact this
    have hLq : L.length ≤ p := by have := (stTo_le s p).2; rw [HS.out] at this; exact this
    have hsz : w.heap.size ≤ wr.heap.size := hbw.size
    by_cases hlt : p < s.size
    · by_cases h10 : s[p].toNat = 10
      · have hb : (((s[p].toNat : Nat) : Int) == 10) = true := by rw [h10]; rfl
        have HB : Hid (gb s p = 10) := by rw [← gb_eq s p hlt]; exact h10
        clear h10
        go_wp2_with (at_builtin; refine wpList_append_own _ rfl _ _ 22 rfl w.heap.size 9 i0 (.string ⟨#[]⟩) 1 16 Try.underlying22 hi hz0 hz1 hz2 rfl (by decide) _ _ _ rfl (hown.alloc _) ⟨wr.heap.size, 0, none⟩ 1 1 [.string (s.extract q (p + 1))] rfl rfl ?c1 ?c2 ?c3 ?c4 ?c5 ?_)
        case c1 => exact new_one _ _ _
        case c2 => exact strs_one [_]
        case c3 => unfold maxLen; omega
        case c4 => omega
        case c5 => simp; omega
        intro v' w1 hown' hg _
        have R := step_own (Nat.le_refl _) hown hbw hsz hown' hg
        clear hown' hg hown hbw
        go_wp2
        go_roundw
        case rel => exact ⟨p + 1, p + 1, L ++ [s.extract q (p + 1)], by omega, by go_num, by go_num, by show _ = _; rw [stTo_nl HB.out, HS.out], R.1, R.2.1⟩
        case measure => simp [intOf]; omega
      · have hb : (((s[p].toNat : Nat) : Int) == 10) = false := by rw [beq_eq_false_iff_ne]; omega
        have HB : Hid (gb s p ≠ 10) := by rw [← gb_eq s p hlt]; exact h10
        clear h10
        go_wp2
        go_roundw
        case rel => exact ⟨p + 1, q, L, by omega, by go_num, rfl, by show _ = _; rw [stTo_no HB.out, HS.out], hown, hbw⟩
        case measure => simp [intOf]; omega
    · have hps : Hid (p = s.size) := by show _ = _; omega
      by_cases hql : q < s.size
      · go_wp2_with (at_builtin; refine wpList_append_own _ rfl _ _ 22 rfl w.heap.size 9 i0 (.string ⟨#[]⟩) 1 16 Try.underlying22 hi hz0 hz1 hz2 rfl (by decide) _ _ _ rfl (hown.alloc _) ⟨wr.heap.size, 0, none⟩ 1 1 [.string (s.extract q s.size)] rfl rfl ?d1 ?d2 ?d3 ?d4 ?d5 ?_)
        case d1 => exact new_one _ _ _
        case d2 => exact strs_one [_]
        case d3 => unfold maxLen; omega
        case d4 => omega
        case d5 => simp; omega
        intro v' w1 hown' hg _
        have R := step_own (Nat.le_refl _) hown hbw hsz hown' hg
        clear hown' hg hown hbw
        go_wp2
        go_ret
        have e := HS.out
        rw [hps.out] at e
        rw [cut_end e hql]
        exact ⟨_, rfl, R.1, R.2.1⟩
      · go_wp2
        go_ret
        have e := HS.out
        rw [hps.out] at e
        rw [cut_end0 e hql]
        exact ⟨_, rfl, hown, hbw⟩

theorem ownsRow_mono {w : World} {B B' : Nat} {e : TypeId} {size : Nat} {v : Value} {n : Nat} {xs : List Value} (h : w.ownsRow B' e size v n xs) (hB : B ≤ B') : w.ownsRow B e size v n xs := by
  refine ⟨h.1, ?_⟩
  rcases h.2 with h2 | ⟨g, cap, cur, a, b, c⟩
  · exact .inl h2
  · exact .inr ⟨g, cap, cur, a, by omega, c⟩

set_option maxRecDepth 100000 in
set_option maxHeartbeats 1600000 in
/-- The program's: rune by rune. -/
theorem cut19_any (s : ByteArray) (w : World) (hs : s.size ≤ 100000) :
    Calls Try.prog 19 #[.string s] w fun e w' => ∃ v, e = .returned v ∧ w'.ownsRow w.heap.size 9 1 v (cutAll s).length (strs (cutAll s)) ∧ Below w.heap.size w w' := by
  obtain ⟨i0, hi, hz0, hz1, hz2⟩ := info_parts Try.info9
  go_enter Try.func19, Try.ntmps19
  go_wp2
  go_loopw [3, 4] (fun v st wr => ∃ (p q : Nat) (L : List ByteArray), p ≤ s.size ∧ st = .int .i64 q ∧ Hid (stTo s p = (L, q)) ∧ wr.ownsRow (w.heap.size + 1) 9 1 v L.length (strs L) ∧ Below w.heap.size w wr ∧ wr.heap[w.heap.size]? = some (.stringIter s p)) (fun _ _ wr => s.size - wr.iterPos w.heap.size)
  case atStart => exact ⟨0, 0, [], Nat.zero_le _, rfl, rfl, World.ownsRow_nil _ _ _ _, (Below.refl _ _).alloc (Nat.le_refl _) _, World.iter_heap w s 0⟩
  case round =>
    obtain ⟨p, q, L, hp, rfl, HS, hown, hbw, hit⟩ := hrel
    have hq : q ≤ p := by have := (stTo_le s p).1; rw [HS.out] at this; exact this
    have hLq : L.length ≤ p := by have := (stTo_le s p).2; rw [HS.out] at this; exact this
    have hsz : w.heap.size < wr.heap.size := (Array.getElem?_eq_some_iff.1 hit).1
    by_cases hlt : p < s.size
    · by_cases h10 : gb s p = 10
      · have hnx : ∀ ty, (Instr.next (.pointer (some ⟨w.heap.size, 0, none⟩)) true ty).run Try.prog wr = .ok (.tuple #[.bool true, .int .i64 p, .int .i32 10]) (wr.iterAt w.heap.size s (p + 1)) := fun ty => by
          rw [Lib.run_next_any_at wr w.heap.size s p ty hit hlt, dec_at_low s p hlt (by omega), h10]; rfl
        have HB : Hid (gb s p = 10) := h10
        clear h10
        have hown1 := ownsRow_iterAt hown (k := w.heap.size) (by omega) s (p + 1)
        have hbw1 := Lib.below_iterAt hbw (k := w.heap.size) (Nat.le_refl _) s (p + 1)
        have hit1 := Lib.iterAt_heap wr w.heap.size s p (p + 1) hit
        have hsz1 : w.heap.size < (wr.iterAt w.heap.size s (p + 1)).heap.size := by rw [Lib.iterAt_size]; exact hsz
        have HM : Hid (wr.iterPos w.heap.size = p) := iterPos_of hit
        clear hit hown hbw
        obtain ⟨wq, hwq⟩ : ∃ wq, wr.iterAt w.heap.size s (p + 1) = wq := ⟨_, rfl⟩
        rw [hwq] at hown1 hbw1 hit1 hsz1 hnx
        clear hwq
        go_wp2_with (at_builtin; refine wpList_append_own _ rfl _ _ 22 rfl (w.heap.size + 1) 9 i0 (.string ⟨#[]⟩) 1 16 Try.underlying22 hi hz0 hz1 hz2 rfl (by decide) _ _ _ rfl (hown1.alloc _) ⟨wq.heap.size, 0, none⟩ 1 1 [.string (s.extract q (p + 1))] rfl rfl ?c1 ?c2 ?c3 ?c4 ?c5 ?_)
        case c1 => exact new_one _ _ _
        case c2 => exact strs_one [_]
        case c3 => unfold maxLen; omega
        case c4 => omega
        case c5 => simp; omega
        intro v' w1 hown' hg _
        have R := step_own (Nat.le_succ _) hown1 hbw1 (by omega) hown' hg
        clear hown' hg hown1 hbw1 hnx
        have hit2 := (R.2.2 w.heap.size (by omega) hsz1).trans hit1
        go_wp2
        go_roundw
        case rel => exact ⟨p + 1, p + 1, L ++ [s.extract q (p + 1)], by omega, by go_num, by show _ = _; rw [stTo_nl HB.out, HS.out], R.1, R.2.1, hit2⟩
        case measure => rw [iterPos_of hit2, HM.out]; omega
      · obtain ⟨r, k, hdec, hr, hk, hin, hall⟩ := dec_not s p 10 hlt (by omega) h10
        have hnx : ∀ ty, (Instr.next (.pointer (some ⟨w.heap.size, 0, none⟩)) true ty).run Try.prog wr = .ok (.tuple #[.bool true, .int .i64 p, .int .i32 r]) (wr.iterAt w.heap.size s (p + k)) := fun ty => by
          rw [Lib.run_next_any_at wr w.heap.size s p ty hit hlt, hdec]
        have hb : ((r : Int) == 10) = false := by rw [beq_eq_false_iff_ne]; omega
        have HB : Hid (stTo s (p + k) = stTo s p) := stTo_skip s p k hall
        clear h10 hdec hall
        have hown1 := ownsRow_iterAt hown (k := w.heap.size) (by omega) s (p + k)
        have hbw1 := Lib.below_iterAt hbw (k := w.heap.size) (Nat.le_refl _) s (p + k)
        have hit1 := Lib.iterAt_heap wr w.heap.size s p (p + k) hit
        have HM : Hid (wr.iterPos w.heap.size = p) := iterPos_of hit
        clear hit hown hbw
        obtain ⟨wq, hwq⟩ : ∃ wq, wr.iterAt w.heap.size s (p + k) = wq := ⟨_, rfl⟩
        rw [hwq] at hown1 hbw1 hit1 hnx
        clear hwq
        go_wp2
        go_roundw
        case rel => exact ⟨p + k, q, L, hin, rfl, by show _ = _; rw [HB.out, HS.out], hown1, hbw1, hit1⟩
        case measure => rw [iterPos_of hit1, HM.out]; omega
    · have hnx : ∀ ty, (Instr.next (.pointer (some ⟨w.heap.size, 0, none⟩)) true ty).run Try.prog wr = .ok (.tuple #[.bool false]) wr := fun ty => Lib.run_next_end_at wr w.heap.size s p ty hit hlt
      have hps : Hid (p = s.size) := by show _ = _; omega
      by_cases hql : q < s.size
      · go_wp2_with (at_builtin; refine wpList_append_own _ rfl _ _ 22 rfl (w.heap.size + 1) 9 i0 (.string ⟨#[]⟩) 1 16 Try.underlying22 hi hz0 hz1 hz2 rfl (by decide) _ _ _ rfl (hown.alloc _) ⟨wr.heap.size, 0, none⟩ 1 1 [.string (s.extract q s.size)] rfl rfl ?d1 ?d2 ?d3 ?d4 ?d5 ?_)
        case d1 => exact new_one _ _ _
        case d2 => exact strs_one [_]
        case d3 => unfold maxLen; omega
        case d4 => omega
        case d5 => simp; omega
        intro v' w1 hown' hg _
        have R := step_own (Nat.le_succ _) hown hbw (by omega) hown' hg
        clear hown' hg hown hbw
        go_wp2
        go_ret
        have e := HS.out
        rw [hps.out] at e
        rw [cut_end e hql]
        exact ⟨_, rfl, ownsRow_mono R.1 (by omega), R.2.1⟩
      · go_wp2
        go_ret
        have e := HS.out
        rw [hps.out] at e
        rw [cut_end0 e hql]
        exact ⟨_, rfl, ownsRow_mono hown (by omega), hbw⟩
end Go.Proofs.Ytgdfipmdmgkidaa
