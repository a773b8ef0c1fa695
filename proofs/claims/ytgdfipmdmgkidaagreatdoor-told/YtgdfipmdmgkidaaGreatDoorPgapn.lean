/- The contract of the program's Gaps, where nothing is written. -/
import Derived.Test.YtgdfipmdmgkidaaGreatDoorPgapw
import Derived.Test.YtgdfipmdmgkidaaGreatDoorPtab
import Derived.Test.YtgdfipmdmgkidaaGreatDoorShelf
namespace Go.Proofs.YtgdfipmdmgkidaaGreatDoor
open Go.RowKit

set_option maxRecDepth 100000 in
set_option maxHeartbeats 3200000 in
theorem gaps186_none (O : List ByteArray) (hO : O.length ≤ 10000) (oa : Option Addr) (oc : Nat) (w : World) (hvo : View w oa O)
    (hc : Calls Tryz.prog 269 #[.slice oa O.length oc, .slice none 0 0] w fun e w' => ∃ v, e = .returned v ∧ TV w' v O.length 0 (CC O []) ∧ Below w.heap.size w w') :
    Calls Tryz.prog 249 #[.slice oa O.length oc, .slice none 0 0] w fun e w' => ∃ v, e = .returned v ∧ GapsOut O [] w w' v ∧ Below w.heap.size w w' := by
  obtain ⟨i0, hi, hz0, hz1, hz2⟩ := info_parts Tryz.info324
  have HC : Hid (Calls Tryz.prog 269 #[.slice oa O.length oc, .slice none 0 0] w fun e w' => ∃ v, e = .returned v ∧ TV w' v O.length 0 (CC O []) ∧ Below w.heap.size w w') := hc
  clear hc
  go_enter Tryz.func249, Tryz.ntmps249
  go_wp2_with fail
  refine HC.out.mono ?_
  rintro e w1 ⟨cv, rfl, htv, hb1⟩
  clear HC
  obtain ⟨tb, to, tc, rfl⟩ : ∃ tb to tc, cv = .slice (some ⟨tb, to, none⟩) (O.length + 1) tc := by
    obtain ⟨tb, to, tc, rfl, _⟩ := htv
    exact ⟨tb, to, tc, rfl⟩
  have hvo1 := hvo.below hb1
  have hs1 := hb1.size
  obtain ⟨w2, hw2⟩ : ∃ w2, w2 = w1.alloc (.cells #[.slice oa O.length oc, .slice none 0 0, .slice (some ⟨tb, to, none⟩) (O.length + 1) tc] 349) := ⟨_, rfl⟩
  have hb2 : Below w1.heap.size w1 w2 := by rw [hw2]; exact (Below.refl _ _).alloc (Nat.le_refl _) _
  have hk2 : w2.heap[w1.heap.size]? = some (.cells #[.slice oa O.length oc, .slice none 0 0, .slice (some ⟨tb, to, none⟩) (O.length + 1) tc] 349 (0, 0)) := by rw [hw2]; exact (MapKept.heap_alloc w1 _).1
  have hs2 : w1.heap.size < w2.heap.size ∧ w2.heap.size ≤ w1.heap.size + 1 := by rw [hw2]; simp
  have HT : Hid (TV w2 (.slice (some ⟨tb, to, none⟩) (O.length + 1) tc) O.length 0 (CC O [])) := htv.below hb2 (Nat.le_refl _)
  have HVO : Hid (View w2 oa O) := hvo1.below hb2
  clear htv hvo hvo1
  go_wp2
  rw [← hw2]
  clear hw2
  go_loopw [6, 7, 8] (fun v x y wr => ∃ (i j : Nat) (G : List Gp), i ≤ O.length ∧ j ≤ 0 ∧ x = .int .i64 i ∧ y = .int .i64 j ∧ Hid (GV wr w2.heap.size v [] G) ∧ G.length ≤ i ∧ Hid (∀ rest, GapsR O [] i j rest → GapsR O [] 0 0 (G.map (fun g : Gp => g.q) ++ rest)) ∧ Below w2.heap.size w2 wr) (fun _ x _ _ => O.length + 1 - (intOf x).toNat)
  case atStart => exact ⟨0, 0, [], Nat.zero_le _, Nat.zero_le _, rfl, rfl, ⟨World.ownsRow_nil _ _ _ _, fun g hg => by cases hg⟩, Nat.le_refl _, fun rest h => h, Below.refl _ _⟩
  case round =>
    obtain ⟨i, j, G, hi', hj', rfl, rfl, HG, hGl, HRR, hbw⟩ := hrel
    have hszr := hbw.size
    have hkr := (hbw.block _ (by omega)).trans hk2
    obtain ⟨d0, d1, d2⟩ := cells3_at hkr
    obtain ⟨p1, p2, p3, p4, p5⟩ := nxt_props O [] i j hi' (by simpa using hj')
    simp only [List.length_nil] at p4 p5
    obtain ⟨k, l, hkl⟩ : ∃ k l, nxt O [] i j = (k, l) := ⟨_, _, rfl⟩
    rw [hkl] at p1 p2 p3 p4 p5
    simp only at p1 p2 p3 p4 p5
    have HNX : Hid (Calls Tryz.prog 270 #[.agg #[.slice oa O.length oc, .slice none 0 0, .slice (some ⟨tb, to, none⟩) (O.length + 1) tc], .int .i64 i, .int .i64 j] wr fun e w' => e = .returned (.tuple #[.int .i64 (k : Nat), .int .i64 (l : Nat)]) ∧ Below wr.heap.size wr w') := by
      have h := next198_any O [] i j hi' (by simpa using hj') (by omega) (by simp) oa none oc 0 _ wr (HT.out.below hbw (Nat.le_refl _)) (HVO.out.below hbw) (.inl rfl)
      rw [hkl] at h
      exact h
    have HKL : Hid (nxt O [] i j = (k, l)) := hkl
    clear hkl
    go_wp2_with fail
    refine HNX.out.mono ?_
    rintro e w3 ⟨rfl, hb3⟩
    clear HNX
    have HG3 : Hid (GV w3 w2.heap.size u6 [] G) := HG.out.below hb3
    have hbw3 : Below w2.heap.size w2 w3 := hbw.trans (hb3.mono hszr)
    have hs3 := hb3.size
    clear HG hb3 d0 d1 d2
    have hbw03 : Below w.heap.size w w3 := (hb1.trans (hb2.mono hs1)).trans (hbw3.mono (by omega))
    by_cases hgap : i < k ∨ j < l
    · have HGO : Hid (gapOf i k j l = [⟨i, k, j, l⟩]) := by show _ = _; unfold gapOf; rw [if_pos hgap]
      obtain rfl : j = 0 := by omega
      obtain rfl : l = 0 := by omega
      have q1 : i < k := by omega
      have q2 : decide (i < k) = true := by simpa using q1
      have HCL : Hid (Calls Tryz.prog 271 #[.slice none 0 0] w3 fun e w' => ∃ v, e = .returned v ∧ w'.ownsRow w3.heap.size 9 1 v ([] : List ByteArray).length (strs []) ∧ Below w3.heap.size w3 w') := by
        refine (Tryz.slices_Clone_string_nil 0 0 w3).mono ?_
        rintro e w' ⟨rfl, rfl⟩
        exact ⟨_, rfl, World.ownsRow_nil _ _ _ _, Below.refl _ _⟩
      clear hgap
      go_wp2_with fail
      refine HCL.out.mono ?_
      rintro e w4 ⟨lv, rfl, hlo, hb4⟩
      clear HCL
      have hs4 := hb4.size
      obtain ⟨la, lc, hle⟩ := own_shape hlo
      have hG4 := HG3.out.below hb4
      have hG5 : GV (w4.alloc (.cells #[.int .i64 (i : Nat), .int .i64 (k : Nat), lv] 324)) w2.heap.size u6 [] G := hG4.below ((Below.refl _ _).alloc (Nat.le_refl _) _)
      have hl5 : (w4.alloc (.cells #[.int .i64 (i : Nat), .int .i64 (k : Nat), lv] 324)).ownsRow w2.heap.size 9 1 lv (linesAt [] ⟨i, k, 0, 0⟩).length (strs (linesAt [] ⟨i, k, 0, 0⟩)) := ownsRow_mono (hlo.alloc _) (by omega)
      have HL5 : Hid ((w4.alloc (.cells #[.int .i64 (i : Nat), .int .i64 (k : Nat), lv] 324)).ownsRow w2.heap.size 9 1 lv (linesAt [] ⟨i, k, 0, 0⟩).length (strs (linesAt [] ⟨i, k, 0, 0⟩))) := hl5
      have HG5 : Hid (GV (w4.alloc (.cells #[.int .i64 (i : Nat), .int .i64 (k : Nat), lv] 324)) w2.heap.size u6 [] G) := hG5
      have hrow5 := hG5.row
      have hnew := new_block3 w4 (.int .i64 (i : Nat)) (.int .i64 (k : Nat)) lv 324
      have hb5 : Below w2.heap.size w2 w4 := hbw3.trans (hb4.mono (by omega))
      have hone : ∀ u ∈ [Value.int .i64 (i : Nat), .int .i64 (k : Nat), lv], u.oneCell' = true := by
        intro u hu
        simp only [List.mem_cons, List.not_mem_nil, or_false] at hu
        rcases hu with rfl | rfl | rfl
        · rfl
        · rfl
        · rw [hle]; rfl
      obtain ⟨ln, hln'⟩ : ∃ n, ([] : List ByteArray).length = n := ⟨_, rfl⟩
      rw [hln'] at hle
      subst hle
      clear hl5 hG5 hG4 hlo hln' HG3
      go_wp2_with (at_builtin; refine wpList_append_own _ rfl _ _ 321 rfl w2.heap.size 324 i0 _ 3 40 Tryz.underlying321 hi hz0 hz1 hz2 rfl (by decide) _ _ _ rfl hrow5 ⟨w4.heap.size, 0, none⟩ 1 1 [.int .i64 (i : Nat), .int .i64 (k : Nat), .slice la ln lc] rfl rfl hnew hone (by unfold maxLen; omega) (by omega) (by simp; omega) ?_)
      intro v' w6 hown' hg _
      have HG6 : Hid (GV w6 w2.heap.size v' [] (G ++ [(⟨⟨i, k, 0, 0⟩, .slice la ln lc⟩ : Gp)])) := HG5.out.step hg hown' HL5.out
      have hb6 : Below w2.heap.size w2 w6 := step_any (B := w2.heap.size) (Nat.le_refl _) hrow5 (hb5.alloc (by omega) _) (by simp; omega) hg
      have hb06 : Below w.heap.size w w6 := (hb1.trans (hb2.mono hs1)).trans (hb6.mono (by omega))
      clear hown' hg hrow5 hnew hone HG5 HL5
      by_cases hend : k = O.length
      · have hke : ((k : Int) == (O.length : Int)) = true := by simp; omega
        have hke2 : decide (k = O.length) = true := by simpa using hend
        have HF : Hid (GapsOut O [] w w6 v') := ⟨_, HG6.out.mono (by omega), by rw [List.map_append]; exact HRR.out _ (by have := GapsR.stop HKL.out hend; rw [HGO.out] at this; exact this)⟩
        clear HG6 HRR
        go_wp2
        go_ret
        exact ⟨_, rfl, HF.out, hb06⟩
      · have hke : ((k : Int) == (O.length : Int)) = false := by rw [beq_eq_false_iff_ne]; omega
        have hke2 : decide (k = O.length) = false := by simpa using hend
        have hk3 : k < O.length := by omega
        have hl3 : 0 < 0 := by
          rcases p5 with h | h
          · exact h.2.1
          · omega
        have HF : Hid (∀ rest, GapsR O [] (k + 1) (0 + 1) rest → GapsR O [] 0 0 ((G ++ [(⟨⟨i, k, 0, 0⟩, .slice la ln lc⟩ : Gp)]).map (fun g : Gp => g.q) ++ rest)) := fun rest hr => by
          have h1 := GapsR.go HKL.out hk3 hr
          rw [HGO.out] at h1
          have h2 := HRR.out _ h1
          simpa using h2
        clear HRR p5
        go_wp2
        go_roundw
        case rel => exact ⟨k + 1, 0 + 1, _, by omega, by omega, by go_num, by go_num, HG6, by simp; omega, HF, hb6⟩
        case measure => simp [intOf]; omega
    · have HGO : Hid (gapOf i k j l = []) := by show _ = _; unfold gapOf; rw [if_neg hgap]
      have q1 : decide (i < k) = false := by simp; omega
      have q2 : decide (j < l) = false := by simp; omega
      by_cases hend : k = O.length
      · have hke : ((k : Int) == (O.length : Int)) = true := by simp; omega
        have hke2 : decide (k = O.length) = true := by simpa using hend
        have HF : Hid (GapsOut O [] w w3 u6) := ⟨_, HG3.out.mono (by omega), by have h1 := GapsR.stop HKL.out hend; rw [HGO.out] at h1; simpa using HRR.out _ h1⟩
        clear HG3 HRR
        go_wp2
        go_ret
        exact ⟨_, rfl, HF.out, hbw03⟩
      · have hke : ((k : Int) == (O.length : Int)) = false := by rw [beq_eq_false_iff_ne]; omega
        have hke2 : decide (k = O.length) = false := by simpa using hend
        have hk3 : k < O.length := by omega
        have hl3 : l < 0 := by
          rcases p5 with h | h
          · exact h.2.1
          · omega
        have HF : Hid (∀ rest, GapsR O [] (k + 1) (l + 1) rest → GapsR O [] 0 0 (G.map (fun g : Gp => g.q) ++ rest)) := fun rest hr => by
          have h1 := GapsR.go HKL.out hk3 hr
          rw [HGO.out] at h1
          exact HRR.out _ h1
        clear HRR p5
        go_wp2
        go_roundw
        case rel => exact absurd hl3 (by omega)
        case measure => simp [intOf]; omega
end Go.Proofs.YtgdfipmdmgkidaaGreatDoor
