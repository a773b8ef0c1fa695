/- The contract of the program's Gaps. -/
import Derived.Test.YtgdfipmdmgkidaaGreatDoorPgaps
namespace Go.Proofs.YtgdfipmdmgkidaaGreatDoor
open Go.RowKit

theorem Tryz.info324 : (Tryz.prog.info? 324).map (fun i => (i.zero, i.size, i.bytes)) = some (some (.agg #[.int .i64 0, .int .i64 0, .slice none 0 0]), 3, 40) := by kernel_rfl

theorem new_block3 (w : World) (x y z : Value) (t : TypeId) : ∀ j u, [x, y, z][j]? = some u → (w.alloc (.cells #[x, y, z] t)).cell? ((⟨w.heap.size, 0, none⟩ : Addr).add j) = some u := by
  intro j u hj
  obtain ⟨a, b, c⟩ := cells3_at (MapKept.heap_alloc w (.cells #[x, y, z] t)).1
  match j, hj with
  | 0, hj => simp at hj; subst hj; exact a
  | 1, hj => simp at hj; subst hj; exact b
  | 2, hj => simp at hj; subst hj; exact c
  | j + 3, hj => simp at hj

theorem GV.mono {w : World} {B B' : Nat} {v : Value} {N : List ByteArray} {G : List Gp} (h : GV w B' v N G) (hB : B ≤ B') : GV w B v N G := ⟨ownsRow_mono h.row hB, fun g hg => ownsRow_mono (h.lines g hg) hB⟩

def GapsOut (O N : List ByteArray) (w w' : World) (v : Value) : Prop := ∃ G : List Gp, GV w' w.heap.size v N G ∧ GapsR O N 0 0 (G.map (·.q))

set_option maxRecDepth 100000 in
set_option maxHeartbeats 3200000 in
theorem gaps186_some (O N : List ByteArray) (hO : O.length ≤ 10000) (hN : N.length ≤ 10000) (oa : Option Addr) (oc b o nc : Nat) (w : World) (hvo : View w oa O) (hvn : View w (some ⟨b, o, none⟩) N) (hb : b < w.heap.size) (hnc : N.length ≤ nc)
    (hc : Calls Tryz.prog 269 #[.slice oa O.length oc, .slice (some ⟨b, o, none⟩) N.length nc] w fun e w' => ∃ v, e = .returned v ∧ TV w' v O.length N.length (CC O N) ∧ Below w.heap.size w w') :
    Calls Tryz.prog 249 #[.slice oa O.length oc, .slice (some ⟨b, o, none⟩) N.length nc] w fun e w' => ∃ v, e = .returned v ∧ GapsOut O N w w' v ∧ Below w.heap.size w w' := by
  obtain ⟨i0, hi, hz0, hz1, hz2⟩ := info_parts Tryz.info324
  have HC : Hid (Calls Tryz.prog 269 #[.slice oa O.length oc, .slice (some ⟨b, o, none⟩) N.length nc] w fun e w' => ∃ v, e = .returned v ∧ TV w' v O.length N.length (CC O N) ∧ Below w.heap.size w w') := hc
  clear hc
  go_enter Tryz.func249, Tryz.ntmps249
  go_wp2_with fail
  refine HC.out.mono ?_
  rintro e w1 ⟨cv, rfl, htv, hb1⟩
  clear HC
  obtain ⟨tb, to, tc, rfl⟩ : ∃ tb to tc, cv = .slice (some ⟨tb, to, none⟩) (O.length + 1) tc := by
    obtain ⟨tb, to, tc, rfl, _⟩ := htv
    exact ⟨tb, to, tc, rfl⟩
  have hvo1 := hvo.below hb1
  have hvn1 := hvn.below hb1
  have hs1 := hb1.size
  obtain ⟨w2, hw2⟩ : ∃ w2, w2 = w1.alloc (.cells #[.slice oa O.length oc, .slice (some ⟨b, o, none⟩) N.length nc, .slice (some ⟨tb, to, none⟩) (O.length + 1) tc] 349) := ⟨_, rfl⟩
  have hb2 : Below w1.heap.size w1 w2 := by rw [hw2]; exact (Below.refl _ _).alloc (Nat.le_refl _) _
  have hk2 : w2.heap[w1.heap.size]? = some (.cells #[.slice oa O.length oc, .slice (some ⟨b, o, none⟩) N.length nc, .slice (some ⟨tb, to, none⟩) (O.length + 1) tc] 349 (0, 0)) := by rw [hw2]; exact (MapKept.heap_alloc w1 _).1
  have hs2 : w1.heap.size < w2.heap.size ∧ w2.heap.size ≤ w1.heap.size + 1 := by rw [hw2]; simp
  have HT : Hid (TV w2 (.slice (some ⟨tb, to, none⟩) (O.length + 1) tc) O.length N.length (CC O N)) := htv.below hb2 (Nat.le_refl _)
  have HVO : Hid (View w2 oa O) := hvo1.below hb2
  have HVN : Hid (View w2 (some ⟨b, o, none⟩) N) := hvn1.below hb2
  clear htv hvo hvn hvo1 hvn1
  go_wp2
  rw [← hw2]
  clear hw2
  go_loopw [6, 7, 8] (fun v x y wr => ∃ (i j : Nat) (G : List Gp), i ≤ O.length ∧ j ≤ N.length ∧ x = .int .i64 i ∧ y = .int .i64 j ∧ Hid (GV wr w2.heap.size v N G) ∧ G.length ≤ i ∧ Hid (∀ rest, GapsR O N i j rest → GapsR O N 0 0 (G.map (fun g : Gp => g.q) ++ rest)) ∧ Below w2.heap.size w2 wr) (fun _ x _ _ => O.length + 1 - (intOf x).toNat)
  case atStart => exact ⟨0, 0, [], Nat.zero_le _, Nat.zero_le _, rfl, rfl, ⟨World.ownsRow_nil _ _ _ _, fun g hg => by cases hg⟩, Nat.le_refl _, fun rest h => h, Below.refl _ _⟩
  case round =>
    obtain ⟨i, j, G, hi', hj', rfl, rfl, HG, hGl, HRR, hbw⟩ := hrel
    have hszr := hbw.size
    have hkr := (hbw.block _ (by omega)).trans hk2
    obtain ⟨d0, d1, d2⟩ := cells3_at hkr
    obtain ⟨p1, p2, p3, p4, p5⟩ := nxt_props O N i j hi' hj'
    obtain ⟨k, l, hkl⟩ : ∃ k l, nxt O N i j = (k, l) := ⟨_, _, rfl⟩
    rw [hkl] at p1 p2 p3 p4 p5
    simp only at p1 p2 p3 p4 p5
    have HNX : Hid (Calls Tryz.prog 270 #[.agg #[.slice oa O.length oc, .slice (some ⟨b, o, none⟩) N.length nc, .slice (some ⟨tb, to, none⟩) (O.length + 1) tc], .int .i64 i, .int .i64 j] wr fun e w' => e = .returned (.tuple #[.int .i64 (k : Nat), .int .i64 (l : Nat)]) ∧ Below wr.heap.size wr w') := by
      have h := next198_any O N i j hi' hj' (by omega) (by omega) oa (some ⟨b, o, none⟩) oc nc _ wr (HT.out.below hbw (Nat.le_refl _)) (HVO.out.below hbw) (HVN.out.below hbw)
      rw [hkl] at h
      exact h
    have HKL : Hid (nxt O N i j = (k, l)) := hkl
    clear hkl
    go_wp2_with fail
    refine HNX.out.mono ?_
    rintro e w3 ⟨rfl, hb3⟩
    clear HNX
    have HG3 : Hid (GV w3 w2.heap.size u6 N G) := HG.out.below hb3
    have hbw3 : Below w2.heap.size w2 w3 := hbw.trans (hb3.mono hszr)
    have hs3 := hb3.size
    clear HG hb3 d0 d1 d2
    have hbw03 : Below w.heap.size w w3 := (hb1.trans (hb2.mono hs1)).trans (hbw3.mono (by omega))
    by_cases hgap : i < k ∨ j < l
    · have HGO : Hid (gapOf i k j l = [⟨i, k, j, l⟩]) := by show _ = _; unfold gapOf; rw [if_pos hgap]
      by_cases hjn : j < nc
      · have hjl : (j : Int) ≤ (l : Int) := by omega
        have hln : (l : Int) ≤ (nc : Int) := by omega
        have hln2 : l ≤ nc := by omega
        have hjn2 : (j : Int) < (nc : Int) := by omega
        have hjn3 : nc - j ≠ 0 := by omega
        have HCL : Hid (Calls Tryz.prog 271 #[.slice (some ⟨b, o + j, none⟩) (l - j) (nc - j)] w3 fun e w' => ∃ v, e = .returned v ∧ w'.ownsRow w3.heap.size 9 1 v ((N.take l).drop j).length (strs ((N.take l).drop j)) ∧ Below w3.heap.size w3 w') := clone199_part N j l p3 p4 b o nc w3 (by omega) (HVN.out.below hbw3) (by omega)
        have hcase : (i < k ∧ decide (i < k) = true) ∨ (decide (i < k) = false ∧ j < l ∧ decide (j < l) = true) := by
          by_cases h : i < k
          · exact .inl ⟨h, by simpa using h⟩
          · exact .inr ⟨by simpa using h, by omega, by simp; omega⟩
        clear hgap
        rcases hcase with ⟨q1, q2⟩ | ⟨q1, q2, q3⟩
        all_goals
          go_wp2_with fail
          refine HCL.out.mono ?_
          rintro e w4 ⟨lv, rfl, hlo, hb4⟩
          clear HCL
          have hs4 := hb4.size
          obtain ⟨la, lc, hle⟩ := own_shape hlo
          have hG4 := HG3.out.below hb4
          have hG5 : GV (w4.alloc (.cells #[.int .i64 (i : Nat), .int .i64 (k : Nat), lv] 324)) w2.heap.size u6 N G := hG4.below ((Below.refl _ _).alloc (Nat.le_refl _) _)
          have hl5 : (w4.alloc (.cells #[.int .i64 (i : Nat), .int .i64 (k : Nat), lv] 324)).ownsRow w2.heap.size 9 1 lv (linesAt N ⟨i, k, j, l⟩).length (strs (linesAt N ⟨i, k, j, l⟩)) := ownsRow_mono (hlo.alloc _) (by omega)
          have HL5 : Hid ((w4.alloc (.cells #[.int .i64 (i : Nat), .int .i64 (k : Nat), lv] 324)).ownsRow w2.heap.size 9 1 lv (linesAt N ⟨i, k, j, l⟩).length (strs (linesAt N ⟨i, k, j, l⟩))) := hl5
          have HG5 : Hid (GV (w4.alloc (.cells #[.int .i64 (i : Nat), .int .i64 (k : Nat), lv] 324)) w2.heap.size u6 N G) := hG5
          have hrow5 := hG5.row
          have hnew := new_block3 w4 (.int .i64 (i : Nat)) (.int .i64 (k : Nat)) lv 324
          have hb5 : Below w2.heap.size w2 w4 := hbw3.trans (hb4.mono (by omega))
          have hone : ∀ u ∈ [Value.int .i64 (i : Nat), .int .i64 (k : Nat), lv], u.oneCell' = true := by
            intro u hu
            simp only [List.mem_cons, List.not_mem_nil, or_false] at hu
            rcases hu with rfl | rfl | rfl
            · rfl
            · rfl
            · rw [hle]; rfl
          obtain ⟨ln, hln'⟩ : ∃ n, ((N.take l).drop j).length = n := ⟨_, rfl⟩
          rw [hln'] at hle
          subst hle
          clear hl5 hG5 hG4 hlo hln' HG3
          go_wp2_with (at_builtin; refine wpList_append_own _ rfl _ _ 321 rfl w2.heap.size 324 i0 _ 3 40 Tryz.underlying321 hi hz0 hz1 hz2 rfl (by decide) _ _ _ rfl hrow5 ⟨w4.heap.size, 0, none⟩ 1 1 [.int .i64 (i : Nat), .int .i64 (k : Nat), .slice la ln lc] rfl rfl hnew hone (by unfold maxLen; omega) (by omega) (by simp; omega) ?_)
          intro v' w6 hown' hg _
          have HG6 : Hid (GV w6 w2.heap.size v' N (G ++ [(⟨⟨i, k, j, l⟩, .slice la ln lc⟩ : Gp)])) := HG5.out.step hg hown' HL5.out
          have hb6 : Below w2.heap.size w2 w6 := step_any (B := w2.heap.size) (Nat.le_refl _) hrow5 (hb5.alloc (by omega) _) (by simp; omega) hg
          have hb06 : Below w.heap.size w w6 := (hb1.trans (hb2.mono hs1)).trans (hb6.mono (by omega))
          clear hown' hg hrow5 hnew hone HG5 HL5
          by_cases hend : k = O.length
          · have hke : ((k : Int) == (O.length : Int)) = true := by simp; omega
            have hke2 : decide (k = O.length) = true := by simpa using hend
            have HF : Hid (GapsOut O N w w6 v') := ⟨_, HG6.out.mono (by omega), by rw [List.map_append]; exact HRR.out _ (by have := GapsR.stop HKL.out hend; rw [HGO.out] at this; exact this)⟩
            clear HG6 HRR
            go_wp2
            go_ret
            exact ⟨_, rfl, HF.out, hb06⟩
          · have hke : ((k : Int) == (O.length : Int)) = false := by rw [beq_eq_false_iff_ne]; omega
            have hke2 : decide (k = O.length) = false := by simpa using hend
            have hk3 : k < O.length := by omega
            have hl3 : l < N.length := by
              rcases p5 with h | h
              · exact h.2.1
              · omega
            have HF : Hid (∀ rest, GapsR O N (k + 1) (l + 1) rest → GapsR O N 0 0 ((G ++ [(⟨⟨i, k, j, l⟩, .slice la ln lc⟩ : Gp)]).map (fun g : Gp => g.q) ++ rest)) := fun rest hr => by
              have h1 := GapsR.go HKL.out hk3 hr
              rw [HGO.out] at h1
              have h2 := HRR.out _ h1
              simpa using h2
            clear HRR p5
            go_wp2
            go_roundw
            case rel => exact ⟨k + 1, l + 1, _, by omega, by omega, by go_num, by go_num, HG6, by simp; omega, HF, hb6⟩
            case measure => simp [intOf]; omega
      · obtain rfl : nc = j := by omega
        obtain rfl : l = nc := by omega
        have q1 : i < k := by omega
        have q2 : decide (i < k) = true := by simpa using q1
        have hself : l - l = 0 := Nat.sub_self _
        have HCL : Hid (Calls Tryz.prog 271 #[.slice (some ⟨b, o, none⟩) 0 0] w3 fun e w' => ∃ v, e = .returned v ∧ w'.ownsRow w3.heap.size 9 1 v ((N.take l).drop l).length (strs ((N.take l).drop l)) ∧ Below w3.heap.size w3 w') := by
          have h := clone199_part [] 0 0 (Nat.le_refl _) (Nat.le_refl _) b o 0 w3 (by simp) (.inl rfl) (by omega)
          have e : (N.take l).drop l = [] := by rw [List.drop_eq_nil_iff, List.length_take]; omega
          rw [e]
          show Calls _ _ _ _ _
          simpa using h
        clear hgap hjn
        go_wp2_with fail
        refine HCL.out.mono ?_
        rintro e w4 ⟨lv, rfl, hlo, hb4⟩
        clear HCL
        have hs4 := hb4.size
        obtain ⟨la, lc, hle⟩ := own_shape hlo
        have hG4 := HG3.out.below hb4
        have hG5 : GV (w4.alloc (.cells #[.int .i64 (i : Nat), .int .i64 (k : Nat), lv] 324)) w2.heap.size u6 N G := hG4.below ((Below.refl _ _).alloc (Nat.le_refl _) _)
        have hl5 : (w4.alloc (.cells #[.int .i64 (i : Nat), .int .i64 (k : Nat), lv] 324)).ownsRow w2.heap.size 9 1 lv (linesAt N ⟨i, k, l, l⟩).length (strs (linesAt N ⟨i, k, l, l⟩)) := ownsRow_mono (hlo.alloc _) (by omega)
        have HL5 : Hid ((w4.alloc (.cells #[.int .i64 (i : Nat), .int .i64 (k : Nat), lv] 324)).ownsRow w2.heap.size 9 1 lv (linesAt N ⟨i, k, l, l⟩).length (strs (linesAt N ⟨i, k, l, l⟩))) := hl5
        have HG5 : Hid (GV (w4.alloc (.cells #[.int .i64 (i : Nat), .int .i64 (k : Nat), lv] 324)) w2.heap.size u6 N G) := hG5
        have hrow5 := hG5.row
        have hnew := new_block3 w4 (.int .i64 (i : Nat)) (.int .i64 (k : Nat)) lv 324
        have hb5 : Below w2.heap.size w2 w4 := hbw3.trans (hb4.mono (by omega))
        have hone : ∀ u ∈ [Value.int .i64 (i : Nat), .int .i64 (k : Nat), lv], u.oneCell' = true := by
          intro u hu
          simp only [List.mem_cons, List.not_mem_nil, or_false] at hu
          rcases hu with rfl | rfl | rfl
          · rfl
          · rfl
          · rw [hle]; rfl
        obtain ⟨ln, hln'⟩ : ∃ n, ((N.take l).drop l).length = n := ⟨_, rfl⟩
        rw [hln'] at hle
        subst hle
        clear hl5 hG5 hG4 hlo hln' HG3
        go_wp2_with (at_builtin; refine wpList_append_own _ rfl _ _ 321 rfl w2.heap.size 324 i0 _ 3 40 Tryz.underlying321 hi hz0 hz1 hz2 rfl (by decide) _ _ _ rfl hrow5 ⟨w4.heap.size, 0, none⟩ 1 1 [.int .i64 (i : Nat), .int .i64 (k : Nat), .slice la ln lc] rfl rfl hnew hone (by unfold maxLen; omega) (by omega) (by simp; omega) ?_)
        intro v' w6 hown' hg _
        have HG6 : Hid (GV w6 w2.heap.size v' N (G ++ [(⟨⟨i, k, l, l⟩, .slice la ln lc⟩ : Gp)])) := HG5.out.step hg hown' HL5.out
        have hb6 : Below w2.heap.size w2 w6 := step_any (B := w2.heap.size) (Nat.le_refl _) hrow5 (hb5.alloc (by omega) _) (by simp; omega) hg
        have hb06 : Below w.heap.size w w6 := (hb1.trans (hb2.mono hs1)).trans (hb6.mono (by omega))
        clear hown' hg hrow5 hnew hone HG5 HL5
        by_cases hend : k = O.length
        · have hke : ((k : Int) == (O.length : Int)) = true := by simp; omega
          have hke2 : decide (k = O.length) = true := by simpa using hend
          have HF : Hid (GapsOut O N w w6 v') := ⟨_, HG6.out.mono (by omega), by rw [List.map_append]; exact HRR.out _ (by have := GapsR.stop HKL.out hend; rw [HGO.out] at this; exact this)⟩
          clear HG6 HRR
          go_wp2
          go_ret
          exact ⟨_, rfl, HF.out, hb06⟩
        · have hke : ((k : Int) == (O.length : Int)) = false := by rw [beq_eq_false_iff_ne]; omega
          have hke2 : decide (k = O.length) = false := by simpa using hend
          have hk3 : k < O.length := by omega
          have hl3 : l < N.length := by
            rcases p5 with h | h
            · exact h.2.1
            · omega
          have HF : Hid (∀ rest, GapsR O N (k + 1) (l + 1) rest → GapsR O N 0 0 ((G ++ [(⟨⟨i, k, l, l⟩, .slice la ln lc⟩ : Gp)]).map (fun g : Gp => g.q) ++ rest)) := fun rest hr => by
            have h1 := GapsR.go HKL.out hk3 hr
            rw [HGO.out] at h1
            have h2 := HRR.out _ h1
            simpa using h2
          clear HRR p5
          go_wp2
          go_roundw
          case rel => exact ⟨k + 1, l + 1, _, by omega, by omega, by go_num, by go_num, HG6, by simp; omega, HF, hb6⟩
          case measure => simp [intOf]; omega
    · have HGO : Hid (gapOf i k j l = []) := by show _ = _; unfold gapOf; rw [if_neg hgap]
      have q1 : decide (i < k) = false := by simp; omega
      have q2 : decide (j < l) = false := by simp; omega
      by_cases hend : k = O.length
      · have hke : ((k : Int) == (O.length : Int)) = true := by simp; omega
        have hke2 : decide (k = O.length) = true := by simpa using hend
        have HF : Hid (GapsOut O N w w3 u6) := ⟨_, HG3.out.mono (by omega), by have h1 := GapsR.stop HKL.out hend; rw [HGO.out] at h1; simpa using HRR.out _ h1⟩
        clear HG3 HRR
        go_wp2
        go_ret
        exact ⟨_, rfl, HF.out, hbw03⟩
      · have hke : ((k : Int) == (O.length : Int)) = false := by rw [beq_eq_false_iff_ne]; omega
        have hke2 : decide (k = O.length) = false := by simpa using hend
        have hk3 : k < O.length := by omega
        have hl3 : l < N.length := by
          rcases p5 with h | h
          · exact h.2.1
          · omega
        have HF : Hid (∀ rest, GapsR O N (k + 1) (l + 1) rest → GapsR O N 0 0 (G.map (fun g : Gp => g.q) ++ rest)) := fun rest hr => by
          have h1 := GapsR.go HKL.out hk3 hr
          rw [HGO.out] at h1
          exact HRR.out _ h1
        clear HRR p5
        go_wp2
        go_roundw
        case rel => exact ⟨k + 1, l + 1, _, by omega, by omega, by go_num, by go_num, HG3, by omega, HF, hbw3⟩
        case measure => simp [intOf]; omega
end Go.Proofs.YtgdfipmdmgkidaaGreatDoor
