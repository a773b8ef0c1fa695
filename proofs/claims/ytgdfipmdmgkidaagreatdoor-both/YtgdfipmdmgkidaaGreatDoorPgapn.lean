/- The contract of the program's Gaps, where nothing is written. -/
import Derived.Test.YtgdfipmdmgkidaaGreatDoorPgaps
import Derived.Test.YtgdfipmdmgkidaaGreatDoorShelf
import Derived.Test.YtgdfipmdmgkidaaGreatDoorProw
import Derived.Laws.OwnMore
namespace Go.Proofs.YtgdfipmdmgkidaaGreatDoor
open Go.RowKit
set_option maxRecDepth 100000 in
set_option maxHeartbeats 3200000 in
theorem gaps186_none (O : List ByteArray) (hO : O.length ≤ 10000) (oa : Option Addr) (oc : Nat) (w : World) (hvo : View w oa O)
    (hc : Calls Tryz.prog 269 #[.slice oa O.length oc, .slice none 0 0] w fun e w' => ∃ v, e = .returned v ∧ TV w' v O.length 0 (CC O []) ∧ Below w.heap.size w w') :
    Calls Tryz.prog 249 #[.slice oa O.length oc, .slice none 0 0] w fun e w' => ∃ v, e = .returned v ∧ GapsOut O [] w w' v ∧ Below w.heap.size w w' := by
  obtain ⟨i0, hi, hz0, hz1, hz2⟩ := info_parts Tryz.info324
  have HC := hid hc
  clear hc
  go_enter Tryz.func249, Tryz.ntmps249
  go_wp2_with fail
  refine HC.out.mono ?_
  rintro e w1 ⟨cv, rfl, htv, hb1⟩
  clear HC
  obtain ⟨tb, to, tc, rfl⟩ : ∃ tb to tc, cv = .slice (some ⟨tb, to, none⟩) (O.length + 1) tc := by
    obtain ⟨tb, to, tc, rfl, _⟩ := htv
    exact ⟨tb, to, tc, rfl⟩
  have hvo1 := hvo.below hb1
  have hs1 := hb1.size
  obtain ⟨w2, hw2⟩ : ∃ w2, w2 = w1.alloc (.cells #[.slice oa O.length oc, .slice none 0 0, .slice (some ⟨tb, to, none⟩) (O.length + 1) tc] 349) := ⟨_, rfl⟩
  have hb2 : Below w1.heap.size w1 w2 := by rw [hw2]; exact (Below.refl _ _).alloc (Nat.le_refl _) _
  have hk2 : w2.heap[w1.heap.size]? = some (.cells #[.slice oa O.length oc, .slice none 0 0, .slice (some ⟨tb, to, none⟩) (O.length + 1) tc] 349 (0, 0)) := by rw [hw2]; exact (MapKept.heap_alloc w1 _).1
  have hs2 : w1.heap.size < w2.heap.size ∧ w2.heap.size ≤ w1.heap.size + 1 := by rw [hw2]; simp
  have HT : Hid (TV w2 (.slice (some ⟨tb, to, none⟩) (O.length + 1) tc) O.length 0 (CC O [])) := htv.below hb2 (Nat.le_refl _)
  have HVO := hid (hvo1.below hb2)
  clear htv hvo hvo1
  go_wp2
  rw [← hw2]
  clear hw2
  go_loopw [6, 7, 8] (fun v x y wr => ∃ (i j : Nat) (G : List Gp), i ≤ O.length ∧ j ≤ 0 ∧ x = .int .i64 i ∧ y = .int .i64 j ∧ Hid (GV wr w2.heap.size v [] G) ∧ G.length ≤ i ∧ Hid (∀ rest, GapsR O [] i j rest → GapsR O [] 0 0 (G.map (fun g : Gp => g.q) ++ rest)) ∧ Below w2.heap.size w2 wr) (fun _ x _ _ => O.length + 1 - (intOf x).toNat)
  case atStart => exact ⟨0, 0, [], Nat.zero_le _, Nat.zero_le _, rfl, rfl, ⟨World.ownsRow_nil _ _ _ _, fun g hg => by cases hg⟩, Nat.le_refl _, fun rest h => h, Below.refl _ _⟩
  case round =>
    obtain ⟨i, j, G, hi', hj', rfl, rfl, HG, hGl, HRR, hbw⟩ := hrel
    have hszr := hbw.size
    have hkr := (hbw.block _ (by omega)).trans hk2
    obtain ⟨d0, d1, d2⟩ := cells3_at hkr
    obtain ⟨p1, p2, p3, p4, p5⟩ := nxt_props O [] i j hi' (by simpa using hj')
    simp only [List.length_nil] at p4 p5
    obtain ⟨k, l, hkl⟩ : ∃ k l, nxt O [] i j = (k, l) := ⟨_, _, rfl⟩
    rw [hkl] at p1 p2 p3 p4 p5
    simp only at p1 p2 p3 p4 p5
    have HNX : Hid (Calls Tryz.prog 270 #[.agg #[.slice oa O.length oc, .slice none 0 0, .slice (some ⟨tb, to, none⟩) (O.length + 1) tc], .int .i64 i, .int .i64 j] wr fun e w' => e = .returned (.tuple #[.int .i64 (k : Nat), .int .i64 (l : Nat)]) ∧ Below wr.heap.size wr w') := by
      have h := next198_any O [] i j hi' (by simpa using hj') (by omega) (by simp) oa none oc 0 _ wr (HT.out.below hbw (Nat.le_refl _)) (HVO.out.below hbw) (.inl rfl)
      rw [hkl] at h
      exact h
    have HKL := hid hkl
    clear hkl
    go_wp2_with fail
    refine HNX.out.mono ?_
    rintro e w3 ⟨rfl, hb3⟩
    clear HNX
    have HG3 := hid (HG.out.below hb3)
    have hbw3 : Below w2.heap.size w2 w3 := hbw.trans (hb3.mono hszr)
    have hs3 := hb3.size
    clear HG hb3 d0 d1 d2
    have hbw03 : Below w.heap.size w w3 := (hb1.trans (hb2.mono hs1)).trans (hbw3.mono (by omega))
    by_cases hgap : i < k ∨ j < l
    · have HGO : Hid (gapOf i k j l = [⟨i, k, j, l⟩]) := by show _ = _; unfold gapOf; rw [if_pos hgap]
      obtain rfl : j = 0 := by omega
      obtain rfl : l = 0 := by omega
      have q1 : i < k := by omega
      have q2 : decide (i < k) = true := by simpa using q1
      have HCL : Hid (Calls Tryz.prog 271 #[.slice none 0 0] w3 fun e w' => ∃ v, e = .returned v ∧ w'.ownsRow w3.heap.size 9 1 v ([] : List ByteArray).length (strs []) ∧ Below w3.heap.size w3 w') := by
        refine (Tryz.slices_Clone_string_nil 0 0 w3).mono ?_
        rintro e w' ⟨rfl, rfl⟩
        exact ⟨_, rfl, World.ownsRow_nil _ _ _ _, Below.refl _ _⟩
      clear hgap
      go_wp2_with fail
      refine HCL.out.mono ?_
      rintro e w4 ⟨lv, rfl, hlo, hb4⟩
      clear HCL
      have hs4 := hb4.size
      obtain ⟨la, lc, hle⟩ := own_shape hlo
      have hG4 := HG3.out.below hb4
      have hG5 : GV (w4.alloc (.cells #[.int .i64 (i : Nat), .int .i64 (k : Nat), lv] 324)) w2.heap.size u6 [] G := hG4.below ((Below.refl _ _).alloc (Nat.le_refl _) _)
      have hl5 : (w4.alloc (.cells #[.int .i64 (i : Nat), .int .i64 (k : Nat), lv] 324)).ownsRow w2.heap.size 9 1 lv (linesAt [] ⟨i, k, 0, 0⟩).length (strs (linesAt [] ⟨i, k, 0, 0⟩)) := ownsRow_mono (hlo.alloc _) (by omega)
      have HL5 := hid hl5
      have HG5 := hid hG5
      have hrow5 := hG5.row
      have hnew := new_block3 w4 (.int .i64 (i : Nat)) (.int .i64 (k : Nat)) lv 324
      have hb5 : Below w2.heap.size w2 w4 := hbw3.trans (hb4.mono (by omega))
      have hone : ∀ u ∈ [Value.int .i64 (i : Nat), .int .i64 (k : Nat), lv], u.oneCell' = true := by
        intro u hu
        simp only [List.mem_cons, List.not_mem_nil, or_false] at hu
        rcases hu with rfl | rfl | rfl
        · rfl
        · rfl
        · rw [hle]; rfl
      obtain ⟨ln, hln'⟩ : ∃ n, ([] : List ByteArray).length = n := ⟨_, rfl⟩
      rw [hln'] at hle
      subst hle
      clear hl5 hG5 hG4 hlo hln' HG3
      go_wp2_with (at_builtin; refine wpList_append_own _ rfl _ _ 321 rfl w2.heap.size 324 i0 _ 3 40 Tryz.underlying321 hi hz0 hz1 hz2 rfl (by decide) _ _ _ rfl hrow5 ⟨w4.heap.size, 0, none⟩ 1 1 [.int .i64 (i : Nat), .int .i64 (k : Nat), .slice la ln lc] rfl rfl hnew hone (by unfold maxLen; omega) (by omega) (by simp; omega) ?_)
      intro v' w6 hown' hg _
      have HG6 : Hid (GV w6 w2.heap.size v' [] (G ++ [(⟨⟨i, k, 0, 0⟩, .slice la ln lc⟩ : Gp)])) := HG5.out.step hg hown' HL5.out
      have hb6 : Below w2.heap.size w2 w6 := step_any (B := w2.heap.size) (Nat.le_refl _) hrow5 (hb5.alloc (by omega) _) (by simp; omega) hg
      have hb06 : Below w.heap.size w w6 := (hb1.trans (hb2.mono hs1)).trans (hb6.mono (by omega))
      clear hown' hg hrow5 hnew hone HG5 HL5
      by_cases hend : k = O.length
      · have hke : ((k : Int) == (O.length : Int)) = true := by simp; omega
        have hke2 : decide (k = O.length) = true := by simpa using hend
        have HF : Hid (GapsOut O [] w w6 v') := ⟨_, HG6.out.mono (by omega), by rw [List.map_append]; exact HRR.out _ (by have := GapsR.stop HKL.out hend; rw [HGO.out] at this; exact this)⟩
        clear HG6 HRR
        go_wp2
        go_ret
        exact ⟨_, rfl, HF.out, hb06⟩
      · have hke : ((k : Int) == (O.length : Int)) = false := by rw [beq_eq_false_iff_ne]; omega
        have hke2 : decide (k = O.length) = false := by simpa using hend
        have hk3 : k < O.length := by omega
        have hl3 : 0 < 0 := by
          rcases p5 with h | h
          · exact h.2.1
          · omega
        have HF : Hid (∀ rest, GapsR O [] (k + 1) (0 + 1) rest → GapsR O [] 0 0 ((G ++ [(⟨⟨i, k, 0, 0⟩, .slice la ln lc⟩ : Gp)]).map (fun g : Gp => g.q) ++ rest)) := fun rest hr => by
          have h1 := GapsR.go HKL.out hk3 hr
          rw [HGO.out] at h1
          have h2 := HRR.out _ h1
          simpa using h2
        clear HRR p5
        go_wp2
        go_roundw
        case rel => exact ⟨k + 1, 0 + 1, _, by omega, by omega, by go_num, by go_num, HG6, by simp; omega, HF, hb6⟩
        case measure => simp [intOf]; omega
    · have HGO : Hid (gapOf i k j l = []) := by show _ = _; unfold gapOf; rw [if_neg hgap]
      have q1 : decide (i < k) = false := by simp; omega
      have q2 : decide (j < l) = false := by simp; omega
      by_cases hend : k = O.length
      · have hke : ((k : Int) == (O.length : Int)) = true := by simp; omega
        have hke2 : decide (k = O.length) = true := by simpa using hend
        have HF : Hid (GapsOut O [] w w3 u6) := ⟨_, HG3.out.mono (by omega), by have h1 := GapsR.stop HKL.out hend; rw [HGO.out] at h1; simpa using HRR.out _ h1⟩
        clear HG3 HRR
        go_wp2
        go_ret
        exact ⟨_, rfl, HF.out, hbw03⟩
      · have hke : ((k : Int) == (O.length : Int)) = false := by rw [beq_eq_false_iff_ne]; omega
        have hke2 : decide (k = O.length) = false := by simpa using hend
        have hk3 : k < O.length := by omega
        have hl3 : l < 0 := by
          rcases p5 with h | h
          · exact h.2.1
          · omega
        have HF : Hid (∀ rest, GapsR O [] (k + 1) (l + 1) rest → GapsR O [] 0 0 (G.map (fun g : Gp => g.q) ++ rest)) := fun rest hr => by
          have h1 := GapsR.go HKL.out hk3 hr
          rw [HGO.out] at h1
          exact HRR.out _ h1
        clear HRR p5
        go_wp2
        go_roundw
        case rel => exact absurd hl3 (by omega)
        case measure => simp [intOf]; omega
end Go.Proofs.YtgdfipmdmgkidaaGreatDoor

/- The contracts of the program's small functions on rows, continued: all dead, joined rows, the frame, the text. -/
set_option maxHeartbeats 1600000
set_option maxRecDepth 100000
namespace Go.Proofs.YtgdfipmdmgkidaaGreatDoor
open Go.RowKit
def deadTo (S : List Spot) (k : Nat) : List Spot := (S.take k).map deadS ++ S.drop k
theorem deadTo_succ {S : List Spot} {k : Nat} {s : Spot} (hs : S[k]? = some s) : deadTo S (k + 1) = (deadTo S k).set k (deadS s) := by
  obtain ⟨hk, rfl⟩ := List.getElem?_eq_some_iff.1 hs
  unfold deadTo
  have hl : ((S.take k).map deadS).length = k := by simp; omega
  rw [List.set_append_right _ _ (by omega), hl, Nat.sub_self, List.drop_eq_getElem_cons hk, List.set_cons_zero, List.take_succ_eq_append_getElem hk, List.map_append]
  simp
theorem deadTo_get {S : List Spot} {k : Nat} {s : Spot} (hs : S[k]? = some s) : (deadTo S k)[k]? = some s := by
  obtain ⟨hk, rfl⟩ := List.getElem?_eq_some_iff.1 hs
  unfold deadTo
  have hl : ((S.take k).map deadS).length = k := by simp; omega
  rw [List.getElem?_append_right (by omega), hl, Nat.sub_self, List.drop_eq_getElem_cons hk]
  rfl
theorem rowC_set (S : List Spot) (k : Nat) (s : Spot) (h : S[k]? = some s) : rowC (S.set k (deadS s)) = (rowC S).set (k * 7 + 6) (.bool false) := by
  induction S generalizing k with
  | nil => simp at h
  | cons q S ih =>
    cases k with
    | zero =>
      simp at h
      subst h
      simp [rowC, deadS]
    | succ k =>
      simp only [List.getElem?_cons_succ] at h
      simp only [rowC, List.flatMap_cons, List.set_cons_succ] at *
      rw [List.set_append_right _ _ (by simp; omega)]
      have e : (k + 1) * 7 + 6 - (spC q).length = k * 7 + 6 := by simp; omega
      rw [e, ih k h]
theorem dead244_any (S : List Spot) (v0 : Value) (w : World) (hv : SV w v0 S) (hlen : S.length ≤ 1000000) :
    Calls Tryz.prog 345 #[v0] w fun e w' => ∃ v, e = .returned v ∧ w'.ownsRow w.heap.size 313 7 v (deadRow S).length (rowC (deadRow S)) ∧ Below w.heap.size w w' := by
  have HL := clone187_any S v0 w hv hlen
  obtain ⟨ao, cap, rfl⟩ := hv.shape
  have HH : Hid (Calls Tryz.prog 250 #[.slice ao S.length cap] w fun e w' => ∃ v, e = .returned v ∧ w'.ownsRow w.heap.size 313 7 v S.length (rowC S) ∧ Below w.heap.size w w') := HL
  clear HL hv
  go_enter Tryz.func345, Tryz.ntmps345
  go_wp2_with fail
  refine HH.out.mono ?_
  rintro e w1 ⟨lv, rfl, ho, hb1⟩
  clear HH
  have hsz1 : w.heap.size ≤ w1.heap.size := hb1.size
  rcases ho.2 with ⟨rfl, h0⟩ | ⟨g, cp, cur, rfl, hg0, hg1, _⟩
  · have hS : S = [] := List.eq_nil_of_length_eq_zero h0
    subst hS
    go_wp2
    refine wp_loop_rounds 1 ?_
    rw [rounds_succ]
    go_wp2
    go_ret
    exact ⟨_, rfl, ho, hb1⟩
  · clear hg1
    go_wp2
    go_loopw [9] (fun i wr => ∃ k : Nat, k ≤ S.length ∧ i = .int .i64 k ∧ wr.ownsRow w.heap.size 313 7 (.slice (some ⟨g, 0, none⟩) S.length cp) S.length (rowC (deadTo S k)) ∧ Below w.heap.size w wr) (fun i _ => S.length - (intOf i).toNat)
    case atStart => exact ⟨0, Nat.zero_le _, rfl, by simpa [deadTo] using ho, hb1⟩
    case round =>
      obtain ⟨k, hk, rfl, hown, hbw⟩ := hrel
      by_cases hlt : k < S.length
      · obtain ⟨s, hs⟩ : ∃ s, S[k]? = some s := ⟨_, List.getElem?_eq_getElem hlt⟩
        have hst := World.ownsRow.stored hown (k * 7 + 6) (.bool false)
        have hfr := World.ownsRow.frozenAt hown (k * 7 + 6)
        have hcl := World.ownsRow.cellAt hown (k * 7 + 6) (by omega)
        rw [rowC_get _ _ _ (deadTo_get hs) 6 (by omega)] at hcl
        have hcl' : wr.cell? ⟨g, k * 7 + 6, none⟩ = some (.bool s.alive) := hcl
        rw [← rowC_set _ _ _ (deadTo_get hs), ← deadTo_succ hs] at hst
        have hb2 : Below w.heap.size w (wr.setCell ⟨g, k * 7 + 6, none⟩ (.bool false)) := hbw.setCell (p := ⟨g, k * 7 + 6, none⟩) hg0 _
        have HO : Hid ((wr.setCell ⟨g, k * 7 + 6, none⟩ (.bool false)).ownsRow w.heap.size 313 7 (.slice (some ⟨g, 0, none⟩) S.length cp) S.length (rowC (deadTo S (k + 1)))) := hst.1
        clear hst hs hown hcl
        go_wp2
        go_roundw
        case rel => exact ⟨k + 1, by omega, by go_num, HO.out, hb2⟩
        case measure => simp [intOf]; omega
      · have e : k = S.length := by omega
        have HE : Hid (deadTo S k = deadRow S) := by show _ = _; rw [e]; simp [deadTo, deadRow]
        clear e
        go_wp2
        go_ret
        rw [HE.out] at hown
        exact ⟨_, rfl, by simpa [deadRow] using hown, hbw⟩
theorem run_append_zeros (w : World) (P : Program) (t u ty e : TypeId) (i : TypeInfo) (z : Value) (ht : P.underlying t = some (.slice e)) (hu : P.underlying u = some (.int .i64)) (hi : P.info? e = some i) (hz : i.zero = some z) (hs : 0 < i.size)
    (n : Nat) (h0 : 0 < n) (h63 : (n : Int) ≤ 9223372036854775807) (h48 : n * i.bytes ≤ 281474976710656) :
    (Builtin.append_ #[t, u] ty #[.slice none 0 0, .int .i64 n]).run P w =
      .ok (.slice (some ⟨w.heap.size, 0, none⟩) n (grownCap w n 0 e)) (w.drew.alloc (.cells (Builtin.zeroCells z.cells n ++ Builtin.zeroCells z.cells (grownCap w n 0 e - n)) e)) := by
  have hn : n ≠ 0 := by omega
  have h63' : ¬ (9223372036854775807 < (n : Int)) := by omega
  have h48' : ¬ (281474976710656 < Builtin.nextslicecap n 0 * i.bytes) := by rw [nextslicecap_zero h0]; omega
  have hw : IntKind.i64.wrap (n : Int) = n := by simp [IntKind.wrap, IntKind.signed, IntKind.bits]; omega
  have h48'' : ¬ (281474976710656 < (n : Int) * (i.bytes : Int)) := by
    rw [← Int.natCast_mul]; omega
  have hneg : ¬ ((n : Int) < 0) := by omega
  simp [Builtin.append_, run_underlying ht, run_underlying hu, sizeOf, typeInfo, zeroValue, hi, hz, Builtin.lenOf, hn, h63', h48', Question.forced, newRow, grownCap, hw, h48'', hneg, asInt, asIntOf, run_firstCells_none]
  intro h
  have := Nat.mul_pos h0 hs
  omega
def zspot : Array Value := #[.int .u8 0, .int .u8 0, .int .u8 0, .int .u8 0, .int .i64 0, .string ⟨#[]⟩, .bool false]
theorem wpList_append_grow (w : World) {ops : Array Oper} {rest : List Oper} {o : Oper} {a : Act} {Q : Exit → Act → World → Prop} (hgd : o.guard = none) (s x : Operand)
    (ho : o.op = .call { callee := .builtin .append, args := #[s, x], argTypes := #[183, 3] }) (n : Nat) (hs : a.eval s = .slice none 0 0) (hx : a.eval x = .int .i64 n) (h0 : 0 < n) (hn : n ≤ 1000000)
    (h : wpList Tryz.prog ops Q rest (a.put o.dst (.slice (some ⟨w.heap.size, 0, none⟩) n (grownCap w n 0 313))) (w.drew.alloc (.cells (Builtin.zeroCells zspot n ++ Builtin.zeroCells zspot (grownCap w n 0 313 - n)) 313))) : wpList Tryz.prog ops Q (o :: rest) a w := by
  obtain ⟨i0, hi, hz0, hz1, hz2⟩ := info_parts Tryz.info313
  refine wpList_plain hgd fun K hK => ?_
  have hr := run_append_zeros w Tryz.prog 183 3 o.type 313 i0 _ Tryz.underlying183 Tryz.underlying3 hi hz0 (by rw [hz1]; decide) n h0 (by omega) (by rw [hz2]; omega)
  unfold Oper.wp execOp
  simp only [ho, resolve, invoke, builtin, Sem.run_bind, Sem.run_pure, Result.andThen_ok, List.map_toArray, List.map_cons, List.map_nil, hs, hx, hr]
  exact hK _ _ h
theorem grow213_nil (n : Nat) (w : World) (hn : n ≤ 1000000) :
    Calls Tryz.prog 290 #[.slice none 0 0, .int .i64 n] w fun e w' => ∃ v, e = .returned v ∧ w'.ownsRow w.heap.size 313 7 v 0 [] ∧ Below w.heap.size w w' := by
  by_cases h0 : n = 0
  · subst h0
    go_enter Tryz.func290, Tryz.ntmps290
    go_wp2
    go_ret
    exact ⟨_, rfl, World.ownsRow_nil _ _ _ _, Below.refl _ _⟩
  · have hpos : (0 : Int) < (n : Int) := by omega
    have hge : n ≤ grownCap w n 0 313 := grownCap_ge _ _ _ _
    have hgm : grownCap w n 0 313 ≤ maxLen := grownCap_le_maxLen _ _ _ _ (by unfold maxLen; omega)
    have hsz : (Builtin.zeroCells zspot n ++ Builtin.zeroCells zspot (grownCap w n 0 313 - n)).size = grownCap w n 0 313 * 7 := by
      rw [Array.size_append, size_zeroCells, size_zeroCells]
      show n * 7 + (grownCap w n 0 313 - n) * 7 = _
      omega
    have hn0 : 0 < n := by omega
    clear h0
    go_enter Tryz.func290, Tryz.ntmps290
    go_wp2_with (at_builtin; refine wpList_append_grow _ rfl _ _ rfl n rfl rfl hn0 hn ?_)
    generalize grownCap w n 0 313 = G at *
    generalize Builtin.zeroCells zspot n ++ Builtin.zeroCells zspot (G - n) = Z at *
    go_wp2
    go_ret
    exact ⟨_, rfl, ⟨rfl, .inr ⟨w.heap.size, G, Z, rfl, Nat.le_refl _, (MapKept.heap_alloc w.drew _).1, Nat.zero_le _, hgm, hsz, by simp⟩⟩, ((Below.refl _ _).drew).alloc (Nat.le_refl _) _⟩
end Go.Proofs.YtgdfipmdmgkidaaGreatDoor
/- The contracts of the program's small functions on rows, continued: rows joined, the frame, the text. -/
namespace Go.Proofs.YtgdfipmdmgkidaaGreatDoor
open Go.RowKit
def RV (w : World) (v : Value) (R : List (Value × List Spot)) : Prop := ∃ ao cap, v = .slice ao R.length cap ∧ ∀ (k : Nat) (r : Value × List Spot), R[k]? = some r → ∃ b o, ao = some ⟨b, o, none⟩ ∧ b < w.heap.size ∧ w.cell? ⟨b, o + k, none⟩ = some r.1
theorem RV.below {w w' : World} {v : Value} {R : List (Value × List Spot)} (h : RV w v R) {B : Nat} (hb : Below B w w') (hB : w.heap.size ≤ B) : RV w' v R := by
  obtain ⟨ao, cap, rfl, hc⟩ := h
  refine ⟨ao, cap, rfl, fun k r hk => ?_⟩
  obtain ⟨b, o, e, h1, h2⟩ := hc k r hk
  exact ⟨b, o, e, Nat.lt_of_lt_of_le h1 hb.size, (hb.cell (p := ⟨b, o + k, none⟩) (by simp; omega)).trans h2⟩
def catTo (R : List (Value × List Spot)) (k : Nat) : List Spot := (R.take k).flatMap (·.2)
theorem catTo_succ {R : List (Value × List Spot)} {k : Nat} {r : Value × List Spot} (h : R[k]? = some r) : catTo R (k + 1) = catTo R k ++ r.2 := by
  obtain ⟨hk, rfl⟩ := List.getElem?_eq_some_iff.1 h
  unfold catTo
  rw [List.take_succ_eq_append_getElem hk, List.flatMap_append]
  simp
theorem catTo_all (R : List (Value × List Spot)) : catTo R R.length = R.flatMap (·.2) := by unfold catTo; rw [List.take_length]
theorem catTo_le (R : List (Value × List Spot)) (k : Nat) : (catTo R k).length ≤ (R.flatMap (·.2)).length := by
  unfold catTo
  conv => rhs; rw [← List.take_append_drop k R, List.flatMap_append, List.length_append]
  omega
theorem concat195_any (R : List (Value × List Spot)) (v0 : Value) (w : World) (hR : RV w v0 R) (hv : ∀ r ∈ R, SV w r.1 r.2) (hn : R.length ≤ 100) (hlen : (R.flatMap (·.2)).length ≤ 1000000) :
    Calls Tryz.prog 267 #[v0] w fun e w' => ∃ v, e = .returned v ∧ w'.ownsRow w.heap.size 313 7 v (R.flatMap (·.2)).length (rowC (R.flatMap (·.2))) ∧ Below w.heap.size w w' := by
  have HV : Hid (∀ r ∈ R, SV w r.1 r.2) := hv
  have HR : Hid (RV w v0 R) := hR
  have HL : Hid ((R.flatMap (·.2)).length ≤ 1000000) := hlen
  obtain ⟨ao, cap, rfl, hc⟩ := hR
  clear hv hc hlen
  go_enter Tryz.func267, Tryz.ntmps267
  go_wp2
  go_loop [3, 11] (fun s i => ∃ k : Nat, k ≤ R.length ∧ i = .int .i64 k ∧ s = .int .i64 ((catTo R k).length : Nat)) (fun _ i => R.length - (intOf i).toNat)
  case atStart => exact ⟨0, Nat.zero_le _, rfl, by simp [catTo]⟩
  case round =>
    obtain ⟨k, hk, rfl, rfl⟩ := hrel
    have hkl : (catTo R k).length ≤ 1000000 := Nat.le_trans (catTo_le R k) HL.out
    by_cases hlt : k < R.length
    · obtain ⟨r, hr⟩ : ∃ r, R[k]? = some r := ⟨_, List.getElem?_eq_getElem hlt⟩
      obtain ⟨_, _, e1, hc1⟩ := HR.out
      cases e1
      obtain ⟨b, o, rfl, hb, c1⟩ := hc1 k r hr
      obtain ⟨ra, rc, hrs⟩ := (HV.out r (List.mem_of_getElem? hr)).shape
      rw [hrs] at c1
      have hkl2 : (catTo R (k + 1)).length ≤ 1000000 := Nat.le_trans (catTo_le R (k + 1)) HL.out
      have HS : (catTo R (k + 1)).length = (catTo R k).length + r.2.length := by rw [catTo_succ hr, List.length_append]
      rw [HS] at hkl2
      have HS' : Hid ((catTo R (k + 1)).length = (catTo R k).length + r.2.length) := HS
      clear HS hr hrs hc1
      generalize (catTo R k).length = A at *
      generalize r.2.length = D at *
      go_wp2
      go_round
      case rel => exact ⟨k + 1, by omega, by go_num, by rw [HS'.out]; go_num⟩
      case measure => simp [intOf]; omega
    · have e : k = R.length := by omega
      have HE : Hid ((catTo R k).length = (R.flatMap (·.2)).length) := by show _ = _; rw [e, catTo_all]
      clear e
      generalize (catTo R k).length = A at *
      have hA : A ≤ 1000000 := hkl
      go_wp2_with fail
      refine (grow213_nil A w hA).mono ?_
      rintro e w1 ⟨gv, rfl, hgo, hb1⟩
      have hsz1 : w.heap.size ≤ w1.heap.size := hb1.size
      clear hkl hA hlt hk
      go_wp2
      go_loopw [6, 27] (fun v i wr => ∃ k : Nat, k ≤ R.length ∧ i = .int .i64 k ∧ wr.ownsRow w.heap.size 313 7 v (catTo R k).length (rowC (catTo R k)) ∧ Below w.heap.size w wr) (fun _ i _ => R.length - (intOf i).toNat)
      case atStart => exact ⟨0, Nat.zero_le _, rfl, by simpa [catTo] using hgo, hb1⟩
      case round =>
        obtain ⟨k, hk, rfl, hown, hbw⟩ := hrel
        have hsz : w.heap.size ≤ wr.heap.size := hbw.size
        by_cases hlt : k < R.length
        · obtain ⟨r, hr⟩ : ∃ r, R[k]? = some r := ⟨_, List.getElem?_eq_getElem hlt⟩
          obtain ⟨_, _, e1, hc1⟩ := HR.out.below hbw (Nat.le_refl _)
          cases e1
          obtain ⟨b, o, rfl, hb, c1⟩ := hc1 k r hr
          have hsv := (HV.out r (List.mem_of_getElem? hr)).below hbw (Nat.le_refl _)
          obtain ⟨ra, rc, hrs⟩ := hsv.shape
          rw [hrs] at c1 hsv
          have hkl2 : (catTo R (k + 1)).length ≤ 1000000 := Nat.le_trans (catTo_le R (k + 1)) HL.out
          have HS : catTo R (k + 1) = catTo R k ++ r.2 := catTo_succ hr
          rw [HS, List.length_append] at hkl2
          have HS' : Hid (catTo R (k + 1) = catTo R k ++ r.2) := HS
          clear HS hr hrs hc1
          generalize catTo R k = A at *
          generalize r.2 = D at *
          go_wp2_with (at_builtin; refine wpList_append_row _ rfl _ _ rfl w.heap.size _ A D _ rfl hown rfl hsv (by omega) hsz ?_)
          intro v' w2 h1 h2
          have hb2 := step_any (Nat.le_refl _) hown hbw hsz h2
          clear h2 hown hbw
          go_wp2
          go_roundw
          case rel => exact ⟨k + 1, by omega, by go_num, by rw [HS'.out, rowC_app, List.length_append]; exact h1, hb2⟩
          case measure => simp [intOf]; omega
        · have e : k = R.length := by omega
          have HE2 : Hid (catTo R k = R.flatMap (·.2)) := by show _ = _; rw [e, catTo_all]
          clear e
          go_wp2
          go_ret
          rw [HE2.out] at hown
          exact ⟨_, rfl, hown, hbw⟩
theorem cells3_of {w : World} {g : Nat} {x y z : Value} {t : TypeId} {f : Nat × Nat} (h : w.heap[g]? = some (.cells #[x, y, z] t f)) : w.cell? ⟨g, 0 + 0, none⟩ = some x ∧ w.cell? ⟨g, 0 + 1, none⟩ = some y ∧ w.cell? ⟨g, 0 + 2, none⟩ = some z := by
  simp [World.cell?, h]
theorem three_new (w : World) (x y z : Value) (t : TypeId) : (w.alloc (.cells #[x, y, z] t)).cell? ⟨w.heap.size, 0 + 0, none⟩ = some x ∧ (w.alloc (.cells #[x, y, z] t)).cell? ⟨w.heap.size, 0 + 1, none⟩ = some y ∧ (w.alloc (.cells #[x, y, z] t)).cell? ⟨w.heap.size, 0 + 2, none⟩ = some z :=
  cells3_of (MapKept.heap_alloc w (.cells #[x, y, z] t)).1
def framed (S : List Spot) : List Spot := begS :: (S ++ [endS])
theorem framed185_any (S : List Spot) (v0 : Value) (w : World) (hv : SV w v0 S) (hlen : S.length ≤ 900000) :
    Calls Tryz.prog 248 #[v0] w fun e w' => ∃ v, e = .returned v ∧ w'.ownsRow w.heap.size 313 7 v (framed S).length (rowC (framed S)) ∧ Below w.heap.size w w' := by
  go_enter Tryz.func248, Tryz.ntmps248
  go_wp2_with fail
  refine (edge196_any (-1) w).mono ?_
  rintro e w1 ⟨v1, rfl, ho1, hb1⟩
  have hv1 := hv.below hb1 (Nat.le_refl _)
  have hs1 := hb1.size
  go_wp2_with fail
  refine (edge196_any (-2) w1).mono ?_
  rintro e w2 ⟨v2, rfl, ho2, hb2⟩
  have hv2 := hv1.below hb2 (Nat.le_refl _)
  have hs2 := hb2.size
  have ho1' := own_below ho1 hb2 (Nat.le_refl _)
  have sv1 := SV.own (S := [edgeS (-1)]) ho1'
  have sv2 := SV.own (S := [edgeS (-2)]) ho2
  obtain ⟨a0, c0, rfl⟩ := hv.shape
  obtain ⟨a1, c1, rfl⟩ := sv1.shape
  obtain ⟨a2, c2, rfl⟩ := sv2.shape
  have hb3 : Below w2.heap.size w2 (w2.alloc (.cells #[.slice a1 [edgeS (-1)].length c1, .slice a0 S.length c0, .slice a2 [edgeS (-2)].length c2] 183)) := (Below.refl _ _).alloc (Nat.le_refl _) _
  have hcell := three_new w2 (.slice a1 [edgeS (-1)].length c1) (.slice a0 S.length c0) (.slice a2 [edgeS (-2)].length c2) 183
  have hbs : w.heap.size ≤ w2.heap.size := by omega
  have hb4 : Below w.heap.size w (w2.alloc (.cells #[.slice a1 [edgeS (-1)].length c1, .slice a0 S.length c0, .slice a2 [edgeS (-2)].length c2] 183)) := (hb1.trans (hb2.mono hs1)).alloc hbs _
  have x0 := hv2.below hb3 (Nat.le_refl _)
  have x1 := sv1.below hb3 (Nat.le_refl _)
  have x2 := sv2.below hb3 (Nat.le_refl _)
  have hR : RV (w2.alloc (.cells #[.slice a1 [edgeS (-1)].length c1, .slice a0 S.length c0, .slice a2 [edgeS (-2)].length c2] 183)) (.slice (some ⟨w2.heap.size, 0, none⟩) 3 3) [(.slice a1 [edgeS (-1)].length c1, [edgeS (-1)]), (.slice a0 S.length c0, S), (.slice a2 [edgeS (-2)].length c2, [edgeS (-2)])] := by
    refine ⟨_, _, rfl, fun k r hk => ⟨w2.heap.size, 0, rfl, by simp, ?_⟩⟩
    match k, hk with
    | 0, hk => cases hk; exact hcell.1
    | 1, hk => cases hk; exact hcell.2.1
    | 2, hk => cases hk; exact hcell.2.2
    | k + 3, hk => simp at hk
  have hall : ∀ r ∈ [(Value.slice a1 [edgeS (-1)].length c1, [edgeS (-1)]), (.slice a0 S.length c0, S), (.slice a2 [edgeS (-2)].length c2, [edgeS (-2)])], SV (w2.alloc (.cells #[.slice a1 [edgeS (-1)].length c1, .slice a0 S.length c0, .slice a2 [edgeS (-2)].length c2] 183)) r.1 r.2 := by
    intro r hr
    simp only [List.mem_cons, List.not_mem_nil, or_false] at hr
    rcases hr with rfl | rfl | rfl
    · exact x1
    · exact x0
    · exact x2
  have HC := concat195_any _ _ _ hR hall (by simp) (by simp; omega)
  clear hR hall x0 x1 x2 hcell sv1 sv2 hv1 hv2 hv ho1 ho2 ho1' hb3
  have e1 : [edgeS (-1)].length = 1 := rfl
  have e2 : [edgeS (-2)].length = 1 := rfl
  rw [e1, e2] at *
  have HH : Hid (Calls Tryz.prog 267 #[.slice (some ⟨w2.heap.size, 0, none⟩) 3 3] (w2.alloc (.cells #[.slice a1 1 c1, .slice a0 S.length c0, .slice a2 1 c2] 183)) fun e w' => ∃ v, e = .returned v ∧ w'.ownsRow (w2.alloc (.cells #[.slice a1 1 c1, .slice a0 S.length c0, .slice a2 1 c2] 183)).heap.size 313 7 v (framed S).length (rowC (framed S)) ∧ Below (w2.alloc (.cells #[.slice a1 1 c1, .slice a0 S.length c0, .slice a2 1 c2] 183)).heap.size (w2.alloc (.cells #[.slice a1 1 c1, .slice a0 S.length c0, .slice a2 1 c2] 183)) w') := HC
  clear HC
  go_wp2_with fail
  refine HH.out.mono ?_
  rintro e w3 ⟨v3, rfl, ho3, hb5⟩
  have hb6 : Below w.heap.size w w3 := hb4.trans (hb5.mono (by simp; omega))
  have ho4 := ownsRow_mono ho3 (show w.heap.size ≤ _ by simp; omega)
  clear HH ho3 hb5 hb4
  obtain ⟨a3, c3, rfl⟩ := own_shape ho4
  go_wp2
  go_ret
  exact ⟨_, rfl, ho4, hb6⟩
end Go.Proofs.YtgdfipmdmgkidaaGreatDoor
