/- slices.DeleteFunc on a row of the call's own. -/
import Derived.Test.YtgdfipmdmgkidaaGreatDoorQneed
import Derived.Lib.SliceRun
namespace Go.Proofs.YtgdfipmdmgkidaaGreatDoor
open Go.RowKit

section
variable {base size g cap n : Nat} {e : TypeId} {xs : List Value}
/-- A row of the call's own, cut short. -/
theorem own_cut {w : World} (h : w.ownsRow base e size (.slice (some ⟨g, 0, none⟩) n cap) n xs) {i : Nat} (hi : i ≤ n) : w.ownsRow base e size (.slice (some ⟨g, 0, none⟩) i cap) i (xs.take (i * size)) := by
  have hl := h.1
  rcases h.2 with ⟨h', _⟩ | ⟨g', cap', cur, h', hb, hg, hnc, hcm, hcs, htake⟩
  · cases h'
  · cases h'
    have hm : i * size ≤ n * size := Nat.mul_le_mul_right _ hi
    refine ⟨by rw [List.length_take, hl]; omega, .inr ⟨g, cap, cur, rfl, hb, hg, by omega, hcm, hcs, ?_⟩⟩
    rw [← htake, List.take_take, Nat.min_eq_left hm]
theorem grown_trans {a b c : World} {r : Option Nat} (h : a.grownBy b r) (k : b.grownBy c r) : a.grownBy c r :=
  ⟨k.os.trans h.os, k.tape.trans h.tape, k.output.trans h.output, Nat.le_trans h.size k.size, fun j hj hne => (k.block j (Nat.lt_of_lt_of_le hj h.size) hne).trans (h.block j hj hne)⟩
theorem own_setCells : ∀ (vs : List Value) (w : World) (o : Nat), w.ownsRow base e size (.slice (some ⟨g, 0, none⟩) n cap) n xs → xs.length ≤ o → (w.setCells g o vs).ownsRow base e size (.slice (some ⟨g, 0, none⟩) n cap) n xs ∧ w.grownBy (w.setCells g o vs) (some g)
  | [], w, o, h, _ => ⟨h, World.grownBy.refl _ _⟩
  | v :: vs, w, o, h, ho => by
    obtain ⟨h1, h2⟩ := h.stored o v
    rw [List.set_eq_of_length_le ho] at h1
    obtain ⟨h3, h4⟩ := own_setCells vs _ (o + 1) h1 (by omega)
    exact ⟨h3, grown_trans h2 h4⟩
end

theorem zero_cells {z : Array Value} {n : Nat} (h1 : ∀ v ∈ z, v.oneCell' = true) : ∀ v ∈ (Builtin.zeroCells z n).toList, v.oneCell' = true := by
  intro v hv
  unfold Builtin.zeroCells at hv
  rw [Array.toList_map, List.mem_map] at hv
  obtain ⟨a, ha, rfl⟩ := hv
  have ha : a < n * z.size := by simpa using ha
  have hz : 0 < z.size := Nat.pos_of_ne_zero fun e => by rw [e] at ha; omega
  rw [getElem!_pos z _ (Nat.mod_lt _ hz)]
  exact h1 _ (Array.getElem_mem _)
theorem run_clear_row (w : World) (t e ty : TypeId) (z : Value) (ht : Tryz.prog.underlying t = some (.slice e)) (hv : ∀ w, (zeroValue e).run Tryz.prog w = .ok z w) (h1 : ∀ v ∈ z.cells, v.oneCell' = true) (b o n c : Nat) (hn : 0 < n)
    (hc : ∀ j, j < n * z.cells.size → (w.cell? ⟨b, o + j, none⟩).isSome = true) (hf : ∀ j, j < n * z.cells.size → w.frozen? ⟨b, o + j, none⟩ = false) :
    (Builtin.clear_ #[t] ty #[.slice (some ⟨b, o, none⟩) n c]).run Tryz.prog w = .ok (.tuple #[]) (w.setCells b o (Builtin.zeroCells z.cells n).toList) := by
  have hl : (Builtin.zeroCells z.cells n).toList.length = n * z.cells.size := by simp [Builtin.zeroCells]
  have hst := run_storeCells_cells (P := Tryz.prog) b o (Builtin.zeroCells z.cells n).toList 0 w (by rw [hl]; simpa using hc) (by rw [hl]; simpa using hf) (zero_cells h1)
  simp only [Nat.add_zero] at hst
  obtain ⟨m, rfl⟩ : ∃ m, n = m + 1 := ⟨n - 1, by omega⟩
  simp [Builtin.clear_, run_underlying ht, hv, hst]

theorem cells7_of {w : World} {g : Nat} {x0 x1 x2 x3 x4 x5 x6 : Value} {t : TypeId} {f : Nat × Nat} (h : w.heap[g]? = some (.cells #[x0, x1, x2, x3, x4, x5, x6] t f)) : w.cell? ⟨g, 0, none⟩ = some x0 ∧ w.cell? ⟨g, 1, none⟩ = some x1 ∧ w.cell? ⟨g, 2, none⟩ = some x2 ∧ w.cell? ⟨g, 3, none⟩ = some x3 ∧ w.cell? ⟨g, 4, none⟩ = some x4 ∧ w.cell? ⟨g, 5, none⟩ = some x5 ∧ w.cell? ⟨g, 6, none⟩ = some x6 := by
  refine ⟨?_, ?_, ?_, ?_, ?_, ?_, ?_⟩ <;> simp [World.cell?, h]
theorem rowC_take (L : List Spot) (i : Nat) (hi : i ≤ L.length) : (rowC L).take (i * 7) = rowC (L.take i) := by
  conv => lhs; rw [← List.take_append_drop i L, rowC_app]
  rw [List.take_append_of_le_length (by rw [rowC_len, List.length_take]; omega), List.take_of_length_le (by rw [rowC_len, List.length_take]; omega)]

/-- One cell of a row is written over. -/
theorem rowC_set7 (L : List Spot) (i : Nat) (s : Spot) (hi : i < L.length) : rowC (L.set i s) = (((((((rowC L).set (i * 7) (.int .u8 s.a)).set (i * 7 + 1) (.int .u8 s.b)).set (i * 7 + 2) (.int .u8 s.c)).set (i * 7 + 3) (.int .u8 s.d)).set (i * 7 + 4) (.int .i64 s.num)).set (i * 7 + 5) (.string s.line)).set (i * 7 + 6) (.bool s.alive) := by
  induction L generalizing i with
  | nil => simp at hi
  | cons x L ih =>
    cases i with
    | zero => simp [rowC]
    | succ i =>
      have := ih i (by simpa using hi)
      simp only [List.set_cons_succ]
      have e : ∀ (u : Value) (T : List Value) (j : Nat), (spC x ++ T).set ((i + 1) * 7 + j) u = spC x ++ T.set (i * 7 + j) u := fun u T j => by
        rw [List.set_append_right _ _ (by simp; omega)]
        congr 2
        simp
        omega
      have e0 : ∀ (u : Value) (T : List Value), (spC x ++ T).set ((i + 1) * 7) u = spC x ++ T.set (i * 7) u := fun u T => e u T 0
      show spC x ++ rowC (L.set i s) = _
      rw [this]
      show _ = (((((((spC x ++ rowC L).set _ _).set _ _).set _ _).set _ _).set _ _).set _ _).set _ _
      rw [e0, e, e, e, e, e, e]
theorem own_set7 {w w1 w2 w3 w4 w5 w6 w7 : World} {base g cap : Nat} {L : List Spot} (h : w.ownsRow base 313 7 (.slice (some ⟨g, 0, none⟩) L.length cap) L.length (rowC L)) {i : Nat} (hi : i < L.length) (s : Spot)
    (e1 : w1 = w.setCell ⟨g, i * 7, none⟩ (.int .u8 s.a)) (e2 : w2 = w1.setCell ⟨g, i * 7 + 1, none⟩ (.int .u8 s.b)) (e3 : w3 = w2.setCell ⟨g, i * 7 + 2, none⟩ (.int .u8 s.c)) (e4 : w4 = w3.setCell ⟨g, i * 7 + 3, none⟩ (.int .u8 s.d)) (e5 : w5 = w4.setCell ⟨g, i * 7 + 4, none⟩ (.int .i64 s.num)) (e6 : w6 = w5.setCell ⟨g, i * 7 + 5, none⟩ (.string s.line)) (e7 : w7 = w6.setCell ⟨g, i * 7 + 6, none⟩ (.bool s.alive)) :
    w7.ownsRow base 313 7 (.slice (some ⟨g, 0, none⟩) L.length cap) L.length (rowC (L.set i s)) ∧ w.grownBy w7 (some g) := by
  obtain ⟨h1, k1⟩ := h.stored (i * 7) (.int .u8 s.a)
  rw [← e1] at h1 k1
  obtain ⟨h2, k2⟩ := h1.stored (i * 7 + 1) (.int .u8 s.b)
  rw [← e2] at h2 k2
  obtain ⟨h3, k3⟩ := h2.stored (i * 7 + 2) (.int .u8 s.c)
  rw [← e3] at h3 k3
  obtain ⟨h4, k4⟩ := h3.stored (i * 7 + 3) (.int .u8 s.d)
  rw [← e4] at h4 k4
  obtain ⟨h5, k5⟩ := h4.stored (i * 7 + 4) (.int .i64 s.num)
  rw [← e5] at h5 k5
  obtain ⟨h6, k6⟩ := h5.stored (i * 7 + 5) (.string s.line)
  rw [← e6] at h6 k6
  obtain ⟨h7, k7⟩ := h6.stored (i * 7 + 6) (.bool s.alive)
  rw [← e7] at h7 k7
  rw [rowC_set7 L i s hi]
  exact ⟨h7, grown_trans k1 (grown_trans k2 (grown_trans k3 (grown_trans k4 (grown_trans k5 (grown_trans k6 k7)))))⟩

/-- What is read and written as one element is moved ahead. -/
structure DelS (w : World) (g base cap : Nat) (L : List Spot) (vb i : Nat) (s : Spot) : Prop where
  d0 : w.cell? ⟨vb, 0, none⟩ = some (.int .u8 s.a)
  d1 : w.cell? ⟨vb, 1, none⟩ = some (.int .u8 s.b)
  d2 : w.cell? ⟨vb, 2, none⟩ = some (.int .u8 s.c)
  d3 : w.cell? ⟨vb, 3, none⟩ = some (.int .u8 s.d)
  d4 : w.cell? ⟨vb, 4, none⟩ = some (.int .i64 s.num)
  d5 : w.cell? ⟨vb, 5, none⟩ = some (.string s.line)
  d6 : w.cell? ⟨vb, 6, none⟩ = some (.bool s.alive)
  r0 : ∃ t, w.cell? ⟨g, i * 7, none⟩ = some (.int .u8 t)
  r1 : ∃ t, w.cell? ⟨g, i * 7 + 1, none⟩ = some (.int .u8 t)
  r2 : ∃ t, w.cell? ⟨g, i * 7 + 2, none⟩ = some (.int .u8 t)
  r3 : ∃ t, w.cell? ⟨g, i * 7 + 3, none⟩ = some (.int .u8 t)
  r4 : ∃ t, w.cell? ⟨g, i * 7 + 4, none⟩ = some (.int .i64 t)
  r5 : ∃ t, w.cell? ⟨g, i * 7 + 5, none⟩ = some (.string t)
  r6 : ∃ t, w.cell? ⟨g, i * 7 + 6, none⟩ = some (.bool t)
  fz : ∀ x, w.frozen? ⟨g, x, none⟩ = false
  own : w.ownsRow base 313 7 (.slice (some ⟨g, 0, none⟩) L.length cap) L.length (rowC L)
theorem DelS.of {w : World} {g base cap : Nat} {L : List Spot} {vb i : Nat} {s t : Spot} (ho : w.ownsRow base 313 7 (.slice (some ⟨g, 0, none⟩) L.length cap) L.length (rowC L)) (hk : w.heap[vb]? = some (.cells #[.int .u8 s.a, .int .u8 s.b, .int .u8 s.c, .int .u8 s.d, .int .i64 s.num, .string s.line, .bool s.alive] 313 (0, 0))) (ht : L[i]? = some t) : DelS w g base cap L vb i s := by
  obtain ⟨d0, d1, d2, d3, d4, d5, d6⟩ := cells7_of hk
  obtain ⟨b, o, hbo, hb, c0, c1, c2, c3, c4, c5, c6⟩ := (SV.own ho).at ht
  cases hbo
  simp only [Nat.zero_add] at c0 c1 c2 c3 c4 c5 c6
  exact ⟨d0, d1, d2, d3, d4, d5, d6, ⟨_, c0⟩, ⟨_, c1⟩, ⟨_, c2⟩, ⟨_, c3⟩, ⟨_, c4⟩, ⟨_, c5⟩, ⟨_, c6⟩, fun x => World.ownsRow.frozenAt ho x, ho⟩

/-- What stays of the first elements. -/
def keepTo {α : Type} (p : α → Bool) (S : List α) (j : Nat) : List α := (S.take j).filter fun s => !p s
theorem keepTo_succ {α : Type} {p : α → Bool} {S : List α} {j : Nat} {s : α} (h : S[j]? = some s) : keepTo p S (j + 1) = if p s then keepTo p S j else keepTo p S j ++ [s] := by
  unfold keepTo
  rw [List.take_add_one, h]
  simp only [Option.toList_some, List.filter_append]
  cases hq : p s <;> simp [hq]
theorem keepTo_first {α : Type} {p : α → Bool} {S : List α} {i : Nat} (h : S.findIdx? p = some i) : i < S.length ∧ keepTo p S (i + 1) = S.take i := by
  rw [List.findIdx?_eq_some_iff_getElem] at h
  obtain ⟨h1, h2, h3⟩ := h
  refine ⟨h1, ?_⟩
  rw [keepTo_succ (List.getElem?_eq_getElem h1), if_pos h2]
  unfold keepTo
  rw [List.filter_eq_self]
  intro x hx
  obtain ⟨j, hj, rfl⟩ := List.getElem_of_mem hx
  have hj' : j < i := by simp at hj; omega
  rw [List.getElem_take]
  have := h3 j hj'
  simpa using this
theorem keep_none {α : Type} {p : α → Bool} {S : List α} (h : S.findIdx? p = none) : (S.filter fun s => !p s) = S := by
  rw [List.findIdx?_eq_none_iff] at h
  rw [List.filter_eq_self]
  intro x hx
  rw [h x hx]
  rfl
theorem set_take {α : Type} {L : List α} {i : Nat} {s : α} (hi : i < L.length) : (L.set i s).take (i + 1) = L.take i ++ [s] := by
  rw [List.take_add_one, List.getElem?_set_self hi, List.take_set_of_le (Nat.le_refl _)]
  rfl
theorem set_drop {α : Type} {L : List α} {i j : Nat} {s : α} (hi : i < j) : (L.set i s).drop j = L.drop j := List.drop_set_of_lt hi

set_option maxRecDepth 100000 in
set_option maxHeartbeats 6400000 in
theorem del348_any (S : List Spot) (p : Spot → Bool) (f : FuncId) (lb : Array Value) (ef : ∀ args w, (callFunc f args).run Tryz.prog w = .ok (.enter f args) w) (v : Value) (base : Nat) (w : World) (ho : w.ownsRow base 313 7 v S.length (rowC S)) (hbase : base ≤ w.heap.size) (hlen : S.length ≤ 1000000)
    (hp : ∀ s u, Calls Tryz.prog f (#[spV s] ++ lb) u fun e w' => e = .returned (.bool (p s)) ∧ Below u.heap.size u w') :
    Calls Tryz.prog 348 #[v, .func (.func f) #[] lb] w fun e w' => ∃ v', e = .returned v' ∧ w'.ownsRow base 313 7 v' (S.filter fun s => !p s).length (rowC (S.filter fun s => !p s)) ∧ Below base w w' := by
  have HF : Hid (Calls Tryz.prog 283 #[v, .func (.func f) #[] lb] w fun e w' => e = .returned (.int .i64 (idxInt (S.findIdx? p))) ∧ Below w.heap.size w w') := idxf283_any S p f lb ef v w (SV.own ho) hlen (fun s _ u _ => hp s u)
  have HP := hid hp
  clear hp
  cases hq : S.findIdx? p with
  | none =>
    have HQ := hid (keep_none hq)
    rw [hq] at HF
    simp only [idxInt] at HF
    obtain ⟨va, vc, rfl⟩ := (SV.own ho).shape
    have HO := hid ho
    clear ho hq
    go_enter Tryz.func348, Tryz.ntmps348
    go_wp2_with fail
    refine HF.out.mono ?_
    rintro e w1 ⟨rfl, hb1⟩
    clear HF
    go_wp2
    go_ret
    refine ⟨_, rfl, ?_, hb1.mono hbase⟩
    rw [HQ.out]
    exact own_below HO.out hb1 (Nat.le_refl _)
  | some i =>
    obtain ⟨hiS, hfirst⟩ := keepTo_first hq
    rw [hq] at HF
    simp only [idxInt] at HF
    rcases ho.2 with ⟨rfl, h0⟩ | ⟨g, cap, cur, rfl, hg0, _⟩
    · omega
    · have HO : Hid (w.ownsRow base 313 7 (.slice (some ⟨g, 0, none⟩) S.length cap) S.length (rowC S)) := ho
      have HK1 := hid hfirst
      clear ho hq hfirst
      go_enter Tryz.func348, Tryz.ntmps348
      go_wp2_with fail
      refine HF.out.mono ?_
      rintro e w1 ⟨rfl, hb1⟩
      clear HF
      have HO1 : Hid (w1.ownsRow base 313 7 (.slice (some ⟨g, 0, none⟩) S.length cap) S.length (rowC S)) := own_below HO.out hb1 (Nat.le_refl _)
      have hb01 : Below base w w1 := hb1.mono hbase
      have hne : ¬ ((i : Int) = -1) := by omega
      clear HO hb1
      go_wp2
      go_loopw [5, 6] (fun a b wr => ∃ (j : Nat) (L : List Spot), j ≤ S.length ∧ (keepTo p S j).length < j ∧ L.length = S.length ∧ a = .int .i64 ((keepTo p S j).length : Nat) ∧ b = .int .i64 j ∧ Hid (L.take (keepTo p S j).length = keepTo p S j ∧ L.drop j = S.drop j) ∧ Hid (wr.ownsRow base 313 7 (.slice (some ⟨g, 0, none⟩) L.length cap) L.length (rowC L)) ∧ Below base w wr) (fun _ b _ => S.length - (intOf b).toNat)
      case atStart =>
        refine ⟨i + 1, S, by omega, ?_, rfl, ?_, by go_num, ?_, HO1, hb01⟩
        · rw [HK1.out, List.length_take]; omega
        · rw [HK1.out, List.length_take, Nat.min_eq_left (by omega)]
        · exact ⟨by rw [HK1.out, List.length_take, Nat.min_eq_left (by omega)], rfl⟩
      case round =>
        clear HO1 HK1 hne
        obtain ⟨j, L, hj, hkj, hL, rfl, rfl, HL, HO, hbw⟩ := hrel
        have hsz := hbw.size
        obtain ⟨K, hK⟩ : ∃ K, keepTo p S j = K := ⟨_, rfl⟩
        rw [hK] at hkj HL ⊢
        by_cases hlt : j < S.length
        · obtain ⟨s, hs⟩ : ∃ s, S[j]? = some s := ⟨_, List.getElem?_eq_getElem hlt⟩
          have hLs : L[j]? = some s := by
            have h : (L.drop j)[0]? = (S.drop j)[0]? := by rw [HL.out.2]
            rw [List.getElem?_drop, List.getElem?_drop, Nat.add_zero, hs] at h
            exact h
          obtain ⟨b, o, hbo, hb, c0, c1, c2, c3, c4, c5, c6⟩ := (SV.own HO.out).at hLs
          cases hbo
          simp only [Nat.zero_add] at c0 c1 c2 c3 c4 c5 c6
          obtain ⟨w4, hw4⟩ : ∃ w4, w4 = wr.alloc (.cells #[.int .u8 s.a, .int .u8 s.b, .int .u8 s.c, .int .u8 s.d, .int .i64 s.num, .string s.line, .bool s.alive] 313) := ⟨_, rfl⟩
          have hb4 : Below wr.heap.size wr w4 := by rw [hw4]; exact (Below.refl _ _).alloc (Nat.le_refl _) _
          have hk4 := (MapKept.heap_alloc wr (.cells #[.int .u8 s.a, .int .u8 s.b, .int .u8 s.c, .int .u8 s.d, .int .i64 s.num, .string s.line, .bool s.alive] 313)).1
          rw [← hw4] at hk4
          have hs4 : wr.heap.size < w4.heap.size := by rw [hw4]; simp
          obtain ⟨d0, d1, d2, d3, d4, d5, d6⟩ := cells7_of hk4
          have HKS : Hid (keepTo p S (j + 1) = if p s then keepTo p S j else keepTo p S j ++ [s]) := keepTo_succ hs
          have hcall := HP.out s w4
          unfold spV at hcall
          have HK4 := hid hk4
          have HKK := hid hK
          clear hs hLs hk4 hK
          subst hw4
          cases hq : p s with
          | true =>
            rw [hq] at hcall
            go_wp2_with (go_at_fn f; refine hcall.mono ?_; rintro e w5 ⟨rfl, hb5⟩)
            go_roundw
            case rel =>
              have hb45 : Below wr.heap.size wr w5 := hb4.trans (hb5.mono hb4.size)
              have e1 : keepTo p S (j + 1) = K := by rw [HKS.out, if_pos hq, HKK.out]
              refine ⟨_, _, _, _, _, _, _, _, _, _, _, _, _, _, _, _, _, _, _, _, _, _, _, ⟨j + 1, L, by omega, by rw [e1]; omega, hL, by rw [e1], by go_num, ?_, own_below HO.out hb45 (Nat.le_refl _), hbw.trans (hb45.mono (by omega))⟩, rfl⟩
              rw [e1]
              refine ⟨HL.out.1, ?_⟩
              have := HL.out.2
              rw [← List.drop_drop, this, List.drop_drop]
            case measure => simp [intOf]; omega
          | false =>
            rw [hq] at hcall
            have hi : K.length < L.length := by omega
            obtain ⟨t, ht⟩ : ∃ t, L[K.length]? = some t := ⟨_, List.getElem?_eq_getElem hi⟩
            have HN : Hid (∀ w5, Below (wr.alloc (.cells #[.int .u8 s.a, .int .u8 s.b, .int .u8 s.c, .int .u8 s.d, .int .i64 s.num, .string s.line, .bool s.alive] 313)).heap.size (wr.alloc (.cells #[.int .u8 s.a, .int .u8 s.b, .int .u8 s.c, .int .u8 s.d, .int .i64 s.num, .string s.line, .bool s.alive] 313)) w5 → DelS w5 g base cap L wr.heap.size K.length s) := by
              intro w5 hb5
              have hb45 : Below wr.heap.size wr w5 := hb4.trans (hb5.mono hb4.size)
              exact DelS.of (own_below HO.out hb45 (Nat.le_refl _)) ((hb5.block _ hs4).trans HK4.out) ht
            clear d0 d1 d2 d3 d4 d5 d6 ht
            obtain ⟨d0, d1, d2, d3, d4, d5, d6⟩ := cells7_of HK4.out
            go_wp2_with (go_at_fn f; refine hcall.mono ?_; rintro e w5 ⟨rfl, hb5⟩; clear d0 d1 d2 d3 d4 d5 d6 c0 c1 c2 c3 c4 c5 c6; obtain ⟨d0, d1, d2, d3, d4, d5, d6, ⟨_, r0⟩, ⟨_, r1⟩, ⟨_, r2⟩, ⟨_, r3⟩, ⟨_, r4⟩, ⟨_, r5⟩, ⟨_, r6⟩, fz, HO5⟩ := HN.out w5 hb5; have f0 := fz (K.length * 7); have f1 := fz (K.length * 7 + 1); have f2 := fz (K.length * 7 + 2); have f3 := fz (K.length * 7 + 3); have f4 := fz (K.length * 7 + 4); have f5 := fz (K.length * 7 + 5); have f6 := fz (K.length * 7 + 6); clear HN)
            have hi2 : (⟨g, K.length * 7, none⟩ : Addr) = ⟨g, K.length * 7, none⟩ := rfl
            obtain ⟨w7, hw7⟩ : ∃ w7, w7 = ((((((w5.setCell ⟨g, K.length * 7, none⟩ (.int .u8 s.a)).setCell ⟨g, K.length * 7 + 1, none⟩ (.int .u8 s.b)).setCell ⟨g, K.length * 7 + 2, none⟩ (.int .u8 s.c)).setCell ⟨g, K.length * 7 + 3, none⟩ (.int .u8 s.d)).setCell ⟨g, K.length * 7 + 4, none⟩ (.int .i64 s.num)).setCell ⟨g, K.length * 7 + 5, none⟩ (.string s.line)).setCell ⟨g, K.length * 7 + 6, none⟩ (.bool s.alive) := ⟨_, rfl⟩
            rw [← hw7]
            obtain ⟨o7, g7⟩ := own_set7 HO5 hi s rfl rfl rfl rfl rfl rfl hw7
            have hb45 : Below wr.heap.size wr w5 := hb4.trans (hb5.mono hb4.size)
            have hb07 : Below base w w7 := by
              have hb05 : Below base w w5 := hbw.trans (hb45.mono (by omega))
              exact hb05.grown g7 (by have := hb05.size; omega) (fun k hk => by cases hk; exact hg0)
            have HO7 := hid o7
            clear o7 g7 hw7 d0 d1 d2 d3 d4 d5 d6 r0 r1 r2 r3 r4 r5 r6 f0 f1 f2 f3 f4 f5 f6 fz HO5 hb45
            go_wp2
            go_roundw
            case rel =>
              have e1 : keepTo p S (j + 1) = K ++ [s] := by rw [HKS.out, if_neg (by rw [hq]; simp), HKK.out]
              refine ⟨j + 1, by omega, by rw [e1, List.length_append, List.length_singleton]; omega, L.set K.length s, by rw [List.length_set]; exact hL, by rw [e1, List.length_append, List.length_singleton]; omega, by omega, ?_, ?_⟩
              · rw [e1, List.length_append, List.length_singleton]
                refine ⟨by rw [set_take hi, HL.out.1], ?_⟩
                rw [set_drop (by omega), ← List.drop_drop, HL.out.2, List.drop_drop]
              · show World.ownsRow _ _ _ _ _ _ _
                rw [List.length_set]
                exact HO7.out
            case measure => simp [intOf]; omega
        · obtain rfl : j = S.length := by omega
          have HKK : Hid (K = S.filter fun s => !p s) := by
            show _ = _
            rw [← hK]
            unfold keepTo
            rw [List.take_length]
          have hcap : L.length ≤ cap := by
            rcases HO.out.2 with ⟨h', _⟩ | ⟨_, _, _, h', _, _, hnc, _⟩
            · cases h'
            · cases h'; exact hnc
          have hcl : ∀ ty, (Builtin.clear_ #[183] ty #[.slice (some ⟨g, K.length * 7, none⟩) (S.length - K.length) (cap - K.length)]).run Tryz.prog wr = .ok (.tuple #[]) (wr.setCells g (K.length * 7) (Builtin.zeroCells (Value.agg zspot).cells (S.length - K.length)).toList) := fun ty => by
            refine run_clear_row wr 183 313 ty (Value.agg zspot) Tryz.underlying183 Tryz.zeroValue313 (by decide) g (K.length * 7) _ _ (by omega) (fun x hx => ?_) (fun x hx => World.ownsRow.frozenAt HO.out _)
            have hx7 : x < (S.length - K.length) * 7 := hx
            rw [World.ownsRow.cellAt HO.out _ (by omega), List.getElem?_eq_getElem (by rw [rowC_len]; omega)]
            rfl
          obtain ⟨w6, hw6⟩ : ∃ w6, w6 = wr.setCells g (K.length * 7) (Builtin.zeroCells (Value.agg zspot).cells (S.length - K.length)).toList := ⟨_, rfl⟩
          rw [← hw6] at hcl
          obtain ⟨o6, g6⟩ := own_setCells (Builtin.zeroCells (Value.agg zspot).cells (S.length - K.length)).toList wr (K.length * 7) (own_cut HO.out (i := K.length) (by omega)) (by rw [List.length_take]; omega)
          rw [← hw6] at o6 g6
          rw [rowC_take L _ (by omega), HL.out.1] at o6
          have hb06 : Below base w w6 := hbw.grown g6 (by omega) (fun k hk => by cases hk; exact hg0)
          have HO6 := hid o6
          have hk1 : (K.length : Int) ≤ (S.length : Int) := by omega
          have hk2 : (S.length : Int) ≤ (cap : Int) := by omega
          clear o6 g6 hw6 hK HL HO
          go_wp2
          go_ret
          refine ⟨_, rfl, ?_, hb06⟩
          rw [← HKK.out]
          exact HO6.out
end Go.Proofs.YtgdfipmdmgkidaaGreatDoor

/- What a change kills; what a removal names. -/
namespace Go.Proofs.YtgdfipmdmgkidaaGreatDoor
open Go.RowKit

set_option maxRecDepth 100000 in
theorem dead349_any (s : Spot) (w : World) : Calls Tryz.prog 349 #[spV s] w fun e w' => e = .returned (.bool (!s.alive)) ∧ Below w.heap.size w w' := by
  obtain ⟨w1, hw1⟩ : ∃ w1, w1 = w.alloc (.cells #[.int .u8 s.a, .int .u8 s.b, .int .u8 s.c, .int .u8 s.d, .int .i64 s.num, .string s.line, .bool s.alive] 313) := ⟨_, rfl⟩
  have hb1 : Below w.heap.size w w1 := by rw [hw1]; exact (Below.refl _ _).alloc (Nat.le_refl _) _
  have hk1 := (MapKept.heap_alloc w (.cells #[.int .u8 s.a, .int .u8 s.b, .int .u8 s.c, .int .u8 s.d, .int .i64 s.num, .string s.line, .bool s.alive] 313)).1
  rw [← hw1] at hk1
  obtain ⟨d0, d1, d2, d3, d4, d5, d6⟩ := cells7_of hk1
  clear hk1
  unfold spV
  subst hw1
  go_enter Tryz.func349, Tryz.ntmps349
  go_wp2
  go_ret
  exact ⟨rfl, hb1⟩

set_option maxRecDepth 100000 in
theorem killed347_any (S : List Spot) (v0 : Value) (w : World) (hv : SV w v0 S) (hlen : S.length ≤ 1000000) :
    Calls Tryz.prog 347 #[v0] w fun e w' => ∃ v, e = .returned v ∧ w'.ownsRow w.heap.size 313 7 v (killedS S).length (rowC (killedS S)) ∧ Below w.heap.size w w' := by
  have HC := hid (clone187_any S v0 w hv hlen)
  have HA : Hid ((S.filter fun s => !!s.alive) = aliveOf S) := by show _ = _; unfold aliveOf; congr 1; funext s; simp
  obtain ⟨ao, cap, rfl⟩ := hv.shape
  clear hv
  go_enter Tryz.func347, Tryz.ntmps347
  go_wp2_with fail
  refine HC.out.mono ?_
  rintro e w1 ⟨v1, rfl, h1, hb1⟩
  clear HC
  have HD : Hid (Calls Tryz.prog 348 #[v1, .func (.func 349) #[] #[]] w1 fun e w' => ∃ v', e = .returned v' ∧ w'.ownsRow w.heap.size 313 7 v' (S.filter fun s => !!s.alive).length (rowC (S.filter fun s => !!s.alive)) ∧ Below w.heap.size w1 w') := del348_any S (fun s => !s.alive) 349 #[] (fun _ _ => by kernel_rfl) v1 w.heap.size w1 h1 hb1.size hlen (fun s u => dead349_any s u)
  have hs1 := hb1.size
  obtain ⟨va, vc, rfl⟩ := (SV.own h1).shape
  clear h1
  go_wp2_with fail
  refine HD.out.mono ?_
  rintro e w2 ⟨v2, rfl, h2, hb2⟩
  clear HD
  rw [HA.out] at h2
  have hl2 : (aliveOf S).length ≤ 1000000 := Nat.le_trans (List.length_filter_le _ _) hlen
  have HE : Hid (Calls Tryz.prog 345 #[v2] w2 fun e w' => ∃ v, e = .returned v ∧ w'.ownsRow w2.heap.size 313 7 v (deadRow (aliveOf S)).length (rowC (deadRow (aliveOf S))) ∧ Below w2.heap.size w2 w') := dead244_any _ v2 w2 (SV.own h2) hl2
  have hs2 := hb2.size
  obtain ⟨xa, xc, rfl⟩ := (SV.own h2).shape
  have hb02 : Below w.heap.size w w2 := hb1.trans hb2
  clear h2 hb2
  go_wp2_with fail
  refine HE.out.mono ?_
  rintro e w3 ⟨v3, rfl, h3, hb3⟩
  clear HE
  go_wp2
  go_ret
  exact ⟨_, rfl, ownsRow_mono h3 (by omega), hb02.trans (hb3.mono (by omega))⟩

set_option maxRecDepth 100000 in
theorem kills334_any (i l : Pid) (rv : Value) (S : List Spot) (w : World) (hr : SV w rv S) :
    Calls Tryz.prog 334 #[.agg #[.int .u8 i.a, .int .u8 i.b, .int .u8 i.c, .int .u8 i.d, .int .u8 l.a, .int .u8 l.b, .int .u8 l.c, .int .u8 l.d, rv]] w fun e w' => ∃ v, e = .returned v ∧ SV w' v [] ∧ Below w.heap.size w w' := by
  obtain ⟨ra, rc, rfl⟩ := hr.shape
  clear hr
  go_enter Tryz.func334, Tryz.ntmps334
  go_wp2
  go_ret
  exact ⟨_, rfl, .inl ⟨rfl, rfl⟩, (Below.refl _ _).alloc (Nat.le_refl _) _⟩

/-- What the first hunks kill. -/
def klTo (Hs : List Hk) (k : Nat) : List Spot := (Hs.take k).flatMap fun h => killedS (midRow h.N)
theorem klTo_succ {Hs : List Hk} {k : Nat} {x : Hk} (h : Hs[k]? = some x) : klTo Hs (k + 1) = klTo Hs k ++ killedS (midRow x.N) := by
  unfold klTo
  rw [List.take_add_one, h]
  simp
theorem killed_len (S : List Spot) : (killedS S).length ≤ S.length := by
  unfold killedS deadRow aliveOf
  rw [List.length_map]
  exact List.length_filter_le _ _
theorem mid_len (S : List Spot) : (midRow S).length ≤ S.length := by unfold midRow; simp; omega
theorem klTo_len {Hs : List Hk} (k : Nat) {m : Nat} (h : ∀ x ∈ Hs, x.N.length ≤ m) : (klTo Hs k).length ≤ Hs.length * m := by
  have h1 : ∀ L : List Hk, (∀ x ∈ L, x.N.length ≤ m) → (L.flatMap fun h => killedS (midRow h.N)).length ≤ L.length * m := by
    intro L
    induction L with
    | nil => simp
    | cons x L ih =>
      intro hL
      have := ih (fun y hy => hL y (List.mem_cons_of_mem _ hy))
      have := hL x List.mem_cons_self
      have := killed_len (midRow x.N)
      have := mid_len x.N
      simp only [List.flatMap_cons, List.length_append, List.length_cons, Nat.add_mul]
      omega
  have h2 := h1 (Hs.take k) (fun x hx => h x (List.mem_of_mem_take hx))
  have h3 : (Hs.take k).length * m ≤ Hs.length * m := Nat.mul_le_mul_right _ (by simp; omega)
  unfold klTo
  omega

set_option maxRecDepth 100000 in
set_option maxHeartbeats 3200000 in
theorem kills352_any (i : Pid) (hv : Value) (Hs : List Hk) (w : World) (hh : HV w hv Hs) (hl : Hs.length ≤ 1000) (hN : ∀ x ∈ Hs, x.N.length ≤ 1000 ∧ 2 ≤ x.N.length) :
    Calls Tryz.prog 352 #[.agg #[.int .u8 i.a, .int .u8 i.b, .int .u8 i.c, .int .u8 i.d, hv]] w fun e w' => ∃ v, e = .returned v ∧ SV w' v (Hs.flatMap fun h => killedS (midRow h.N)) ∧ Below w.heap.size w w' := by
  have HH := hid hh
  obtain ⟨ha, hc, rfl, _⟩ := hh
  obtain ⟨w1, hw1⟩ : ∃ w1, w1 = w.alloc (.cells #[.int .u8 i.a, .int .u8 i.b, .int .u8 i.c, .int .u8 i.d, .slice ha Hs.length hc] 288) := ⟨_, rfl⟩
  have hb1 : Below w.heap.size w w1 := by rw [hw1]; exact (Below.refl _ _).alloc (Nat.le_refl _) _
  have hk1 := (MapKept.heap_alloc w (.cells #[.int .u8 i.a, .int .u8 i.b, .int .u8 i.c, .int .u8 i.d, .slice ha Hs.length hc] 288)).1
  rw [← hw1] at hk1
  obtain ⟨i0, i1, i2, i3, i4⟩ := cells5_of hk1
  have HN : Hid (∀ k, (klTo Hs k).length ≤ Hs.length * 1000) := fun k => klTo_len k (fun x hx => (hN x hx).1)
  have HN2 := hid hN
  have hl3 : Hs.length * 1000 ≤ 1000000 := by omega
  clear hk1 hN
  go_enter Tryz.func352, Tryz.ntmps352
  go_wp2_with fail
  rw [← hw1]
  clear hw1
  go_wp2
  clear i0 i1 i2 i3 i4
  go_loopw [3, 9] (fun v x wr => ∃ k : Nat, k ≤ Hs.length ∧ x = .int .i64 k ∧ Hid (wr.ownsRow w.heap.size 313 7 v (klTo Hs k).length (rowC (klTo Hs k))) ∧ Below w.heap.size w wr) (fun _ x _ => Hs.length - (intOf x).toNat)
  case atStart => exact ⟨0, Nat.zero_le _, rfl, World.ownsRow_nil _ _ _ _, hb1⟩
  case round =>
    obtain ⟨k, hk, rfl, HO, hbw⟩ := hrel
    have hsz := hbw.size
    by_cases hlt : k < Hs.length
    · obtain ⟨x, hx⟩ : ∃ x, Hs[k]? = some x := ⟨_, List.getElem?_eq_getElem hlt⟩
      obtain ⟨b, o, rfl, hb, c0, c1, s0, s1⟩ := (HH.out.below hbw (Nat.le_refl _)).nth hx
      obtain ⟨hN1, hN2⟩ := HN2.out x (List.mem_of_getElem? hx)
      obtain ⟨na, nc, hne⟩ := s0.shape
      obtain ⟨ba, bc, hbe⟩ := s1.shape
      rw [hne] at c0 s0
      rw [hbe] at c1
      have HS := hid (klTo_succ hx)
      have hlen := HN.out (k + 1)
      rw [HS.out, List.length_append] at hlen
      obtain ⟨w4, hw4⟩ : ∃ w4, w4 = wr.alloc (.cells #[.slice na x.N.length nc, .slice ba x.Br.length bc] 327) := ⟨_, rfl⟩
      have hb4 : Below wr.heap.size wr w4 := by rw [hw4]; exact (Below.refl _ _).alloc (Nat.le_refl _) _
      have hk4 := (MapKept.heap_alloc wr (.cells #[.slice na x.N.length nc, .slice ba x.Br.length bc] 327)).1
      rw [← hw4] at hk4
      obtain ⟨d0, d1⟩ := cells2_of hk4
      have s4 := s0.below hb4 (Nat.le_refl _)
      have HB : Hid (Calls Tryz.prog 360 #[.agg #[.slice na x.N.length nc, .slice ba x.Br.length bc]] w4 fun e w' => ∃ ma mc, e = .returned (.slice ma (midRow x.N).length mc) ∧ SV w' (.slice ma (midRow x.N).length mc) (midRow x.N) ∧ Below w4.heap.size w4 w') := by
        refine (between251_any x.N (.slice na x.N.length nc) (.slice ba x.Br.length bc) ba x.Br.length bc rfl w4 s4 (by omega) hN2).mono ?_
        rintro e w' ⟨v, rfl, hv, hb⟩
        obtain ⟨ma, mc, rfl⟩ := hv.shape
        exact ⟨ma, mc, rfl, hv, hb⟩
      have ho4 := own_below HO.out hb4 (Nat.le_refl _)
      have hb04 : Below w.heap.size w w4 := hbw.trans (hb4.mono hsz)
      have hsz4 := hb04.size
      have hml := mid_len x.N
      clear hx hne hbe s0 s1 hk4 hb4 s4 HO
      subst hw4
      go_wp2_with fail
      refine HB.out.mono ?_
      rintro e w5 ⟨ma, mc, rfl, hv5, hb5⟩
      clear HB d0 d1 c0 c1
      have HC : Hid (Calls Tryz.prog 347 #[.slice ma (midRow x.N).length mc] w5 fun e w' => ∃ v, e = .returned v ∧ w'.ownsRow w5.heap.size 313 7 v (killedS (midRow x.N)).length (rowC (killedS (midRow x.N))) ∧ Below w5.heap.size w5 w') := killed347_any (midRow x.N) _ w5 hv5 (by omega)
      have ho5 := own_below ho4 hb5 (Nat.le_refl _)
      have hb05 : Below w.heap.size w w5 := hb04.trans (hb5.mono hsz4)
      have hsz5 := hb05.size
      clear ho4 hb04 hv5
      go_wp2_with fail
      refine HC.out.mono ?_
      rintro e w6 ⟨v6, rfl, h6, hb6⟩
      clear HC
      have ho6 := own_below ho5 hb6 (Nat.le_refl _)
      have hb06 : Below w.heap.size w w6 := hb05.trans (hb6.mono hsz5)
      have hsz6 := hb06.size
      have s6 := SV.own h6
      clear ho5 hb05 h6 hb6
      generalize klTo Hs k = A at *
      generalize killedS (midRow x.N) = D at *
      obtain ⟨xa, xc, rfl⟩ := s6.shape
      go_wp2_with (at_builtin; refine wpList_append_row _ rfl _ _ rfl w.heap.size _ A D _ rfl ho6 rfl s6 (by omega) hsz6 ?_)
      intro v' w7 h1 h2
      have hb7 := step_any (Nat.le_refl _) ho6 hb06 hsz6 h2
      clear h2 ho6 hb06 s6
      go_wp2
      go_roundw
      case rel => exact ⟨k + 1, by omega, by go_num, by show World.ownsRow _ _ _ _ _ _ _; rw [HS.out, rowC_app, List.length_append]; exact h1, hb7⟩
      case measure => simp [intOf]; omega
    · obtain rfl : k = Hs.length := by omega
      go_wp2
      go_ret
      refine ⟨_, rfl, ?_, hbw⟩
      have := SV.own HO.out
      unfold klTo at this
      rw [List.take_length] at this
      exact this

set_option maxRecDepth 100000 in
set_option maxHeartbeats 3200000 in
theorem names343_any (i : Pid) (rv : Value) (S : List Spot) (w : World) (hr : SV w rv S) (hS : S.length ≤ 100000) :
    Calls Tryz.prog 343 #[.agg #[.int .u8 i.a, .int .u8 i.b, .int .u8 i.c, .int .u8 i.d, rv]] w fun e w' => ∃ v, e = .returned v ∧ SV w' v (wholeS i true :: S) ∧ Below w.heap.size w w' := by
  obtain ⟨ra, rc, rfl⟩ := hr.shape
  obtain ⟨w1, hw1⟩ : ∃ w1, w1 = w.alloc (.cells #[.int .u8 i.a, .int .u8 i.b, .int .u8 i.c, .int .u8 i.d, .slice ra S.length rc] 284) := ⟨_, rfl⟩
  have hb1 : Below w.heap.size w w1 := by rw [hw1]; exact (Below.refl _ _).alloc (Nat.le_refl _) _
  have hk1 := (MapKept.heap_alloc w (.cells #[.int .u8 i.a, .int .u8 i.b, .int .u8 i.c, .int .u8 i.d, .slice ra S.length rc] 284)).1
  rw [← hw1] at hk1
  have HK := hid hk1
  have hs1 : w.heap.size < w1.heap.size := by rw [hw1]; simp
  obtain ⟨a0, a1, a2, a3, a4⟩ := cells5_of hk1
  have HS0 : Hid (w1.drew.cell? ⟨w.heap.size, 0, none⟩ = some (.int .u8 i.a) ∧ w1.drew.cell? ⟨w.heap.size, 1, none⟩ = some (.int .u8 i.b) ∧ w1.drew.cell? ⟨w.heap.size, 2, none⟩ = some (.int .u8 i.c) ∧ w1.drew.cell? ⟨w.heap.size, 3, none⟩ = some (.int .u8 i.d) ∧ w1.drew.cell? ⟨w.heap.size, 4, none⟩ = some (.slice ra S.length rc)) := ⟨a0, a1, a2, a3, a4⟩
  have HW : Hid (Calls Tryz.prog 337 #[.agg #[.int .u8 i.a, .int .u8 i.b, .int .u8 i.c, .int .u8 i.d], .bool true] w1.drew fun e w' => ∃ g, e = .returned (.slice (some ⟨g, 0, none⟩) 1 1) ∧ SV w' (.slice (some ⟨g, 0, none⟩) 1 1) [wholeS i true] ∧ Below w1.heap.size w1 w') := by
    refine (whole337_any i true w1.drew).mono ?_
    rintro e w' ⟨g, rfl, ho, hb⟩
    exact ⟨g, rfl, SV.own ho, (Below.refl _ w1).drew.trans hb⟩
  have hr1 : SV w1 (.slice ra S.length rc) S := hr.below hb1 (Nat.le_refl _)
  clear hk1 a0 a1 a2 a3 a4 hr
  go_enter Tryz.func343, Tryz.ntmps343
  go_wp2_with fail
  rw [← hw1]
  clear hw1
  refine wp_region_Z (fun w' => w'.cell? ⟨w.heap.size, 0, none⟩ = some (.int .u8 i.a) ∧ w'.cell? ⟨w.heap.size, 1, none⟩ = some (.int .u8 i.b) ∧ w'.cell? ⟨w.heap.size, 2, none⟩ = some (.int .u8 i.c) ∧ w'.cell? ⟨w.heap.size, 3, none⟩ = some (.int .u8 i.d) ∧ w'.cell? ⟨w.heap.size, 4, none⟩ = some (.slice ra S.length rc)) 99 (by kernel_rfl) ?_
  refine zt 0 (v := ?v0) HS0.out (fun w0 hS0 => ?hy) ?_
  case hy => obtain ⟨s0, s1, s2, s3, s4⟩ := hS0; go_simp; with_reducible rfl
  simp only [Act.put, List.setIfInBounds_toArray]
  refine zt 1 (v := ?v1) HS0.out (fun w0 hS0 => ?hy) ?_
  case hy => obtain ⟨s0, s1, s2, s3, s4⟩ := hS0; go_simp; with_reducible rfl
  simp only [Act.put]
  refine zt 3 (v := ?v3) HS0.out (fun w0 hS0 => ?hy) ?_
  case hy => obtain ⟨s0, s1, s2, s3, s4⟩ := hS0; go_simp; with_reducible rfl
  simp only [Act.put]
  refine zt 4 (v := ?v4) HS0.out (fun w0 hS0 => ?hy) ?_
  case hy => obtain ⟨s0, s1, s2, s3, s4⟩ := hS0; go_simp; with_reducible rfl
  simp only [Act.put]
  refine wpZ_one 2 _ rfl (by kernel_rfl) (fun KK hK => ?_)
  go_simp
  refine HW.out.mono ?_
  rintro e w2 ⟨g, rfl, hv2, hb2⟩
  clear HW
  dsimp only
  have hk2 := (hb2.block w.heap.size hs1).trans HK.out
  have hc2 := cells5_of hk2
  refine hK.out _ _ (fun _ => hc2) ?_
  clear hK
  have hr2 := hr1.below hb2 (Nat.le_refl _)
  have hb02 : Below w.heap.size w w2 := hb1.trans (hb2.mono hb1.size)
  refine wpZ_one 5 _ rfl (by kernel_rfl) (fun KK hK => ?_)
  go_simp
  obtain ⟨w3, hw3⟩ : ∃ w3, w3 = w2.alloc (.cells #[.slice (some ⟨g, 0, none⟩) 1 1, .slice ra S.length rc] 183) := ⟨_, rfl⟩
  have hb3 : Below w2.heap.size w2 w3 := by rw [hw3]; exact (Below.refl _ _).alloc (Nat.le_refl _) _
  have hk3 := (MapKept.heap_alloc w2 (.cells #[.slice (some ⟨g, 0, none⟩) 1 1, .slice ra S.length rc] 183)).1
  rw [← hw3] at hk3 ⊢
  have hs3 : w2.heap.size < w3.heap.size := by rw [hw3]; simp
  have hsw : w.heap.size < w2.heap.size := by have := hb2.size; omega
  have hc3 := cells5_of ((hb3.block w.heap.size hsw).trans hk2)
  refine hK.out _ _ (fun _ => hc3) ?_
  clear hK
  obtain ⟨e0, e1⟩ := cells2_of hk3
  have HR : Hid (Calls Tryz.prog 267 #[.slice (some ⟨w2.heap.size, 0, none⟩) 2 2] w3 fun e w' => ∃ v, e = .returned v ∧ SV w' v (wholeS i true :: S) ∧ Below w3.heap.size w3 w') := by
    refine (concat195_any [(.slice (some ⟨g, 0, none⟩) 1 1, [wholeS i true]), (.slice ra S.length rc, S)] _ w3 ⟨some ⟨w2.heap.size, 0, none⟩, 2, rfl, fun k r hk => ?_⟩ (fun r hr => ?_) (by simp) (by simp; omega)).mono ?_
    · refine ⟨w2.heap.size, 0, rfl, hs3, ?_⟩
      match k, hk with
      | 0, hk => cases hk; exact e0
      | 1, hk => cases hk; exact e1
    · simp only [List.mem_cons, List.not_mem_nil, or_false] at hr
      rcases hr with rfl | rfl
      · exact hv2.below hb3 (Nat.le_refl _)
      · exact hr2.below hb3 (Nat.le_refl _)
    · rintro e w' ⟨v, rfl, ho, hb⟩
      refine ⟨v, rfl, ?_, hb⟩
      have := SV.own ho
      simpa using this
  have hb03 : Below w.heap.size w w3 := hb02.trans (hb3.mono hb02.size)
  clear hw3 hk3 hr2 hv2 hr1
  refine wpZ_one 6 _ rfl (by kernel_rfl) (fun KK hK => ?_)
  go_simp
  refine HR.out.mono ?_
  rintro e w4 ⟨v4, rfl, hv4, hb4⟩
  clear HR
  dsimp only
  have hsw3 := hb3.size
  have hc4 := cells5_of ((hb4.block w.heap.size (by omega)).trans ((hb3.block w.heap.size hsw).trans hk2))
  refine hK.out _ _ (fun _ => hc4) ?_
  clear hK
  refine wpZ_one 7 _ rfl (by kernel_rfl) (fun KK hK => ?_)
  go_simp
  refine hK.out _ _ (fun _ => hc4) ?_
  clear hK
  refine wpZ_done (by kernel_rfl) ?_ _
  go_wp2
  go_ret
  exact ⟨_, rfl, hv4, hb03.trans (hb4.mono hb03.size)⟩

set_option maxRecDepth 100000 in
theorem kills342_any (i : Pid) (rv : Value) (S : List Spot) (w : World) (hr : SV w rv S) (hS : S.length ≤ 100000) :
    Calls Tryz.prog 342 #[.agg #[.int .u8 i.a, .int .u8 i.b, .int .u8 i.c, .int .u8 i.d, rv]] w fun e w' => ∃ v, e = .returned v ∧ SV w' v (killedS (wholeS i true :: S)) ∧ Below w.heap.size w w' := by
  have hr0 := hr
  obtain ⟨ra, rc, rfl⟩ := hr.shape
  obtain ⟨w1, hw1⟩ : ∃ w1, w1 = w.alloc (.cells #[.int .u8 i.a, .int .u8 i.b, .int .u8 i.c, .int .u8 i.d, .slice ra S.length rc] 284) := ⟨_, rfl⟩
  have hb1 : Below w.heap.size w w1 := by rw [hw1]; exact (Below.refl _ _).alloc (Nat.le_refl _) _
  have hk1 := (MapKept.heap_alloc w (.cells #[.int .u8 i.a, .int .u8 i.b, .int .u8 i.c, .int .u8 i.d, .slice ra S.length rc] 284)).1
  rw [← hw1] at hk1
  obtain ⟨a0, a1, a2, a3, a4⟩ := cells5_of hk1
  have HN : Hid (Calls Tryz.prog 343 #[.agg #[.int .u8 i.a, .int .u8 i.b, .int .u8 i.c, .int .u8 i.d, .slice ra S.length rc]] w1 fun e w' => ∃ v, e = .returned v ∧ SV w' v (wholeS i true :: S) ∧ Below w1.heap.size w1 w') := names343_any i _ S w1 (hr0.below hb1 (Nat.le_refl _)) hS
  clear hk1 hr hr0
  subst hw1
  go_enter Tryz.func342, Tryz.ntmps342
  go_wp2_with fail
  refine HN.out.mono ?_
  rintro e w2 ⟨v2, rfl, hv2, hb2⟩
  clear HN a0 a1 a2 a3 a4
  have HK : Hid (Calls Tryz.prog 347 #[v2] w2 fun e w' => ∃ v, e = .returned v ∧ w'.ownsRow w2.heap.size 313 7 v (killedS (wholeS i true :: S)).length (rowC (killedS (wholeS i true :: S))) ∧ Below w2.heap.size w2 w') := killed347_any _ v2 w2 hv2 (by simp; omega)
  have hb02 := hb1.trans (hb2.mono hb1.size)
  obtain ⟨xa, xc, rfl⟩ := hv2.shape
  clear hv2
  go_wp2_with fail
  refine HK.out.mono ?_
  rintro e w3 ⟨v3, rfl, h3, hb3⟩
  clear HK
  go_wp2
  go_ret
  exact ⟨_, rfl, SV.own h3, hb02.trans (hb3.mono hb02.size)⟩

/-- The functions that tell what a change names, and kills. -/
def chNames : ChM → FuncId
  | .add .. => 335
  | .remove .. => 343
  | .alter .. => 353
def chKills : ChM → FuncId
  | .add .. => 334
  | .remove .. => 342
  | .alter .. => 352
/-- What is asked of a change's size. -/
def ChSmall : ChM → Prop
  | .add _ _ _ S => S.length ≤ 100000
  | .remove _ _ S => S.length ≤ 100000
  | .alter _ _ Hs => Hs.length ≤ 900 ∧ ∀ x ∈ Hs, x.N.length ≤ 1000 ∧ 2 ≤ x.N.length
theorem names_any (c : ChM) (w : World) (h : ChOK w c) (hs : ChSmall c) : Calls Tryz.prog (chNames c) #[chIn c] w fun e w' => ∃ v, e = .returned v ∧ SV w' v (namesOf c) ∧ Below w.heap.size w w' := by
  cases c with
  | add i l rv S => exact names335_any i l rv S w h
  | remove i rv S => exact names343_any i rv S w h hs
  | alter i hv Hs => exact names353_any i hv Hs w h (by have := hs.1; omega) (fun x hx => (hs.2 x hx).1)
theorem kills_any (c : ChM) (w : World) (h : ChOK w c) (hs : ChSmall c) : Calls Tryz.prog (chKills c) #[chIn c] w fun e w' => ∃ v, e = .returned v ∧ SV w' v (killsOf c) ∧ Below w.heap.size w w' := by
  cases c with
  | add i l rv S => exact kills334_any i l rv S w h
  | remove i rv S => exact kills342_any i rv S w h hs
  | alter i hv Hs => exact kills352_any i hv Hs w h (by have := hs.1; omega) hs.2
theorem names_len {c : ChM} (hs : ChSmall c) : (namesOf c).length ≤ 1000000 := by
  cases c with
  | add i l rv S => simp [namesOf]
  | remove i rv S => have : S.length ≤ 100000 := hs; simp [namesOf]; omega
  | alter i hv Hs =>
    have := nmTo_len (i := i) Hs.length (fun x hx => (hs.2 x hx).1)
    unfold nmTo at this
    rw [List.take_length] at this
    have h1 := hs.1
    show (wholeS i true :: Hs.flatMap (·.N)).length ≤ _
    omega
theorem kills_len {c : ChM} (hs : ChSmall c) : (killsOf c).length ≤ 1000000 := by
  cases c with
  | add i l rv S => simp [killsOf]
  | remove i rv S =>
    have : S.length ≤ 100000 := hs
    have := killed_len (wholeS i true :: S)
    show (killedS (wholeS i true :: S)).length ≤ _
    simp at this
    omega
  | alter i hv Hs =>
    have := klTo_len Hs.length (fun x hx => (hs.2 x hx).1)
    unfold klTo at this
    rw [List.take_length] at this
    have h1 := hs.1
    show (Hs.flatMap fun h => killedS (midRow h.N)).length ≤ _
    omega
end Go.Proofs.YtgdfipmdmgkidaaGreatDoor
