/- What a change names. -/
import Derived.Test.YtgdfipmdmgkidaaGreatDoorQneed
import Derived.Lib.SliceRun
set_option maxRecDepth 100000
namespace Go.Proofs.YtgdfipmdmgkidaaGreatDoor
open Go.RowKit
theorem names335_any (i l : Pid) (rv : Value) (S : List Spot) (w : World) (hr : SV w rv S) :
    Calls Tryz.prog 335 #[.agg #[.int .u8 i.a, .int .u8 i.b, .int .u8 i.c, .int .u8 i.d, .int .u8 l.a, .int .u8 l.b, .int .u8 l.c, .int .u8 l.d, rv]] w fun e w' => ∃ v, e = .returned v ∧ SV w' v [wholeS l false] ∧ Below w.heap.size w w' := by
  obtain ⟨ra, rc, rfl⟩ := hr.shape
  obtain ⟨w1, hw1⟩ : ∃ w1, w1 = w.alloc (.cells #[.int .u8 i.a, .int .u8 i.b, .int .u8 i.c, .int .u8 i.d, .int .u8 l.a, .int .u8 l.b, .int .u8 l.c, .int .u8 l.d, .slice ra S.length rc] 282) := ⟨_, rfl⟩
  have hb1 : Below w.heap.size w w1 := by rw [hw1]; exact (Below.refl _ _).alloc (Nat.le_refl _) _
  have hk1 := (MapKept.heap_alloc w (.cells #[.int .u8 i.a, .int .u8 i.b, .int .u8 i.c, .int .u8 i.d, .int .u8 l.a, .int .u8 l.b, .int .u8 l.c, .int .u8 l.d, .slice ra S.length rc] 282)).1
  rw [← hw1] at hk1
  have i0 : w1.cell? ⟨w.heap.size, 4, none⟩ = some (.int .u8 l.a) := by simp [World.cell?, hk1]
  have i1 : w1.cell? ⟨w.heap.size, 5, none⟩ = some (.int .u8 l.b) := by simp [World.cell?, hk1]
  have i2 : w1.cell? ⟨w.heap.size, 6, none⟩ = some (.int .u8 l.c) := by simp [World.cell?, hk1]
  have i3 : w1.cell? ⟨w.heap.size, 7, none⟩ = some (.int .u8 l.d) := by simp [World.cell?, hk1]
  have HC := whole337_any l false w1
  clear hk1 hr
  subst hw1
  go_enter Tryz.func335, Tryz.ntmps335
  go_wp2_with fail
  refine HC.mono ?_
  rintro e w' ⟨g, rfl, ho, hb⟩
  clear HC i0 i1 i2 i3
  go_wp2
  go_ret
  exact ⟨_, rfl, SV.own ho, hb1.trans (hb.mono hb1.size)⟩
theorem HV.nth {w : World} {ha : Option Addr} {hn hc : Nat} {Hs : List Hk} (h : HV w (.slice ha hn hc) Hs) {k : Nat} {x : Hk} (hk : Hs[k]? = some x) : ∃ b o, ha = some ⟨b, o, none⟩ ∧ TB w b 327 ∧ w.cell? ⟨b, o + k * 2, none⟩ = some x.nv ∧ w.cell? ⟨b, o + k * 2 + 1, none⟩ = some x.bv ∧ SV w x.nv x.N ∧ SV w x.bv x.Br := by
  obtain ⟨_, _, e, hcc⟩ := h
  cases e
  exact hcc k x hk
def nmTo (i : Pid) (Hs : List Hk) (k : Nat) : List Spot := wholeS i true :: (Hs.take k).flatMap (·.N)
theorem nmTo_succ {i : Pid} {Hs : List Hk} {k : Nat} {x : Hk} (h : Hs[k]? = some x) : nmTo i Hs (k + 1) = nmTo i Hs k ++ x.N := by
  unfold nmTo
  rw [List.take_add_one, h]
  simp
theorem nmTo_len {i : Pid} {Hs : List Hk} (k : Nat) {m : Nat} (h : ∀ x ∈ Hs, x.N.length ≤ m) : (nmTo i Hs k).length ≤ 1 + Hs.length * m := by
  unfold nmTo
  have h1 : ∀ L : List Hk, (∀ x ∈ L, x.N.length ≤ m) → (L.flatMap (·.N)).length ≤ L.length * m := by
    intro L
    induction L with
    | nil => simp
    | cons x L ih =>
      intro hL
      have := ih (fun y hy => hL y (List.mem_cons_of_mem _ hy))
      have := hL x List.mem_cons_self
      simp only [List.flatMap_cons, List.length_append, List.length_cons, Nat.add_mul]
      omega
  have h2 := h1 (Hs.take k) (fun x hx => h x (List.mem_of_mem_take hx))
  have h3 : (Hs.take k).length * m ≤ Hs.length * m := Nat.mul_le_mul_right _ (by simp; omega)
  simp only [List.length_cons]
  omega
set_option maxHeartbeats 3200000 in
theorem names353_any (i : Pid) (hv : Value) (Hs : List Hk) (w : World) (hh : HV w hv Hs) (hl : Hs.length ≤ 1000) (hN : ∀ x ∈ Hs, x.N.length ≤ 1000) :
    Calls Tryz.prog 353 #[.agg #[.int .u8 i.a, .int .u8 i.b, .int .u8 i.c, .int .u8 i.d, hv]] w fun e w' => ∃ v, e = .returned v ∧ SV w' v (wholeS i true :: Hs.flatMap (·.N)) ∧ Below w.heap.size w w' := by
  have HH := hid hh
  obtain ⟨ha, hc, rfl, _⟩ := hh
  obtain ⟨w1, hw1⟩ : ∃ w1, w1 = w.alloc (.cells #[.int .u8 i.a, .int .u8 i.b, .int .u8 i.c, .int .u8 i.d, .slice ha Hs.length hc] 288) := ⟨_, rfl⟩
  have hb1 : Below w.heap.size w w1 := by rw [hw1]; exact (Below.refl _ _).alloc (Nat.le_refl _) _
  have hk1 := (MapKept.heap_alloc w (.cells #[.int .u8 i.a, .int .u8 i.b, .int .u8 i.c, .int .u8 i.d, .slice ha Hs.length hc] 288)).1
  rw [← hw1] at hk1
  obtain ⟨i0, i1, i2, i3, i4⟩ := cells5_of hk1
  have HK := hid hk1
  have hs1 : w.heap.size < w1.heap.size := by rw [hw1]; simp
  have HC := whole337_any i true w1
  have HN : Hid (∀ k, (nmTo i Hs k).length ≤ 1 + Hs.length * 1000) := fun k => nmTo_len k hN
  have hl3 : Hs.length * 1000 ≤ 1000000 := by omega
  clear hk1 hN
  go_enter Tryz.func353, Tryz.ntmps353
  go_wp2_with fail
  rw [← hw1]
  clear hw1
  go_wp2_with fail
  refine HC.mono ?_
  rintro e w2 ⟨g, rfl, ho, hb2⟩
  clear HC i0 i1 i2 i3 i4
  have i4 : w2.cell? ⟨w.heap.size, 4, none⟩ = some (.slice ha Hs.length hc) := (cells5_of ((hb2.block _ hs1).trans HK.out)).2.2.2.2
  have hb02 : Below w.heap.size w w2 := hb1.trans (hb2.mono hb1.size)
  have HO := hid (ownsRow_mono ho hb1.size)
  clear ho hb2 HK
  go_wp2
  clear i4
  go_loopw [3, 12] (fun v x wr => ∃ k : Nat, k ≤ Hs.length ∧ x = .int .i64 k ∧ Hid (wr.ownsRow w.heap.size 313 7 v (nmTo i Hs k).length (rowC (nmTo i Hs k))) ∧ Below w.heap.size w wr) (fun _ x _ => Hs.length - (intOf x).toNat)
  case atStart => exact ⟨0, Nat.zero_le _, rfl, HO, hb02⟩
  case round =>
    clear HO
    obtain ⟨k, hk, rfl, HO, hbw⟩ := hrel
    have hsz := hbw.size
    by_cases hlt : k < Hs.length
    · obtain ⟨x, hx⟩ : ∃ x, Hs[k]? = some x := ⟨_, List.getElem?_eq_getElem hlt⟩
      obtain ⟨b, o, rfl, hb, c0, c1, s0, s1⟩ := (HH.out.below hbw (Nat.le_refl _)).nth hx
      obtain ⟨na, nc, hne⟩ := s0.shape
      obtain ⟨ba, bc, hbe⟩ := s1.shape
      rw [hne] at c0 s0
      rw [hbe] at c1
      have HS : Hid (nmTo i Hs (k + 1) = nmTo i Hs k ++ x.N) := nmTo_succ hx
      have hlen := HN.out (k + 1)
      rw [HS.out, List.length_append] at hlen
      obtain ⟨w4, hw4⟩ : ∃ w4, w4 = wr.alloc (.cells #[.slice na x.N.length nc, .slice ba x.Br.length bc] 327) := ⟨_, rfl⟩
      have hb4 : Below wr.heap.size wr w4 := by rw [hw4]; exact (Below.refl _ _).alloc (Nat.le_refl _) _
      have hk4 := (MapKept.heap_alloc wr (.cells #[.slice na x.N.length nc, .slice ba x.Br.length bc] 327)).1
      rw [← hw4] at hk4
      obtain ⟨d0, d1⟩ := cells2_of hk4
      have ho4 := own_below HO.out hb4 (Nat.le_refl _)
      have s4 := s0.below hb4 (Nat.le_refl _)
      have hb04 : Below w.heap.size w w4 := hbw.trans (hb4.mono hsz)
      have hsz4 := hb04.size
      clear hx hne hbe s0 s1 hk4 hb4
      generalize nmTo i Hs k = A at *
      generalize x.N = D at *
      subst hw4
      go_wp2_with (at_builtin; refine wpList_append_row _ rfl _ _ rfl w.heap.size _ A D _ rfl ho4 rfl s4 (by omega) hsz4 ?_)
      intro v' w5 h1 h2
      have hb5 := step_any (Nat.le_refl _) ho4 hb04 hsz4 h2
      clear h2 ho4 hb04 d0 d1 s4
      go_wp2
      go_roundw
      case rel => exact ⟨k + 1, by omega, by go_num, by show World.ownsRow _ _ _ _ _ _ _; rw [HS.out, rowC_app, List.length_append]; exact h1, hb5⟩
      case measure => simp [intOf]; omega
    · obtain rfl : k = Hs.length := by omega
      go_wp2
      go_ret
      refine ⟨_, rfl, ?_, hbw⟩
      have := SV.own HO.out
      unfold nmTo at this
      rw [List.take_length] at this
      exact this
end Go.Proofs.YtgdfipmdmgkidaaGreatDoor

/- slices.DeleteFunc on a row of the call's own. -/
namespace Go.Proofs.YtgdfipmdmgkidaaGreatDoor
open Go.RowKit
section
variable {base size g cap n : Nat} {e : TypeId} {xs : List Value}
theorem own_cut {w : World} (h : w.ownsRow base e size (.slice (some ⟨g, 0, none⟩) n cap) n xs) {i : Nat} (hi : i ≤ n) : w.ownsRow base e size (.slice (some ⟨g, 0, none⟩) i cap) i (xs.take (i * size)) := by
  have hl := h.1
  rcases h.2 with ⟨h', _⟩ | ⟨g', cap', cur, h', hb, hg, hnc, hcm, hcs, htake⟩
  · cases h'
  · cases h'
    have hm : i * size ≤ n * size := Nat.mul_le_mul_right _ hi
    refine ⟨by rw [List.length_take, hl]; omega, .inr ⟨g, cap, cur, rfl, hb, hg, by omega, hcm, hcs, ?_⟩⟩
    rw [← htake, List.take_take, Nat.min_eq_left hm]
theorem grown_trans {a b c : World} {r : Option Nat} (h : a.grownBy b r) (k : b.grownBy c r) : a.grownBy c r :=
  ⟨k.os.trans h.os, k.tape.trans h.tape, k.output.trans h.output, Nat.le_trans h.size k.size, fun j hj hne => (k.block j (Nat.lt_of_lt_of_le hj h.size) hne).trans (h.block j hj hne)⟩
theorem own_setCells : ∀ (vs : List Value) (w : World) (o : Nat), w.ownsRow base e size (.slice (some ⟨g, 0, none⟩) n cap) n xs → xs.length ≤ o → (w.setCells g o vs).ownsRow base e size (.slice (some ⟨g, 0, none⟩) n cap) n xs ∧ w.grownBy (w.setCells g o vs) (some g)
  | [], w, o, h, _ => ⟨h, World.grownBy.refl _ _⟩
  | v :: vs, w, o, h, ho => by
    obtain ⟨h1, h2⟩ := h.stored o v
    rw [List.set_eq_of_length_le ho] at h1
    obtain ⟨h3, h4⟩ := own_setCells vs _ (o + 1) h1 (by omega)
    exact ⟨h3, grown_trans h2 h4⟩
end
theorem zero_cells {z : Array Value} {n : Nat} (h1 : ∀ v ∈ z, v.oneCell' = true) : ∀ v ∈ (Builtin.zeroCells z n).toList, v.oneCell' = true := by
  intro v hv
  unfold Builtin.zeroCells at hv
  rw [Array.toList_map, List.mem_map] at hv
  obtain ⟨a, ha, rfl⟩ := hv
  have ha : a < n * z.size := by simpa using ha
  have hz : 0 < z.size := Nat.pos_of_ne_zero fun e => by rw [e] at ha; omega
  rw [getElem!_pos z _ (Nat.mod_lt _ hz)]
  exact h1 _ (Array.getElem_mem _)
theorem run_clear_row (w : World) (t e ty : TypeId) (z : Value) (ht : Tryz.prog.underlying t = some (.slice e)) (hv : ∀ w, (zeroValue e).run Tryz.prog w = .ok z w) (h1 : ∀ v ∈ z.cells, v.oneCell' = true) (b o n c : Nat) (hn : 0 < n)
    (hc : ∀ j, j < n * z.cells.size → (w.cell? ⟨b, o + j, none⟩).isSome = true) (hf : ∀ j, j < n * z.cells.size → w.frozen? ⟨b, o + j, none⟩ = false) :
    (Builtin.clear_ #[t] ty #[.slice (some ⟨b, o, none⟩) n c]).run Tryz.prog w = .ok (.tuple #[]) (w.setCells b o (Builtin.zeroCells z.cells n).toList) := by
  have hl : (Builtin.zeroCells z.cells n).toList.length = n * z.cells.size := by simp [Builtin.zeroCells]
  have hst := run_storeCells_cells (P := Tryz.prog) b o (Builtin.zeroCells z.cells n).toList 0 w (by rw [hl]; simpa using hc) (by rw [hl]; simpa using hf) (zero_cells h1)
  simp only [Nat.add_zero] at hst
  obtain ⟨m, rfl⟩ : ∃ m, n = m + 1 := ⟨n - 1, by omega⟩
  simp [Builtin.clear_, run_underlying ht, hv, hst]
theorem cells7_of {w : World} {g : Nat} {x0 x1 x2 x3 x4 x5 x6 : Value} {t : TypeId} {f : Nat × Nat} (h : w.heap[g]? = some (.cells #[x0, x1, x2, x3, x4, x5, x6] t f)) : w.cell? ⟨g, 0, none⟩ = some x0 ∧ w.cell? ⟨g, 1, none⟩ = some x1 ∧ w.cell? ⟨g, 2, none⟩ = some x2 ∧ w.cell? ⟨g, 3, none⟩ = some x3 ∧ w.cell? ⟨g, 4, none⟩ = some x4 ∧ w.cell? ⟨g, 5, none⟩ = some x5 ∧ w.cell? ⟨g, 6, none⟩ = some x6 := by
  refine ⟨?_, ?_, ?_, ?_, ?_, ?_, ?_⟩ <;> simp [World.cell?, h]
theorem rowC_take (L : List Spot) (i : Nat) (hi : i ≤ L.length) : (rowC L).take (i * 7) = rowC (L.take i) := by
  conv => lhs; rw [← List.take_append_drop i L, rowC_app]
  rw [List.take_append_of_le_length (by rw [rowC_len, List.length_take]; omega), List.take_of_length_le (by rw [rowC_len, List.length_take]; omega)]
theorem rowC_set7 (L : List Spot) (i : Nat) (s : Spot) (hi : i < L.length) : rowC (L.set i s) = (((((((rowC L).set (i * 7) (.int .u8 s.a)).set (i * 7 + 1) (.int .u8 s.b)).set (i * 7 + 2) (.int .u8 s.c)).set (i * 7 + 3) (.int .u8 s.d)).set (i * 7 + 4) (.int .i64 s.num)).set (i * 7 + 5) (.string s.line)).set (i * 7 + 6) (.bool s.alive) := by
  induction L generalizing i with
  | nil => simp at hi
  | cons x L ih =>
    cases i with
    | zero => simp [rowC]
    | succ i =>
      have := ih i (by simpa using hi)
      simp only [List.set_cons_succ]
      have e : ∀ (u : Value) (T : List Value) (j : Nat), (spC x ++ T).set ((i + 1) * 7 + j) u = spC x ++ T.set (i * 7 + j) u := fun u T j => by
        rw [List.set_append_right _ _ (by simp; omega)]
        congr 2
        simp
        omega
      have e0 : ∀ (u : Value) (T : List Value), (spC x ++ T).set ((i + 1) * 7) u = spC x ++ T.set (i * 7) u := fun u T => e u T 0
      show spC x ++ rowC (L.set i s) = _
      rw [this]
      show _ = (((((((spC x ++ rowC L).set _ _).set _ _).set _ _).set _ _).set _ _).set _ _).set _ _
      rw [e0, e, e, e, e, e, e]
theorem own_set7 {w w1 w2 w3 w4 w5 w6 w7 : World} {base g cap : Nat} {L : List Spot} (h : w.ownsRow base 313 7 (.slice (some ⟨g, 0, none⟩) L.length cap) L.length (rowC L)) {i : Nat} (hi : i < L.length) (s : Spot)
    (e1 : w1 = w.setCell ⟨g, i * 7, none⟩ (.int .u8 s.a)) (e2 : w2 = w1.setCell ⟨g, i * 7 + 1, none⟩ (.int .u8 s.b)) (e3 : w3 = w2.setCell ⟨g, i * 7 + 2, none⟩ (.int .u8 s.c)) (e4 : w4 = w3.setCell ⟨g, i * 7 + 3, none⟩ (.int .u8 s.d)) (e5 : w5 = w4.setCell ⟨g, i * 7 + 4, none⟩ (.int .i64 s.num)) (e6 : w6 = w5.setCell ⟨g, i * 7 + 5, none⟩ (.string s.line)) (e7 : w7 = w6.setCell ⟨g, i * 7 + 6, none⟩ (.bool s.alive)) :
    w7.ownsRow base 313 7 (.slice (some ⟨g, 0, none⟩) L.length cap) L.length (rowC (L.set i s)) ∧ w.grownBy w7 (some g) := by
  obtain ⟨h1, k1⟩ := h.stored (i * 7) (.int .u8 s.a)
  rw [← e1] at h1 k1
  obtain ⟨h2, k2⟩ := h1.stored (i * 7 + 1) (.int .u8 s.b)
  rw [← e2] at h2 k2
  obtain ⟨h3, k3⟩ := h2.stored (i * 7 + 2) (.int .u8 s.c)
  rw [← e3] at h3 k3
  obtain ⟨h4, k4⟩ := h3.stored (i * 7 + 3) (.int .u8 s.d)
  rw [← e4] at h4 k4
  obtain ⟨h5, k5⟩ := h4.stored (i * 7 + 4) (.int .i64 s.num)
  rw [← e5] at h5 k5
  obtain ⟨h6, k6⟩ := h5.stored (i * 7 + 5) (.string s.line)
  rw [← e6] at h6 k6
  obtain ⟨h7, k7⟩ := h6.stored (i * 7 + 6) (.bool s.alive)
  rw [← e7] at h7 k7
  rw [rowC_set7 L i s hi]
  exact ⟨h7, grown_trans k1 (grown_trans k2 (grown_trans k3 (grown_trans k4 (grown_trans k5 (grown_trans k6 k7)))))⟩
structure DelS (w : World) (g base cap : Nat) (L : List Spot) (vb i : Nat) (s : Spot) : Prop where
  d0 : w.cell? ⟨vb, 0, none⟩ = some (.int .u8 s.a)
  d1 : w.cell? ⟨vb, 1, none⟩ = some (.int .u8 s.b)
  d2 : w.cell? ⟨vb, 2, none⟩ = some (.int .u8 s.c)
  d3 : w.cell? ⟨vb, 3, none⟩ = some (.int .u8 s.d)
  d4 : w.cell? ⟨vb, 4, none⟩ = some (.int .i64 s.num)
  d5 : w.cell? ⟨vb, 5, none⟩ = some (.string s.line)
  d6 : w.cell? ⟨vb, 6, none⟩ = some (.bool s.alive)
  r0 : ∃ t, w.cell? ⟨g, i * 7, none⟩ = some (.int .u8 t)
  r1 : ∃ t, w.cell? ⟨g, i * 7 + 1, none⟩ = some (.int .u8 t)
  r2 : ∃ t, w.cell? ⟨g, i * 7 + 2, none⟩ = some (.int .u8 t)
  r3 : ∃ t, w.cell? ⟨g, i * 7 + 3, none⟩ = some (.int .u8 t)
  r4 : ∃ t, w.cell? ⟨g, i * 7 + 4, none⟩ = some (.int .i64 t)
  r5 : ∃ t, w.cell? ⟨g, i * 7 + 5, none⟩ = some (.string t)
  r6 : ∃ t, w.cell? ⟨g, i * 7 + 6, none⟩ = some (.bool t)
  fz : ∀ x, w.frozen? ⟨g, x, none⟩ = false
  own : w.ownsRow base 313 7 (.slice (some ⟨g, 0, none⟩) L.length cap) L.length (rowC L)
theorem DelS.of {w : World} {g base cap : Nat} {L : List Spot} {vb i : Nat} {s t : Spot} (ho : w.ownsRow base 313 7 (.slice (some ⟨g, 0, none⟩) L.length cap) L.length (rowC L)) (hk : w.heap[vb]? = some (.cells #[.int .u8 s.a, .int .u8 s.b, .int .u8 s.c, .int .u8 s.d, .int .i64 s.num, .string s.line, .bool s.alive] 313 (0, 0))) (ht : L[i]? = some t) : DelS w g base cap L vb i s := by
  obtain ⟨d0, d1, d2, d3, d4, d5, d6⟩ := cells7_of hk
  obtain ⟨b, o, hbo, hb, c0, c1, c2, c3, c4, c5, c6⟩ := (SV.own ho).at ht
  cases hbo
  simp only [Nat.zero_add] at c0 c1 c2 c3 c4 c5 c6
  exact ⟨d0, d1, d2, d3, d4, d5, d6, ⟨_, c0⟩, ⟨_, c1⟩, ⟨_, c2⟩, ⟨_, c3⟩, ⟨_, c4⟩, ⟨_, c5⟩, ⟨_, c6⟩, fun x => World.ownsRow.frozenAt ho x, ho⟩
def keepTo {α : Type} (p : α → Bool) (S : List α) (j : Nat) : List α := (S.take j).filter fun s => !p s
theorem keepTo_succ {α : Type} {p : α → Bool} {S : List α} {j : Nat} {s : α} (h : S[j]? = some s) : keepTo p S (j + 1) = if p s then keepTo p S j else keepTo p S j ++ [s] := by
  unfold keepTo
  rw [List.take_add_one, h]
  simp only [Option.toList_some, List.filter_append]
  cases hq : p s <;> simp [hq]
theorem keepTo_first {α : Type} {p : α → Bool} {S : List α} {i : Nat} (h : S.findIdx? p = some i) : i < S.length ∧ keepTo p S (i + 1) = S.take i := by
  rw [List.findIdx?_eq_some_iff_getElem] at h
  obtain ⟨h1, h2, h3⟩ := h
  refine ⟨h1, ?_⟩
  rw [keepTo_succ (List.getElem?_eq_getElem h1), if_pos h2]
  unfold keepTo
  rw [List.filter_eq_self]
  intro x hx
  obtain ⟨j, hj, rfl⟩ := List.getElem_of_mem hx
  have hj' : j < i := by simp at hj; omega
  rw [List.getElem_take]
  have := h3 j hj'
  simpa using this
theorem keep_none {α : Type} {p : α → Bool} {S : List α} (h : S.findIdx? p = none) : (S.filter fun s => !p s) = S := by
  rw [List.findIdx?_eq_none_iff] at h
  rw [List.filter_eq_self]
  intro x hx
  rw [h x hx]
  rfl
theorem set_take {α : Type} {L : List α} {i : Nat} {s : α} (hi : i < L.length) : (L.set i s).take (i + 1) = L.take i ++ [s] := by
  rw [List.take_add_one, List.getElem?_set_self hi, List.take_set_of_le (Nat.le_refl _)]
  rfl
theorem set_drop {α : Type} {L : List α} {i j : Nat} {s : α} (hi : i < j) : (L.set i s).drop j = L.drop j := List.drop_set_of_lt hi
set_option maxRecDepth 100000 in
set_option maxHeartbeats 6400000 in
theorem del348_any (S : List Spot) (p : Spot → Bool) (f : FuncId) (lb : Array Value) (ef : ∀ args w, (callFunc f args).run Tryz.prog w = .ok (.enter f args) w) (v : Value) (base : Nat) (w : World) (ho : w.ownsRow base 313 7 v S.length (rowC S)) (hbase : base ≤ w.heap.size) (hlen : S.length ≤ 1000000)
    (hp : ∀ s u, Calls Tryz.prog f (#[spV s] ++ lb) u fun e w' => e = .returned (.bool (p s)) ∧ Below u.heap.size u w') :
    Calls Tryz.prog 348 #[v, .func (.func f) #[] lb] w fun e w' => ∃ v', e = .returned v' ∧ w'.ownsRow base 313 7 v' (S.filter fun s => !p s).length (rowC (S.filter fun s => !p s)) ∧ Below base w w' := by
  have HF : Hid (Calls Tryz.prog 283 #[v, .func (.func f) #[] lb] w fun e w' => e = .returned (.int .i64 (idxInt (S.findIdx? p))) ∧ Below w.heap.size w w') := idxf283_any S p f lb ef v w (SV.own ho) hlen (fun s _ u _ => hp s u)
  have HP := hid hp
  clear hp
  cases hq : S.findIdx? p with
  | none =>
    have HQ := hid (keep_none hq)
    rw [hq] at HF
    simp only [idxInt] at HF
    obtain ⟨va, vc, rfl⟩ := (SV.own ho).shape
    have HO := hid ho
    clear ho hq
    go_enter Tryz.func348, Tryz.ntmps348
    go_wp2_with fail
    refine HF.out.mono ?_
    rintro e w1 ⟨rfl, hb1⟩
    clear HF
    go_wp2
    go_ret
    refine ⟨_, rfl, ?_, hb1.mono hbase⟩
    rw [HQ.out]
    exact own_below HO.out hb1 (Nat.le_refl _)
  | some i =>
    obtain ⟨hiS, hfirst⟩ := keepTo_first hq
    rw [hq] at HF
    simp only [idxInt] at HF
    rcases ho.2 with ⟨rfl, h0⟩ | ⟨g, cap, cur, rfl, hg0, _⟩
    · omega
    · have HO : Hid (w.ownsRow base 313 7 (.slice (some ⟨g, 0, none⟩) S.length cap) S.length (rowC S)) := ho
      have HK1 := hid hfirst
      clear ho hq hfirst
      go_enter Tryz.func348, Tryz.ntmps348
      go_wp2_with fail
      refine HF.out.mono ?_
      rintro e w1 ⟨rfl, hb1⟩
      clear HF
      have HO1 : Hid (w1.ownsRow base 313 7 (.slice (some ⟨g, 0, none⟩) S.length cap) S.length (rowC S)) := own_below HO.out hb1 (Nat.le_refl _)
      have hb01 : Below base w w1 := hb1.mono hbase
      have hne : ¬ ((i : Int) = -1) := by omega
      clear HO hb1
      go_wp2
      go_loopw [5, 6] (fun a b wr => ∃ (j : Nat) (L : List Spot), j ≤ S.length ∧ (keepTo p S j).length < j ∧ L.length = S.length ∧ a = .int .i64 ((keepTo p S j).length : Nat) ∧ b = .int .i64 j ∧ Hid (L.take (keepTo p S j).length = keepTo p S j ∧ L.drop j = S.drop j) ∧ Hid (wr.ownsRow base 313 7 (.slice (some ⟨g, 0, none⟩) L.length cap) L.length (rowC L)) ∧ Below base w wr) (fun _ b _ => S.length - (intOf b).toNat)
      case atStart =>
        refine ⟨i + 1, S, by omega, ?_, rfl, ?_, by go_num, ?_, HO1, hb01⟩
        · rw [HK1.out, List.length_take]; omega
        · rw [HK1.out, List.length_take, Nat.min_eq_left (by omega)]
        · exact ⟨by rw [HK1.out, List.length_take, Nat.min_eq_left (by omega)], rfl⟩
      case round =>
        clear HO1 HK1 hne
        obtain ⟨j, L, hj, hkj, hL, rfl, rfl, HL, HO, hbw⟩ := hrel
        have hsz := hbw.size
        obtain ⟨K, hK⟩ : ∃ K, keepTo p S j = K := ⟨_, rfl⟩
        rw [hK] at hkj HL ⊢
        by_cases hlt : j < S.length
        · obtain ⟨s, hs⟩ : ∃ s, S[j]? = some s := ⟨_, List.getElem?_eq_getElem hlt⟩
          have hLs : L[j]? = some s := by
            have h : (L.drop j)[0]? = (S.drop j)[0]? := by rw [HL.out.2]
            rw [List.getElem?_drop, List.getElem?_drop, Nat.add_zero, hs] at h
            exact h
          obtain ⟨b, o, hbo, hb, c0, c1, c2, c3, c4, c5, c6⟩ := (SV.own HO.out).at hLs
          cases hbo
          simp only [Nat.zero_add] at c0 c1 c2 c3 c4 c5 c6
          obtain ⟨w4, hw4⟩ : ∃ w4, w4 = wr.alloc (.cells #[.int .u8 s.a, .int .u8 s.b, .int .u8 s.c, .int .u8 s.d, .int .i64 s.num, .string s.line, .bool s.alive] 313) := ⟨_, rfl⟩
          have hb4 : Below wr.heap.size wr w4 := by rw [hw4]; exact (Below.refl _ _).alloc (Nat.le_refl _) _
          have hk4 := (MapKept.heap_alloc wr (.cells #[.int .u8 s.a, .int .u8 s.b, .int .u8 s.c, .int .u8 s.d, .int .i64 s.num, .string s.line, .bool s.alive] 313)).1
          rw [← hw4] at hk4
          have hs4 : wr.heap.size < w4.heap.size := by rw [hw4]; simp
          obtain ⟨d0, d1, d2, d3, d4, d5, d6⟩ := cells7_of hk4
          have HKS : Hid (keepTo p S (j + 1) = if p s then keepTo p S j else keepTo p S j ++ [s]) := keepTo_succ hs
          have hcall := HP.out s w4
          unfold spV at hcall
          have HK4 := hid hk4
          have HKK := hid hK
          clear hs hLs hk4 hK
          subst hw4
          cases hq : p s with
          | true =>
            rw [hq] at hcall
            go_wp2_with (go_at_fn f; refine hcall.mono ?_; rintro e w5 ⟨rfl, hb5⟩)
            go_roundw
            case rel =>
              have hb45 : Below wr.heap.size wr w5 := hb4.trans (hb5.mono hb4.size)
              have e1 : keepTo p S (j + 1) = K := by rw [HKS.out, if_pos hq, HKK.out]
              refine ⟨_, _, _, _, _, _, _, _, _, _, _, _, _, _, _, _, _, _, _, _, _, _, _, ⟨j + 1, L, by omega, by rw [e1]; omega, hL, by rw [e1], by go_num, ?_, own_below HO.out hb45 (Nat.le_refl _), hbw.trans (hb45.mono (by omega))⟩, rfl⟩
              rw [e1]
              refine ⟨HL.out.1, ?_⟩
              have := HL.out.2
              rw [← List.drop_drop, this, List.drop_drop]
            case measure => simp [intOf]; omega
          | false =>
            rw [hq] at hcall
            have hi : K.length < L.length := by omega
            obtain ⟨t, ht⟩ : ∃ t, L[K.length]? = some t := ⟨_, List.getElem?_eq_getElem hi⟩
            have HN : Hid (∀ w5, Below (wr.alloc (.cells #[.int .u8 s.a, .int .u8 s.b, .int .u8 s.c, .int .u8 s.d, .int .i64 s.num, .string s.line, .bool s.alive] 313)).heap.size (wr.alloc (.cells #[.int .u8 s.a, .int .u8 s.b, .int .u8 s.c, .int .u8 s.d, .int .i64 s.num, .string s.line, .bool s.alive] 313)) w5 → DelS w5 g base cap L wr.heap.size K.length s) := by
              intro w5 hb5
              have hb45 : Below wr.heap.size wr w5 := hb4.trans (hb5.mono hb4.size)
              exact DelS.of (own_below HO.out hb45 (Nat.le_refl _)) ((hb5.block _ hs4).trans HK4.out) ht
            clear d0 d1 d2 d3 d4 d5 d6 ht
            obtain ⟨d0, d1, d2, d3, d4, d5, d6⟩ := cells7_of HK4.out
            go_wp2_with (go_at_fn f; refine hcall.mono ?_; rintro e w5 ⟨rfl, hb5⟩; clear d0 d1 d2 d3 d4 d5 d6 c0 c1 c2 c3 c4 c5 c6; obtain ⟨d0, d1, d2, d3, d4, d5, d6, ⟨_, r0⟩, ⟨_, r1⟩, ⟨_, r2⟩, ⟨_, r3⟩, ⟨_, r4⟩, ⟨_, r5⟩, ⟨_, r6⟩, fz, HO5⟩ := HN.out w5 hb5; have f0 := fz (K.length * 7); have f1 := fz (K.length * 7 + 1); have f2 := fz (K.length * 7 + 2); have f3 := fz (K.length * 7 + 3); have f4 := fz (K.length * 7 + 4); have f5 := fz (K.length * 7 + 5); have f6 := fz (K.length * 7 + 6); clear HN)
            have hi2 : (⟨g, K.length * 7, none⟩ : Addr) = ⟨g, K.length * 7, none⟩ := rfl
            obtain ⟨w7, hw7⟩ : ∃ w7, w7 = ((((((w5.setCell ⟨g, K.length * 7, none⟩ (.int .u8 s.a)).setCell ⟨g, K.length * 7 + 1, none⟩ (.int .u8 s.b)).setCell ⟨g, K.length * 7 + 2, none⟩ (.int .u8 s.c)).setCell ⟨g, K.length * 7 + 3, none⟩ (.int .u8 s.d)).setCell ⟨g, K.length * 7 + 4, none⟩ (.int .i64 s.num)).setCell ⟨g, K.length * 7 + 5, none⟩ (.string s.line)).setCell ⟨g, K.length * 7 + 6, none⟩ (.bool s.alive) := ⟨_, rfl⟩
            rw [← hw7]
            obtain ⟨o7, g7⟩ := own_set7 HO5 hi s rfl rfl rfl rfl rfl rfl hw7
            have hb45 : Below wr.heap.size wr w5 := hb4.trans (hb5.mono hb4.size)
            have hb07 : Below base w w7 := by
              have hb05 : Below base w w5 := hbw.trans (hb45.mono (by omega))
              exact hb05.grown g7 (by have := hb05.size; omega) (fun k hk => by cases hk; exact hg0)
            have HO7 := hid o7
            clear o7 g7 hw7 d0 d1 d2 d3 d4 d5 d6 r0 r1 r2 r3 r4 r5 r6 f0 f1 f2 f3 f4 f5 f6 fz HO5 hb45
            go_wp2
            go_roundw
            case rel =>
              have e1 : keepTo p S (j + 1) = K ++ [s] := by rw [HKS.out, if_neg (by rw [hq]; simp), HKK.out]
              refine ⟨j + 1, by omega, by rw [e1, List.length_append, List.length_singleton]; omega, L.set K.length s, by rw [List.length_set]; exact hL, by rw [e1, List.length_append, List.length_singleton]; omega, by omega, ?_, ?_⟩
              · rw [e1, List.length_append, List.length_singleton]
                refine ⟨by rw [set_take hi, HL.out.1], ?_⟩
                rw [set_drop (by omega), ← List.drop_drop, HL.out.2, List.drop_drop]
              · show World.ownsRow _ _ _ _ _ _ _
                rw [List.length_set]
                exact HO7.out
            case measure => simp [intOf]; omega
        · obtain rfl : j = S.length := by omega
          have HKK : Hid (K = S.filter fun s => !p s) := by
            show _ = _
            rw [← hK]
            unfold keepTo
            rw [List.take_length]
          have hcap : L.length ≤ cap := by
            rcases HO.out.2 with ⟨h', _⟩ | ⟨_, _, _, h', _, _, hnc, _⟩
            · cases h'
            · cases h'; exact hnc
          have hcl : ∀ ty, (Builtin.clear_ #[183] ty #[.slice (some ⟨g, K.length * 7, none⟩) (S.length - K.length) (cap - K.length)]).run Tryz.prog wr = .ok (.tuple #[]) (wr.setCells g (K.length * 7) (Builtin.zeroCells (Value.agg zspot).cells (S.length - K.length)).toList) := fun ty => by
            refine run_clear_row wr 183 313 ty (Value.agg zspot) Tryz.underlying183 Tryz.zeroValue313 (by decide) g (K.length * 7) _ _ (by omega) (fun x hx => ?_) (fun x hx => World.ownsRow.frozenAt HO.out _)
            have hx7 : x < (S.length - K.length) * 7 := hx
            rw [World.ownsRow.cellAt HO.out _ (by omega), List.getElem?_eq_getElem (by rw [rowC_len]; omega)]
            rfl
          obtain ⟨w6, hw6⟩ : ∃ w6, w6 = wr.setCells g (K.length * 7) (Builtin.zeroCells (Value.agg zspot).cells (S.length - K.length)).toList := ⟨_, rfl⟩
          rw [← hw6] at hcl
          obtain ⟨o6, g6⟩ := own_setCells (Builtin.zeroCells (Value.agg zspot).cells (S.length - K.length)).toList wr (K.length * 7) (own_cut HO.out (i := K.length) (by omega)) (by rw [List.length_take]; omega)
          rw [← hw6] at o6 g6
          rw [rowC_take L _ (by omega), HL.out.1] at o6
          have hb06 : Below base w w6 := hbw.grown g6 (by omega) (fun k hk => by cases hk; exact hg0)
          have HO6 := hid o6
          have hk1 : (K.length : Int) ≤ (S.length : Int) := by omega
          have hk2 : (S.length : Int) ≤ (cap : Int) := by omega
          clear o6 g6 hw6 hK HL HO
          go_wp2
          go_ret
          refine ⟨_, rfl, ?_, hb06⟩
          rw [← HKK.out]
          exact HO6.out
end Go.Proofs.YtgdfipmdmgkidaaGreatDoor
