/- What changed between two lists of lines: the gaps. -/
import Derived.Test.YtgdfipmdmgkidaaGreatDoorProw
import Derived.BigRegion
namespace Go.Proofs.YtgdfipmdmgkidaaGreatDoor
open Go.RowKit
def LV (w : World) (v : Value) (L : List ByteArray) : Prop := ∃ ao cap, v = .slice ao L.length cap ∧ View w ao L ∧ L.length ≤ cap ∧ ((ao = none ∧ cap = 0 ∧ L = []) ∨ ∃ b o, ao = some ⟨b, o, none⟩ ∧ b < w.heap.size)
theorem LV.below {w w' : World} {v : Value} {L : List ByteArray} (h : LV w v L) {B : Nat} (hb : Below B w w') (hB : w.heap.size ≤ B) : LV w' v L := by
  obtain ⟨ao, cap, rfl, h1, h2, h3⟩ := h
  refine ⟨ao, cap, rfl, h1.below (hb.mono hB), h2, ?_⟩
  rcases h3 with h3 | ⟨b, o, e, hlt⟩
  · exact .inl h3
  · exact .inr ⟨b, o, e, Nat.lt_of_lt_of_le hlt hb.size⟩
theorem LV.own {w : World} {B : Nat} {v : Value} {L : List ByteArray} (h : w.ownsRow B 9 1 v L.length (strs L)) : LV w v L := by
  have h0 := h
  have hlt := h.lt
  rcases h.2 with ⟨rfl, h2⟩ | ⟨g, cp, cur, rfl, _, hg, h3, _⟩
  · have hL : L = [] := List.eq_nil_of_length_eq_zero h2
    subst hL
    exact ⟨none, 0, rfl, .inl rfl, Nat.le_refl _, .inl ⟨rfl, rfl, rfl⟩⟩
  · exact ⟨_, cp, rfl, View.own h0, h3, .inr ⟨g, 0, rfl, (hlt g rfl).2⟩⟩
theorem getD_drop (L : List ByteArray) (j l k : Nat) (_hl : l ≤ L.length) (hk : k < l - j) : ((L.take l).drop j).getD k ByteArray.empty = L.getD (j + k) ByteArray.empty := by
  rw [List.getD_eq_getElem?_getD, List.getD_eq_getElem?_getD, List.getElem?_drop, List.getElem?_take_of_lt (by omega)]
set_option maxRecDepth 100000 in
theorem clone199_part (L : List ByteArray) (j l : Nat) (hjl : j ≤ l) (hl : l ≤ L.length) (b o cap : Nat) (w : World) (hlen : L.length ≤ 100000) (hv : View w (some ⟨b, o, none⟩) L) (hb : b < w.heap.size) :
    Calls Tryz.prog 271 #[.slice (some ⟨b, o + j, none⟩) (l - j) (cap - j)] w fun e w' => ∃ v, e = .returned v ∧ w'.ownsRow w.heap.size 9 1 v ((L.take l).drop j).length (strs ((L.take l).drop j)) ∧ Below w.heap.size w w' := by
  obtain ⟨i0, hi, hz0, hz1, hz2⟩ := info_parts Tryz.info9
  have hM : ((L.take l).drop j).length = l - j := by simp; omega
  have hc : ∀ (k : Nat) (u : Value), (strs ((L.take l).drop j))[k]? = some u → w.cell? ((⟨b, o + j, none⟩ : Addr).add k) = some u := by
    intro k u hk
    have hk2 : k < l - j := by
      have := (List.getElem?_eq_some_iff.1 hk).1
      rw [strs_length, hM] at this
      exact this
    rcases hv with h | ⟨b', o', e, _, h⟩
    · omega
    · cases e
      have h1 := h (j + k) (by omega)
      rw [← getD_drop L j l k hl hk2] at h1
      have hk3 : k < ((L.take l).drop j).length := by omega
      have e2 : (strs ((L.take l).drop j))[k]? = some (.string (((L.take l).drop j).getD k ByteArray.empty)) := by
        rw [List.getElem?_map, List.getElem?_eq_getElem hk3, List.getD_eq_getElem?_getD, List.getElem?_eq_getElem hk3]; rfl
      rw [hk] at e2
      cases e2
      rw [← h1]
      cases k
      · simp [Addr.add]
      · simp [Addr.add, Nat.add_assoc]
  generalize (L.take l).drop j = M at *
  have hnil : ∀ u : World, (binOp .eql 35 (.slice (some ⟨b, o + j, none⟩) (l - j) (cap - j)) (.slice none 0 0)).run Tryz.prog u = .ok (.bool false) u := fun u => Lib.run_eql_slice_some_nil u _ _ _ Tryz.underlying35
  have hb0 : Below w.heap.size w (w.alloc (.cells #[] 9)) := (Below.refl _ _).alloc (Nat.le_refl _) _
  have ho : (w.alloc (.cells #[] 9)).ownsRow w.heap.size 9 1 (.slice (some ⟨w.heap.size, 0, none⟩) 0 0) 0 [] := ⟨rfl, .inr ⟨w.heap.size, 0, #[], rfl, Nat.le_refl _, (MapKept.heap_alloc w _).1, Nat.le_refl _, Nat.zero_le _, rfl, rfl⟩⟩
  have hc1 : ∀ (k : Nat) (u : Value), (strs M)[k]? = some u → (w.alloc (.cells #[] 9)).cell? ((⟨b, o + j, none⟩ : Addr).add k) = some u := by
    intro k u hk
    have hblk : ((⟨b, o + j, none⟩ : Addr).add k).block = b := by cases k <;> simp [Addr.add]
    exact (hb0.cell (by rw [hblk]; exact hb)).trans (hc k u hk)
  clear hc hv
  go_enter Tryz.func271, Tryz.ntmps271
  go_wp2_with (at_builtin; refine wpList_append_own _ rfl _ _ 35 rfl w.heap.size 9 i0 (.string ⟨#[]⟩) 1 16 Tryz.underlying35 hi hz0 hz1 hz2 rfl (by decide) _ _ _ rfl ho ⟨b, o + j, none⟩ (l - j) (cap - j) (strs M) rfl (by rw [strs_length]; omega) hc1 (strs_one M) (by unfold maxLen; omega) (by omega) (by simp) ?_)
  intro v' w1 h1 h2 _
  have R := step_any (Nat.le_refl _) ho hb0 (by simp) h2
  clear h2 ho hb0 hc1
  go_wp2
  go_ret
  exact ⟨_, rfl, by rw [hM]; simpa using h1, R⟩
theorem nxtF_props (O N : List ByteArray) : ∀ (f i j : Nat), i ≤ O.length → j ≤ N.length → f = (O.length - i) + (N.length - j) → i ≤ (nxtF O N f i j).1 ∧ (nxtF O N f i j).1 ≤ O.length ∧ j ≤ (nxtF O N f i j).2 ∧ (nxtF O N f i j).2 ≤ N.length ∧ (meets O N (nxtF O N f i j).1 (nxtF O N f i j).2 ∨ ((nxtF O N f i j).1 = O.length ∧ (nxtF O N f i j).2 = N.length))
  | 0, i, j, hi, hj, hf => by
    simp only [nxtF]
    refine ⟨Nat.le_refl _, hi, Nat.le_refl _, hj, .inr ⟨by omega, by omega⟩⟩
  | f + 1, i, j, hi, hj, hf => by
    rw [nxtF]
    by_cases hm : meets O N i j
    · rw [if_pos hm]; exact ⟨Nat.le_refl _, hi, Nat.le_refl _, hj, .inl hm⟩
    · rw [if_neg hm]
      by_cases hk : killB O N i j = true
      · rw [if_pos hk]
        have h1 := kill_lt hi hk
        obtain ⟨a, b, c, d, e⟩ := nxtF_props O N f (i + 1) j (by omega) hj (by omega)
        exact ⟨by omega, b, c, d, e⟩
      · rw [if_neg hk]
        have h1 := nokill_lt hi hj (by omega) (by simpa using hk)
        obtain ⟨a, b, c, d, e⟩ := nxtF_props O N f i (j + 1) hi (by omega) (by omega)
        exact ⟨a, b, by omega, d, e⟩
theorem nxt_props (O N : List ByteArray) (i j : Nat) (hi : i ≤ O.length) (hj : j ≤ N.length) : i ≤ (nxt O N i j).1 ∧ (nxt O N i j).1 ≤ O.length ∧ j ≤ (nxt O N i j).2 ∧ (nxt O N i j).2 ≤ N.length ∧ (meets O N (nxt O N i j).1 (nxt O N i j).2 ∨ ((nxt O N i j).1 = O.length ∧ (nxt O N i j).2 = N.length)) :=
  nxtF_props O N _ i j hi hj rfl
structure Quad where
  i : Nat
  k : Nat
  j : Nat
  l : Nat
def gapOf (i k j l : Nat) : List Quad := if i < k ∨ j < l then [⟨i, k, j, l⟩] else []
inductive GapsR (O N : List ByteArray) : Nat → Nat → List Quad → Prop
  | stop {i j k l : Nat} : nxt O N i j = (k, l) → k = O.length → GapsR O N i j (gapOf i k j l)
  | go {i j k l : Nat} {rest : List Quad} : nxt O N i j = (k, l) → k < O.length → GapsR O N (k + 1) (l + 1) rest → GapsR O N i j (gapOf i k j l ++ rest)
structure Gp where
  q : Quad
  lv : Value
abbrev gpC (g : Gp) : List Value := [.int .i64 (g.q.i : Nat), .int .i64 (g.q.k : Nat), g.lv]
abbrev gsC (G : List Gp) : List Value := G.flatMap gpC
def linesAt (N : List ByteArray) (q : Quad) : List ByteArray := (N.take q.l).drop q.j
structure GV (w : World) (B : Nat) (v : Value) (N : List ByteArray) (G : List Gp) : Prop where
  row : w.ownsRow B 324 3 v G.length (gsC G)
  lines : ∀ g ∈ G, w.ownsRow B 9 1 g.lv (linesAt N g.q).length (strs (linesAt N g.q))
theorem own_far {w : World} {B B' n n' s s' : Nat} {e e' : TypeId} {v v' : Value} {xs xs' : List Value} (h : w.ownsRow B e s v n xs) (h' : w.ownsRow B' e' s' v' n' xs') (he : e ≠ e') : v.ownBlock = none ∨ v.ownBlock ≠ v'.ownBlock := by
  rcases h.2 with ⟨rfl, _⟩ | ⟨g, cap, cur, rfl, _, hg, _⟩
  · exact .inl rfl
  · right
    intro heq
    rcases h'.2 with ⟨rfl, _⟩ | ⟨g', cap', cur', rfl, _, hg', _⟩
    · cases heq
    · simp [Value.ownBlock] at heq
      subst heq
      rw [hg] at hg'
      simp at hg'
      exact he hg'.2
theorem GV.step {w w1 : World} {B : Nat} {v v' : Value} {N : List ByteArray} {G : List Gp} {g : Gp} (h : GV w B v N G) (hg : w.grownBy w1 v.ownBlock) (hrow : w1.ownsRow B 324 3 v' (G.length + 1) (gsC G ++ gpC g)) (hl : w.ownsRow B 9 1 g.lv (linesAt N g.q).length (strs (linesAt N g.q))) : GV w1 B v' N (G ++ [g]) := by
  refine ⟨by simpa [gsC] using hrow, fun x hx => ?_⟩
  rcases List.mem_append.1 hx with hx | hx
  · exact (h.lines x hx).kept hg (own_far (h.lines x hx) h.row (by decide))
  · simp at hx
    subst hx
    exact hl.kept hg (own_far hl h.row (by decide))
theorem GV.below {w w1 : World} {B : Nat} {v : Value} {N : List ByteArray} {G : List Gp} (h : GV w B v N G) (hb : Below w.heap.size w w1) : GV w1 B v N G :=
  ⟨own_below h.row hb (Nat.le_refl _), fun x hx => own_below (h.lines x hx) hb (Nat.le_refl _)⟩
end Go.Proofs.YtgdfipmdmgkidaaGreatDoor

/- The contract of the program's Gaps. -/
namespace Go.Proofs.YtgdfipmdmgkidaaGreatDoor
open Go.RowKit
theorem Tryz.info324 : (Tryz.prog.info? 324).map (fun i => (i.zero, i.size, i.bytes)) = some (some (.agg #[.int .i64 0, .int .i64 0, .slice none 0 0]), 3, 40) := by kernel_rfl
theorem new_block3 (w : World) (x y z : Value) (t : TypeId) : ∀ j u, [x, y, z][j]? = some u → (w.alloc (.cells #[x, y, z] t)).cell? ((⟨w.heap.size, 0, none⟩ : Addr).add j) = some u := by
  intro j u hj
  obtain ⟨a, b, c⟩ := cells3_at (MapKept.heap_alloc w (.cells #[x, y, z] t)).1
  match j, hj with
  | 0, hj => simp at hj; subst hj; exact a
  | 1, hj => simp at hj; subst hj; exact b
  | 2, hj => simp at hj; subst hj; exact c
  | j + 3, hj => simp at hj
theorem GV.mono {w : World} {B B' : Nat} {v : Value} {N : List ByteArray} {G : List Gp} (h : GV w B' v N G) (hB : B ≤ B') : GV w B v N G := ⟨ownsRow_mono h.row hB, fun g hg => ownsRow_mono (h.lines g hg) hB⟩
def GapsOut (O N : List ByteArray) (w w' : World) (v : Value) : Prop := ∃ G : List Gp, GV w' w.heap.size v N G ∧ GapsR O N 0 0 (G.map (·.q))
set_option maxRecDepth 100000 in
set_option maxHeartbeats 3200000 in
theorem gaps186_some (O N : List ByteArray) (hO : O.length ≤ 10000) (hN : N.length ≤ 10000) (oa : Option Addr) (oc b o nc : Nat) (w : World) (hvo : View w oa O) (hvn : View w (some ⟨b, o, none⟩) N) (hb : b < w.heap.size) (hnc : N.length ≤ nc)
    (hc : Calls Tryz.prog 269 #[.slice oa O.length oc, .slice (some ⟨b, o, none⟩) N.length nc] w fun e w' => ∃ v, e = .returned v ∧ TV w' v O.length N.length (CC O N) ∧ Below w.heap.size w w') :
    Calls Tryz.prog 249 #[.slice oa O.length oc, .slice (some ⟨b, o, none⟩) N.length nc] w fun e w' => ∃ v, e = .returned v ∧ GapsOut O N w w' v ∧ Below w.heap.size w w' := by
  obtain ⟨i0, hi, hz0, hz1, hz2⟩ := info_parts Tryz.info324
  have HC := hid hc
  clear hc
  go_enter Tryz.func249, Tryz.ntmps249
  go_wp2_with fail
  refine HC.out.mono ?_
  rintro e w1 ⟨cv, rfl, htv, hb1⟩
  clear HC
  obtain ⟨tb, to, tc, rfl⟩ : ∃ tb to tc, cv = .slice (some ⟨tb, to, none⟩) (O.length + 1) tc := by
    obtain ⟨tb, to, tc, rfl, _⟩ := htv
    exact ⟨tb, to, tc, rfl⟩
  have hvo1 := hvo.below hb1
  have hvn1 := hvn.below hb1
  have hs1 := hb1.size
  obtain ⟨w2, hw2⟩ : ∃ w2, w2 = w1.alloc (.cells #[.slice oa O.length oc, .slice (some ⟨b, o, none⟩) N.length nc, .slice (some ⟨tb, to, none⟩) (O.length + 1) tc] 349) := ⟨_, rfl⟩
  have hb2 : Below w1.heap.size w1 w2 := by rw [hw2]; exact (Below.refl _ _).alloc (Nat.le_refl _) _
  have hk2 : w2.heap[w1.heap.size]? = some (.cells #[.slice oa O.length oc, .slice (some ⟨b, o, none⟩) N.length nc, .slice (some ⟨tb, to, none⟩) (O.length + 1) tc] 349 (0, 0)) := by rw [hw2]; exact (MapKept.heap_alloc w1 _).1
  have hs2 : w1.heap.size < w2.heap.size ∧ w2.heap.size ≤ w1.heap.size + 1 := by rw [hw2]; simp
  have HT : Hid (TV w2 (.slice (some ⟨tb, to, none⟩) (O.length + 1) tc) O.length N.length (CC O N)) := htv.below hb2 (Nat.le_refl _)
  have HVO := hid (hvo1.below hb2)
  have HVN := hid (hvn1.below hb2)
  clear htv hvo hvn hvo1 hvn1
  go_wp2
  rw [← hw2]
  clear hw2
  go_loopw [6, 7, 8] (fun v x y wr => ∃ (i j : Nat) (G : List Gp), i ≤ O.length ∧ j ≤ N.length ∧ x = .int .i64 i ∧ y = .int .i64 j ∧ Hid (GV wr w2.heap.size v N G) ∧ G.length ≤ i ∧ Hid (∀ rest, GapsR O N i j rest → GapsR O N 0 0 (G.map (fun g : Gp => g.q) ++ rest)) ∧ Below w2.heap.size w2 wr) (fun _ x _ _ => O.length + 1 - (intOf x).toNat)
  case atStart => exact ⟨0, 0, [], Nat.zero_le _, Nat.zero_le _, rfl, rfl, ⟨World.ownsRow_nil _ _ _ _, fun g hg => by cases hg⟩, Nat.le_refl _, fun rest h => h, Below.refl _ _⟩
  case round =>
    obtain ⟨i, j, G, hi', hj', rfl, rfl, HG, hGl, HRR, hbw⟩ := hrel
    have hszr := hbw.size
    have hkr := (hbw.block _ (by omega)).trans hk2
    obtain ⟨d0, d1, d2⟩ := cells3_at hkr
    obtain ⟨p1, p2, p3, p4, p5⟩ := nxt_props O N i j hi' hj'
    obtain ⟨k, l, hkl⟩ : ∃ k l, nxt O N i j = (k, l) := ⟨_, _, rfl⟩
    rw [hkl] at p1 p2 p3 p4 p5
    simp only at p1 p2 p3 p4 p5
    have HNX : Hid (Calls Tryz.prog 270 #[.agg #[.slice oa O.length oc, .slice (some ⟨b, o, none⟩) N.length nc, .slice (some ⟨tb, to, none⟩) (O.length + 1) tc], .int .i64 i, .int .i64 j] wr fun e w' => e = .returned (.tuple #[.int .i64 (k : Nat), .int .i64 (l : Nat)]) ∧ Below wr.heap.size wr w') := by
      have h := next198_any O N i j hi' hj' (by omega) (by omega) oa (some ⟨b, o, none⟩) oc nc _ wr (HT.out.below hbw (Nat.le_refl _)) (HVO.out.below hbw) (HVN.out.below hbw)
      rw [hkl] at h
      exact h
    have HKL := hid hkl
    clear hkl
    go_wp2_with fail
    refine HNX.out.mono ?_
    rintro e w3 ⟨rfl, hb3⟩
    clear HNX
    have HG3 := hid (HG.out.below hb3)
    have hbw3 : Below w2.heap.size w2 w3 := hbw.trans (hb3.mono hszr)
    have hs3 := hb3.size
    clear HG hb3 d0 d1 d2
    have hbw03 : Below w.heap.size w w3 := (hb1.trans (hb2.mono hs1)).trans (hbw3.mono (by omega))
    by_cases hgap : i < k ∨ j < l
    · have HGO : Hid (gapOf i k j l = [⟨i, k, j, l⟩]) := by show _ = _; unfold gapOf; rw [if_pos hgap]
      by_cases hjn : j < nc
      · have hjl : (j : Int) ≤ (l : Int) := by omega
        have hln : (l : Int) ≤ (nc : Int) := by omega
        have hln2 : l ≤ nc := by omega
        have hjn2 : (j : Int) < (nc : Int) := by omega
        have hjn3 : nc - j ≠ 0 := by omega
        have HCL : Hid (Calls Tryz.prog 271 #[.slice (some ⟨b, o + j, none⟩) (l - j) (nc - j)] w3 fun e w' => ∃ v, e = .returned v ∧ w'.ownsRow w3.heap.size 9 1 v ((N.take l).drop j).length (strs ((N.take l).drop j)) ∧ Below w3.heap.size w3 w') := clone199_part N j l p3 p4 b o nc w3 (by omega) (HVN.out.below hbw3) (by omega)
        have hcase : (i < k ∧ decide (i < k) = true) ∨ (decide (i < k) = false ∧ j < l ∧ decide (j < l) = true) := by
          by_cases h : i < k
          · exact .inl ⟨h, by simpa using h⟩
          · exact .inr ⟨by simpa using h, by omega, by simp; omega⟩
        clear hgap
        rcases hcase with ⟨q1, q2⟩ | ⟨q1, q2, q3⟩
        all_goals
          go_wp2_with fail
          refine HCL.out.mono ?_
          rintro e w4 ⟨lv, rfl, hlo, hb4⟩
          clear HCL
          have hs4 := hb4.size
          obtain ⟨la, lc, hle⟩ := own_shape hlo
          have hG4 := HG3.out.below hb4
          have hG5 : GV (w4.alloc (.cells #[.int .i64 (i : Nat), .int .i64 (k : Nat), lv] 324)) w2.heap.size u6 N G := hG4.below ((Below.refl _ _).alloc (Nat.le_refl _) _)
          have hl5 : (w4.alloc (.cells #[.int .i64 (i : Nat), .int .i64 (k : Nat), lv] 324)).ownsRow w2.heap.size 9 1 lv (linesAt N ⟨i, k, j, l⟩).length (strs (linesAt N ⟨i, k, j, l⟩)) := ownsRow_mono (hlo.alloc _) (by omega)
          have HL5 := hid hl5
          have HG5 := hid hG5
          have hrow5 := hG5.row
          have hnew := new_block3 w4 (.int .i64 (i : Nat)) (.int .i64 (k : Nat)) lv 324
          have hb5 : Below w2.heap.size w2 w4 := hbw3.trans (hb4.mono (by omega))
          have hone : ∀ u ∈ [Value.int .i64 (i : Nat), .int .i64 (k : Nat), lv], u.oneCell' = true := by
            intro u hu
            simp only [List.mem_cons, List.not_mem_nil, or_false] at hu
            rcases hu with rfl | rfl | rfl
            · rfl
            · rfl
            · rw [hle]; rfl
          obtain ⟨ln, hln'⟩ : ∃ n, ((N.take l).drop j).length = n := ⟨_, rfl⟩
          rw [hln'] at hle
          subst hle
          clear hl5 hG5 hG4 hlo hln' HG3
          go_wp2_with (at_builtin; refine wpList_append_own _ rfl _ _ 321 rfl w2.heap.size 324 i0 _ 3 40 Tryz.underlying321 hi hz0 hz1 hz2 rfl (by decide) _ _ _ rfl hrow5 ⟨w4.heap.size, 0, none⟩ 1 1 [.int .i64 (i : Nat), .int .i64 (k : Nat), .slice la ln lc] rfl rfl hnew hone (by unfold maxLen; omega) (by omega) (by simp; omega) ?_)
          intro v' w6 hown' hg _
          have HG6 : Hid (GV w6 w2.heap.size v' N (G ++ [(⟨⟨i, k, j, l⟩, .slice la ln lc⟩ : Gp)])) := HG5.out.step hg hown' HL5.out
          have hb6 : Below w2.heap.size w2 w6 := step_any (B := w2.heap.size) (Nat.le_refl _) hrow5 (hb5.alloc (by omega) _) (by simp; omega) hg
          have hb06 : Below w.heap.size w w6 := (hb1.trans (hb2.mono hs1)).trans (hb6.mono (by omega))
          clear hown' hg hrow5 hnew hone HG5 HL5
          by_cases hend : k = O.length
          · have hke : ((k : Int) == (O.length : Int)) = true := by simp; omega
            have hke2 : decide (k = O.length) = true := by simpa using hend
            have HF : Hid (GapsOut O N w w6 v') := ⟨_, HG6.out.mono (by omega), by rw [List.map_append]; exact HRR.out _ (by have := GapsR.stop HKL.out hend; rw [HGO.out] at this; exact this)⟩
            clear HG6 HRR
            go_wp2
            go_ret
            exact ⟨_, rfl, HF.out, hb06⟩
          · have hke : ((k : Int) == (O.length : Int)) = false := by rw [beq_eq_false_iff_ne]; omega
            have hke2 : decide (k = O.length) = false := by simpa using hend
            have hk3 : k < O.length := by omega
            have hl3 : l < N.length := by
              rcases p5 with h | h
              · exact h.2.1
              · omega
            have HF : Hid (∀ rest, GapsR O N (k + 1) (l + 1) rest → GapsR O N 0 0 ((G ++ [(⟨⟨i, k, j, l⟩, .slice la ln lc⟩ : Gp)]).map (fun g : Gp => g.q) ++ rest)) := fun rest hr => by
              have h1 := GapsR.go HKL.out hk3 hr
              rw [HGO.out] at h1
              have h2 := HRR.out _ h1
              simpa using h2
            clear HRR p5
            go_wp2
            go_roundw
            case rel => exact ⟨k + 1, l + 1, _, by omega, by omega, by go_num, by go_num, HG6, by simp; omega, HF, hb6⟩
            case measure => simp [intOf]; omega
      · obtain rfl : nc = j := by omega
        obtain rfl : l = nc := by omega
        have q1 : i < k := by omega
        have q2 : decide (i < k) = true := by simpa using q1
        have hself : l - l = 0 := Nat.sub_self _
        have HCL : Hid (Calls Tryz.prog 271 #[.slice (some ⟨b, o, none⟩) 0 0] w3 fun e w' => ∃ v, e = .returned v ∧ w'.ownsRow w3.heap.size 9 1 v ((N.take l).drop l).length (strs ((N.take l).drop l)) ∧ Below w3.heap.size w3 w') := by
          have h := clone199_part [] 0 0 (Nat.le_refl _) (Nat.le_refl _) b o 0 w3 (by simp) (.inl rfl) (by omega)
          have e : (N.take l).drop l = [] := by rw [List.drop_eq_nil_iff, List.length_take]; omega
          rw [e]
          show Calls _ _ _ _ _
          simpa using h
        clear hgap hjn
        go_wp2_with fail
        refine HCL.out.mono ?_
        rintro e w4 ⟨lv, rfl, hlo, hb4⟩
        clear HCL
        have hs4 := hb4.size
        obtain ⟨la, lc, hle⟩ := own_shape hlo
        have hG4 := HG3.out.below hb4
        have hG5 : GV (w4.alloc (.cells #[.int .i64 (i : Nat), .int .i64 (k : Nat), lv] 324)) w2.heap.size u6 N G := hG4.below ((Below.refl _ _).alloc (Nat.le_refl _) _)
        have hl5 : (w4.alloc (.cells #[.int .i64 (i : Nat), .int .i64 (k : Nat), lv] 324)).ownsRow w2.heap.size 9 1 lv (linesAt N ⟨i, k, l, l⟩).length (strs (linesAt N ⟨i, k, l, l⟩)) := ownsRow_mono (hlo.alloc _) (by omega)
        have HL5 := hid hl5
        have HG5 := hid hG5
        have hrow5 := hG5.row
        have hnew := new_block3 w4 (.int .i64 (i : Nat)) (.int .i64 (k : Nat)) lv 324
        have hb5 : Below w2.heap.size w2 w4 := hbw3.trans (hb4.mono (by omega))
        have hone : ∀ u ∈ [Value.int .i64 (i : Nat), .int .i64 (k : Nat), lv], u.oneCell' = true := by
          intro u hu
          simp only [List.mem_cons, List.not_mem_nil, or_false] at hu
          rcases hu with rfl | rfl | rfl
          · rfl
          · rfl
          · rw [hle]; rfl
        obtain ⟨ln, hln'⟩ : ∃ n, ((N.take l).drop l).length = n := ⟨_, rfl⟩
        rw [hln'] at hle
        subst hle
        clear hl5 hG5 hG4 hlo hln' HG3
        go_wp2_with (at_builtin; refine wpList_append_own _ rfl _ _ 321 rfl w2.heap.size 324 i0 _ 3 40 Tryz.underlying321 hi hz0 hz1 hz2 rfl (by decide) _ _ _ rfl hrow5 ⟨w4.heap.size, 0, none⟩ 1 1 [.int .i64 (i : Nat), .int .i64 (k : Nat), .slice la ln lc] rfl rfl hnew hone (by unfold maxLen; omega) (by omega) (by simp; omega) ?_)
        intro v' w6 hown' hg _
        have HG6 : Hid (GV w6 w2.heap.size v' N (G ++ [(⟨⟨i, k, l, l⟩, .slice la ln lc⟩ : Gp)])) := HG5.out.step hg hown' HL5.out
        have hb6 : Below w2.heap.size w2 w6 := step_any (B := w2.heap.size) (Nat.le_refl _) hrow5 (hb5.alloc (by omega) _) (by simp; omega) hg
        have hb06 : Below w.heap.size w w6 := (hb1.trans (hb2.mono hs1)).trans (hb6.mono (by omega))
        clear hown' hg hrow5 hnew hone HG5 HL5
        by_cases hend : k = O.length
        · have hke : ((k : Int) == (O.length : Int)) = true := by simp; omega
          have hke2 : decide (k = O.length) = true := by simpa using hend
          have HF : Hid (GapsOut O N w w6 v') := ⟨_, HG6.out.mono (by omega), by rw [List.map_append]; exact HRR.out _ (by have := GapsR.stop HKL.out hend; rw [HGO.out] at this; exact this)⟩
          clear HG6 HRR
          go_wp2
          go_ret
          exact ⟨_, rfl, HF.out, hb06⟩
        · have hke : ((k : Int) == (O.length : Int)) = false := by rw [beq_eq_false_iff_ne]; omega
          have hke2 : decide (k = O.length) = false := by simpa using hend
          have hk3 : k < O.length := by omega
          have hl3 : l < N.length := by
            rcases p5 with h | h
            · exact h.2.1
            · omega
          have HF : Hid (∀ rest, GapsR O N (k + 1) (l + 1) rest → GapsR O N 0 0 ((G ++ [(⟨⟨i, k, l, l⟩, .slice la ln lc⟩ : Gp)]).map (fun g : Gp => g.q) ++ rest)) := fun rest hr => by
            have h1 := GapsR.go HKL.out hk3 hr
            rw [HGO.out] at h1
            have h2 := HRR.out _ h1
            simpa using h2
          clear HRR p5
          go_wp2
          go_roundw
          case rel => exact ⟨k + 1, l + 1, _, by omega, by omega, by go_num, by go_num, HG6, by simp; omega, HF, hb6⟩
          case measure => simp [intOf]; omega
    · have HGO : Hid (gapOf i k j l = []) := by show _ = _; unfold gapOf; rw [if_neg hgap]
      have q1 : decide (i < k) = false := by simp; omega
      have q2 : decide (j < l) = false := by simp; omega
      by_cases hend : k = O.length
      · have hke : ((k : Int) == (O.length : Int)) = true := by simp; omega
        have hke2 : decide (k = O.length) = true := by simpa using hend
        have HF : Hid (GapsOut O N w w3 u6) := ⟨_, HG3.out.mono (by omega), by have h1 := GapsR.stop HKL.out hend; rw [HGO.out] at h1; simpa using HRR.out _ h1⟩
        clear HG3 HRR
        go_wp2
        go_ret
        exact ⟨_, rfl, HF.out, hbw03⟩
      · have hke : ((k : Int) == (O.length : Int)) = false := by rw [beq_eq_false_iff_ne]; omega
        have hke2 : decide (k = O.length) = false := by simpa using hend
        have hk3 : k < O.length := by omega
        have hl3 : l < N.length := by
          rcases p5 with h | h
          · exact h.2.1
          · omega
        have HF : Hid (∀ rest, GapsR O N (k + 1) (l + 1) rest → GapsR O N 0 0 (G.map (fun g : Gp => g.q) ++ rest)) := fun rest hr => by
          have h1 := GapsR.go HKL.out hk3 hr
          rw [HGO.out] at h1
          exact HRR.out _ h1
        clear HRR p5
        go_wp2
        go_roundw
        case rel => exact ⟨k + 1, l + 1, _, by omega, by omega, by go_num, by go_num, HG3, by omega, HF, hbw3⟩
        case measure => simp [intOf]; omega
end Go.Proofs.YtgdfipmdmgkidaaGreatDoor

/- The table of what the rests of two lists have in common. -/
namespace Go.Proofs.YtgdfipmdmgkidaaGreatDoor
open Go.RowKit
def fnA (n : Nat) (f : Nat → Value) : Array Value := ((List.range n).map f).toArray
theorem fnA_get (n : Nat) (f : Nat → Value) (i : Nat) (h : i < n) : (fnA n f)[i]? = some (f i) := by simp [fnA, h]
theorem fnA_set (n : Nat) (f g : Nat → Value) (k : Nat) (u : Value) (hk : k < n) (hg : ∀ i, i < n → g i = if i = k then u else f i) : (fnA n f).setIfInBounds k u = fnA n g := by
  apply Array.ext'
  apply List.ext_getElem?
  intro i
  simp only [fnA, List.setIfInBounds_toArray, List.getElem?_set]
  by_cases hi : i < n
  · by_cases e : k = i
    · subst e
      simp [hi, hg k hi]
    · have e' : i ≠ k := fun h => e h.symm
      simp [hi, e, e', hg i hi]
  · by_cases e : k = i
    · omega
    · simp [hi, e]
theorem fnA_congr (n : Nat) (f g : Nat → Value) (h : ∀ i, i < n → f i = g i) : fnA n f = fnA n g := by
  unfold fnA
  congr 1
  exact List.map_congr_left fun i hi => h i (List.mem_range.1 hi)
theorem made_fn (z : Value) (n : Nat) : madeCells #[z] n = fnA n (fun _ => z) := by
  apply Array.ext'
  apply List.ext_getElem?
  intro j
  by_cases hj : j < n
  · simp [madeCells, fnA, hj, Nat.mod_one]
  · simp [madeCells, fnA, hj]
def outF (B m k : Nat) (i : Nat) : Value := if i < k then .slice (some ⟨B + 1 + i, 0, none⟩) (m + 1) (m + 1) else .slice none 0 0
def rowF (T : Nat → Nat → Nat) (i : Nat) (j : Nat) : Value := .int .i64 (T i j : Nat)
structure Tab (w wr : World) (n m k : Nat) (T : Nat → Nat → Nat) : Prop where
  lo : w.heap.size + 1 + k ≤ wr.heap.size
  outer : wr.heap[w.heap.size]? = some (.cells (fnA (n + 1) (outF w.heap.size m k)) 25 (0, 0))
  rows : ∀ i, i < k → wr.heap[w.heap.size + 1 + i]? = some (.cells (fnA (m + 1) (rowF T i)) 3 (0, 0))
  bel : Below w.heap.size w wr
theorem Tab.out {w wr : World} {n m k : Nat} {T : Nat → Nat → Nat} (h : Tab w wr n m k T) (i : Nat) (hi : i < k) (hn : i ≤ n) : wr.cell? ⟨w.heap.size, i, none⟩ = some (.slice (some ⟨w.heap.size + 1 + i, 0, none⟩) (m + 1) (m + 1)) := by
  have e := fnA_get (n + 1) (outF w.heap.size m k) i (by omega)
  unfold World.cell?
  rw [h.outer]
  simp [e, outF, hi]
theorem Tab.cell {w wr : World} {n m k : Nat} {T : Nat → Nat → Nat} (h : Tab w wr n m k T) (i j : Nat) (hi : i < k) (hj : j ≤ m) : wr.cell? ⟨w.heap.size + 1 + i, j, none⟩ = some (.int .i64 (T i j : Nat)) := by
  have e := fnA_get (m + 1) (rowF T i) j (by omega)
  unfold World.cell?
  rw [h.rows i hi]
  simp [e, rowF]
theorem Tab.free {w wr : World} {n m k : Nat} {T : Nat → Nat → Nat} (h : Tab w wr n m k T) (i j : Nat) (hi : i < k) : wr.frozen? ⟨w.heap.size + 1 + i, j, none⟩ = false := by
  unfold World.frozen?
  rw [h.rows i hi]
  simp
theorem Tab.put {w wr : World} {n m k : Nat} {T T' : Nat → Nat → Nat} (h : Tab w wr n m k T) (i j v : Nat) (hi : i < k) (hj : j ≤ m) (hT : ∀ r c, r < k → c ≤ m → T' r c = if r = i ∧ c = j then v else T r c) : Tab w (wr.setCell ⟨w.heap.size + 1 + i, j, none⟩ (.int .i64 (v : Nat))) n m k T' := by
  refine ⟨by simpa [World.setCell] using h.lo, (Below.heap_setCell _ _ _ _ (by simp; omega)).trans h.outer, fun r hr => ?_, h.bel.setCell (p := ⟨w.heap.size + 1 + i, j, none⟩) (by simp; omega) _⟩
  by_cases e : r = i
  · subst e
    rw [heap_setCell_same wr (w.heap.size + 1 + r) j _ 3 _ (h.rows r hr), fnA_set (m + 1) (rowF T r) (rowF T' r) j _ (by omega) (fun c hc => by
      unfold rowF
      rw [hT r c hr (by omega)]
      by_cases e : c = j <;> simp [e])]
  · rw [Below.heap_setCell _ _ _ _ (by simp; omega), h.rows r hr]
    congr 2
    exact fnA_congr _ _ _ fun c hc => by unfold rowF; rw [hT r c hr (by omega)]; simp [e]
theorem Tab.congr {w wr : World} {n m k : Nat} {T T' : Nat → Nat → Nat} (h : Tab w wr n m k T) (hT : ∀ r c, r < k → c ≤ m → T r c = T' r c) : Tab w wr n m k T' := by
  refine ⟨h.lo, h.outer, fun i hi => ?_, h.bel⟩
  rw [h.rows i hi]
  congr 2
  exact fnA_congr _ _ _ fun c hc => by unfold rowF; rw [hT i c hi (by omega)]
theorem Tab.drewN {w wr : World} {n m k : Nat} {T : Nat → Nat → Nat} (h : Tab w wr n m k T) (q : Nat) : Tab w (wr.drewN q) n m k T := ⟨h.lo, h.outer, h.rows, below_drewN h.bel q⟩
theorem Tab.tv {w wr : World} {n m : Nat} {T T' : Nat → Nat → Nat} (h : Tab w wr n m (n + 1) T) (hT : ∀ r c, r ≤ n → c ≤ m → T r c = T' r c) (cap : Nat) : TV wr (.slice (some ⟨w.heap.size, 0, none⟩) (n + 1) cap) n m T' := by
  refine ⟨_, _, _, rfl, by have := h.lo; omega, fun i hi => ⟨w.heap.size + 1 + i, 0, m + 1, ?_, by have := h.lo; omega, fun j hj => ?_⟩⟩
  · rw [Nat.zero_add]; exact h.out i (by omega) hi
  · rw [Nat.zero_add, ← hT i j hi hj]; exact h.cell i j (by omega) hj
theorem Tryz.info25 : (Tryz.prog.info? 25).map (fun i => (i.zero, i.size, i.bytes)) = some (some (.slice none 0 0), 1, 24) := by kernel_rfl
theorem Tab.start (w : World) (n m : Nat) (T : Nat → Nat → Nat) : Tab w (w.alloc (.cells (fnA (n + 1) (fun _ => .slice none 0 0)) 25)) n m 0 T := by
  refine ⟨by simp, ?_, fun i hi => by omega, (Below.refl _ _).alloc (Nat.le_refl _) _⟩
  rw [(MapKept.heap_alloc w _).1]
  congr 2
theorem Tab.more {w wr : World} {n m k : Nat} (h : Tab w wr n m k (fun _ _ => 0)) (hs : wr.heap.size = w.heap.size + 1 + k) (hk : k ≤ n) : Tab w ((wr.setCell ⟨w.heap.size, k, none⟩ (.slice (some ⟨wr.heap.size, 0, none⟩) (m + 1) (m + 1))).alloc (.cells (fnA (m + 1) (fun _ => .int .i64 0)) 3)) n m (k + 1) (fun _ _ => 0) ∧
    ((wr.setCell ⟨w.heap.size, k, none⟩ (.slice (some ⟨wr.heap.size, 0, none⟩) (m + 1) (m + 1))).alloc (.cells (fnA (m + 1) (fun _ => .int .i64 0)) 3)).heap.size = w.heap.size + 1 + (k + 1) := by
  rw [hs]
  obtain ⟨w1, hw1⟩ : ∃ w1, w1 = wr.setCell ⟨w.heap.size, k, none⟩ (.slice (some ⟨w.heap.size + 1 + k, 0, none⟩) (m + 1) (m + 1)) := ⟨_, rfl⟩
  have hs1 : w1.heap.size = w.heap.size + 1 + k := by rw [hw1, ← hs]; simp [World.setCell]
  have h1 := heap_setCell_same wr w.heap.size k _ 25 (.slice (some ⟨w.heap.size + 1 + k, 0, none⟩) (m + 1) (m + 1)) h.outer
  have h2 : ∀ r, r ≠ w.heap.size → w1.heap[r]? = wr.heap[r]? := fun r hr => by rw [hw1]; exact Below.heap_setCell _ _ _ _ hr
  have hb1 : Below w.heap.size w w1 := by rw [hw1]; exact h.bel.setCell (p := ⟨w.heap.size, k, none⟩) (Nat.le_refl _) _
  rw [← hw1] at h1 ⊢
  refine ⟨⟨by simp; omega, ?_, fun r hr => ?_, hb1.alloc (by omega) _⟩, by simp; omega⟩
  · rw [Below.heap_alloc w1 _ _ (by omega), h1, fnA_set (n + 1) _ (outF w.heap.size m (k + 1)) k _ (by omega) (fun i hi => by
      unfold outF
      by_cases e : i = k
      · subst e; simp
      · by_cases e2 : i < k
        · simp [e, e2, show i < k + 1 by omega]
        · simp [e, e2, show ¬ i < k + 1 by omega])]
  · by_cases e : r = k
    · subst e
      have := (MapKept.heap_alloc w1 (.cells (fnA (m + 1) (fun _ => .int .i64 0)) 3)).1
      rw [hs1] at this
      rw [this]
      rfl
    · rw [Below.heap_alloc w1 _ _ (by omega), h2 _ (by omega)]
      exact h.rows r (by omega)
end Go.Proofs.YtgdfipmdmgkidaaGreatDoor
/- The contract of the program's commonParts. -/
namespace Go.Proofs.YtgdfipmdmgkidaaGreatDoor
open Go.RowKit
theorem make_outer (n : Nat) (hn : n ≤ 10000) (u : World) : (Instr.makeSlice 257 (.int .i64 ((n : Int) + 1)) (.int .i64 ((n : Int) + 1))).run Tryz.prog u = .ok (.slice (some ⟨u.heap.size, 0, none⟩) (n + 1) (n + 1)) (u.alloc (.cells (fnA (n + 1) (fun _ => .slice none 0 0)) 25)) := by
  obtain ⟨i0, hi, hz0, hz1, hz2⟩ := info_parts Tryz.info25
  have h := run_make (P := Tryz.prog) u 257 25 i0 (.slice none 0 0) Tryz.underlying257 hi hz0 .i64 .i64 ((n : Int) + 1) ((n : Int) + 1) (by omega) (Int.le_refl _) (by rw [hz2]; omega) (by omega)
  have e : ((n : Int) + 1).toNat = n + 1 := by omega
  rw [e] at h
  rw [← made_fn]
  simpa [hz1, Value.cells] using h
theorem make_inner (m : Nat) (hm : m ≤ 10000) (u : World) : (Instr.makeSlice 25 (.int .i64 ((m : Int) + 1)) (.int .i64 ((m : Int) + 1))).run Tryz.prog u = .ok (.slice (some ⟨u.heap.size, 0, none⟩) (m + 1) (m + 1)) (u.alloc (.cells (fnA (m + 1) (fun _ => .int .i64 0)) 3)) := by
  obtain ⟨i0, hi, hz0, hz1, hz2⟩ := info_parts Tryz.info3
  have h := run_make (P := Tryz.prog) u 25 3 i0 (.int .i64 0) Tryz.underlying25 hi hz0 .i64 .i64 ((m : Int) + 1) ((m : Int) + 1) (by omega) (Int.le_refl _) (by rw [hz2]; omega) (by omega)
  have e : ((m : Int) + 1).toNat = m + 1 := by omega
  rw [e] at h
  rw [← made_fn]
  simpa [hz1, Value.cells] using h
def TT (O N : List ByteArray) (a b : Nat) (r c : Nat) : Nat := if a ≤ r ∨ (r + 1 = a ∧ b ≤ c) then CC O N r c else 0
set_option maxRecDepth 100000 in
set_option maxHeartbeats 6400000 in
theorem common197_any (O N : List ByteArray) (hO : O.length ≤ 10000) (hN : N.length ≤ 10000) (oa na : Option Addr) (oc nc : Nat) (w : World) (hvo : View w oa O) (hvn : View w na N) :
    Calls Tryz.prog 269 #[.slice oa O.length oc, .slice na N.length nc] w fun e w' => ∃ v, e = .returned v ∧ TV w' v O.length N.length (CC O N) ∧ Below w.heap.size w w' := by
  have hm1 := make_outer O.length hO
  have hm2 := make_inner N.length hN
  have HVO := hid hvo
  have HVN := hid hvn
  have T0 := Tab.start w O.length N.length (fun _ _ => 0)
  have S0 : (w.alloc (.cells (fnA (O.length + 1) (fun _ => .slice none 0 0)) 25)).heap.size = w.heap.size + 1 + 0 := by simp
  clear hvo hvn
  go_enter Tryz.func269, Tryz.ntmps269
  go_wp2
  obtain ⟨wa, hwa⟩ : ∃ wa, wa = w.alloc (.cells (fnA (O.length + 1) (fun _ => .slice none 0 0)) 25) := ⟨_, rfl⟩
  rw [← hwa] at T0 S0 ⊢
  clear hwa
  go_loopw [15] (fun x wr => ∃ k : Nat, k ≤ O.length + 1 ∧ x = .int .i64 k ∧ Hid (Tab w wr O.length N.length k (fun _ _ => 0)) ∧ Hid (wr.heap.size = w.heap.size + 1 + k)) (fun x _ => O.length + 1 - (intOf x).toNat)
  case atStart => exact ⟨0, Nat.zero_le _, rfl, T0, S0⟩
  case round =>
    obtain ⟨k, hk, rfl, HT, HS⟩ := hrel
    by_cases hlt : k < O.length + 1
    · have hl1 : (k : Int) < ((O.length + 1 : Nat) : Int) := by omega
      have hc := HT.out.outer
      have hck : wr.cell? ⟨w.heap.size, k, none⟩ = some (.slice none 0 0) := by
        have e := fnA_get (O.length + 1) (outF w.heap.size N.length k) k hlt
        unfold World.cell?
        rw [hc]
        simp [e, outF]
      have hfk : wr.frozen? ⟨w.heap.size, k, none⟩ = false := by unfold World.frozen?; rw [hc]; simp
      have hsz : w.heap.size < wr.heap.size := by have := HS.out; omega
      have HT2 := HT.out.more HS.out (by omega)
      have HT3 := hid HT2.1
      have HS3 := hid HT2.2
      clear HT2 hc HT HS
      go_wp2
      go_roundw
      case rel => exact ⟨k + 1, by omega, by go_num, HT3, HS3⟩
      case measure => simp [intOf] <;> omega
    · obtain rfl : k = O.length + 1 := by omega
      have HT1 : Hid (Tab w wr O.length N.length (O.length + 1) (fun r c => if O.length ≤ r then CC O N r c else 0)) := HT.out.congr fun r c hr hc => by
        by_cases h : O.length ≤ r
        · simp [h, CC_end1 h]
        · simp [h]
      clear HT HS T0 S0
      go_wp2
      go_loopw [7] (fun x wr => ∃ a : Nat, a ≤ O.length ∧ x = .int .i64 ((a : Int) - 1) ∧ Hid (Tab w wr O.length N.length (O.length + 1) (fun r c => if a ≤ r then CC O N r c else 0))) (fun x _ => (intOf x + 1).toNat)
      case atStart => exact ⟨O.length, Nat.le_refl _, rfl, HT1⟩
      case round =>
        clear HT1
        obtain ⟨a, ha, rfl, HT⟩ := hrel
        by_cases h0 : a = 0
        · subst h0
          have HF : Hid (TV wr (.slice (some ⟨w.heap.size, 0, none⟩) (O.length + 1) (O.length + 1)) O.length N.length (CC O N)) := HT.out.tv (fun r c _ _ => by simp) _
          have HB := hid HT.out.bel
          clear HT
          go_wp2
          go_ret
          exact ⟨_, rfl, HF.out, HB.out⟩
        · obtain ⟨x, rfl⟩ : ∃ x, a = x + 1 := ⟨a - 1, by omega⟩
          have ex : (((x + 1 : Nat) : Int) - 1) = (x : Int) := by omega
          rw [ex]
          have HTS : Hid (Tab w wr O.length N.length (O.length + 1) (TT O N (x + 1) N.length)) := HT.out.congr fun r c hr hc => by
            unfold TT
            by_cases h : x + 1 ≤ r
            · rw [if_pos h, if_pos (.inl h)]
            · rw [if_neg h]
              by_cases h2 : r + 1 = x + 1 ∧ N.length ≤ c
              · rw [if_pos (.inr h2), CC_end2 h2.2]
              · rw [if_neg (fun h3 => h3.elim h h2)]
          clear HT ex
          go_wp2
          go_loopw [8] (fun y wr => ∃ b : Nat, b ≤ N.length ∧ y = .int .i64 ((b : Int) - 1) ∧ Hid (Tab w wr O.length N.length (O.length + 1) (TT O N (x + 1) b))) (fun y _ => (intOf y + 1).toNat)
          case atStart => exact ⟨N.length, Nat.le_refl _, rfl, HTS⟩
          case round =>
            clear HTS
            obtain ⟨b, hb, rfl, HT⟩ := hrel
            by_cases hb0 : b = 0
            · subst hb0
              have HTE : Hid (Tab w wr O.length N.length (O.length + 1) (fun r c => if x ≤ r then CC O N r c else 0)) := HT.out.congr fun r c hr hc => by
                unfold TT
                by_cases h : x ≤ r
                · rw [if_pos h, if_pos (by omega)]
                · rw [if_neg h, if_neg (by omega)]
              clear HT
              go_wp2
              go_roundw
              case rel => exact ⟨x, by omega, by go_num, HTE⟩
              case measure => simp [intOf] <;> omega
            · obtain ⟨y, rfl⟩ : ∃ y, b = y + 1 := ⟨b - 1, by omega⟩
              have ey : (((y + 1 : Nat) : Int) - 1) = (y : Int) := by omega
              rw [ey]
              clear ey
              have hx : x < O.length := by omega
              have hy : y < N.length := by omega
              rcases HVO.out.below HT.out.bel with h | ⟨ob, oo, rfl, hob, hoc⟩
              · omega
              rcases HVN.out.below HT.out.bel with h | ⟨nb, no, rfl, hnb, hnc⟩
              · omega
              have co := hoc x hx
              have cn := hnc y hy
              obtain ⟨s, hs⟩ : ∃ s, O.getD x ByteArray.empty = s := ⟨_, rfl⟩
              obtain ⟨t, ht⟩ : ∃ t, N.getD y ByteArray.empty = t := ⟨_, rfl⟩
              rw [hs] at co
              rw [ht] at cn
              have gs : O[x] = s := by rw [← hs, List.getD_eq_getElem?_getD, List.getElem?_eq_getElem hx, Option.getD_some]
              have gt : N[y] = t := by rw [← ht, List.getD_eq_getElem?_getD, List.getElem?_eq_getElem hy, Option.getD_some]
              clear hoc hnc hs ht
              have o0 := HT.out.out x (by omega) (by omega)
              have o1 := HT.out.out (x + 1) (by omega) (by omega)
              have f0 := HT.out.free x y (by omega)
              have c0 := HT.out.cell x y (by omega) (by omega)
              have c1 := HT.out.cell (x + 1) (y + 1) (by omega) (by omega)
              have c2 := HT.out.cell (x + 1) y (by omega) (by omega)
              have c3 := HT.out.cell x (y + 1) (by omega) (by omega)
              have t1 : TT O N (x + 1) (y + 1) (x + 1) (y + 1) = CC O N (x + 1) (y + 1) := by unfold TT; rw [if_pos (by omega)]
              have t2 : TT O N (x + 1) (y + 1) (x + 1) y = CC O N (x + 1) y := by unfold TT; rw [if_pos (by omega)]
              have t3 : TT O N (x + 1) (y + 1) x (y + 1) = CC O N x (y + 1) := by unfold TT; rw [if_pos (by omega)]
              rw [t1] at c1
              rw [t2] at c2
              rw [t3] at c3
              have b1 := CC_le O N (x + 1) (y + 1)
              have b2 := CC_le O N (x + 1) y
              have b3 := CC_le O N x (y + 1)
              have hput : ∀ (q v : Nat), v = CC O N x y → Tab w ((wr.drewN q).setCell ⟨w.heap.size + 1 + x, y, none⟩ (.int .i64 (v : Nat))) O.length N.length (O.length + 1) (TT O N (x + 1) y) := fun q v hv => (HT.out.drewN q).put x y v (by omega) (by omega) (fun r c hr hc => by
                unfold TT
                by_cases e : r = x ∧ c = y
                · obtain ⟨rfl, rfl⟩ := e
                  rw [if_pos (by omega), if_pos ⟨rfl, rfl⟩, hv]
                · rw [if_neg e]
                  by_cases e2 : x + 1 ≤ r ∨ (r + 1 = x + 1 ∧ y + 1 ≤ c)
                  · rw [if_pos e2, if_pos (by omega)]
                  · rw [if_neg e2, if_neg (by omega)])
              have HP : Hid (∀ (q : Nat) (u : Int), u = ((CC O N x y : Nat) : Int) → Tab w ((wr.drewN q).setCell ⟨w.heap.size + 1 + x, y, none⟩ (.int .i64 u)) O.length N.length (O.length + 1) (TT O N (x + 1) y)) := fun q u hu => by rw [hu]; exact hput q _ rfl
              clear hput t1 t2 t3
              obtain ⟨z0, hz0⟩ : ∃ z, TT O N (x + 1) (y + 1) x y = z := ⟨_, rfl⟩
              rw [hz0] at c0
              have hxi : (x : Int) < ((O.length + 1 : Nat) : Int) := by omega
              have hxi2 : (x : Int) + 1 < ((O.length + 1 : Nat) : Int) := by omega
              have hyi : (y : Int) < ((N.length + 1 : Nat) : Int) := by omega
              have hyi2 : (y : Int) + 1 < ((N.length + 1 : Nat) : Int) := by omega
              have hxl : (x : Int) < (O.length : Int) := by omega
              have hyl : (y : Int) < (N.length : Int) := by omega
              have wx : IntKind.i64.wrap ((x : Int) + 1) = (x : Int) + 1 := by simp [IntKind.wrap, IntKind.signed, IntKind.bits]; omega
              have wy : IntKind.i64.wrap ((y : Int) + 1) = (y : Int) + 1 := by simp [IntKind.wrap, IntKind.signed, IntKind.bits]; omega
              have tx : ((x : Int) + 1).toNat = x + 1 := by omega
              have ty : ((y : Int) + 1).toNat = y + 1 := by omega
              have px : (0 : Int) ≤ (x : Int) + 1 := by omega
              have py : (0 : Int) ≤ (y : Int) + 1 := by omega
              clear HT hz0
              cases he : decide (s = t)
              · have hb2 : (s.toList == t.toList) = false := by rw [eq_bytes']; exact he
                have HV : Hid (CC O N x y = max (CC O N (x + 1) y) (CC O N x (y + 1))) := CC_ne hx hy (by rw [gs, gt]; simpa using he)
                clear gs gt he c1 b1
                generalize CC O N (x + 1) y = A at *
                generalize CC O N x (y + 1) = D at *
                go_wp2_with fail
                go_quiet (fail)
                go_wp2_with fail
                go_region
                all_goals
                  have HE : Hid (Tab w ((wr.drewN (nq + 1)).setCell ⟨w.heap.size + 1 + x, y, none⟩ (.int .i64 (if A < D then (D : Int) else (A : Int)))) O.length N.length (O.length + 1) (TT O N (x + 1) y)) := HP.out (nq + 1) _ (by rw [HV.out]; split <;> omega)
                  clear HP co cn o0 o1 f0 c0 c2 c3
                  generalize (wr.drewN (nq + 1)).setCell ⟨w.heap.size + 1 + x, y, none⟩ (.int .i64 (if A < D then (D : Int) else (A : Int))) = w9 at *
                  go_wp2
                  go_roundw
                  case rel => exact ⟨y, by omega, by go_num, HE⟩
                  case measure => simp [intOf] <;> omega
              · have hb2 : (s.toList == t.toList) = true := by rw [eq_bytes']; exact he
                have HV : Hid (CC O N x y = CC O N (x + 1) (y + 1) + 1) := CC_eq hx hy (by rw [gs, gt]; simpa using he)
                clear gs gt he c2 c3 b2 b3
                generalize CC O N (x + 1) (y + 1) = A at *
                go_wp2_with fail
                go_quiet (fail)
                go_wp2_with fail
                go_region
                all_goals
                  have HE : Hid (Tab w ((wr.drewN (nq + 1)).setCell ⟨w.heap.size + 1 + x, y, none⟩ (.int .i64 ((A : Int) + 1))) O.length N.length (O.length + 1) (TT O N (x + 1) y)) := HP.out (nq + 1) _ (by rw [HV.out]; omega)
                  clear HP co cn o0 o1 f0 c0 c1
                  generalize (wr.drewN (nq + 1)).setCell ⟨w.heap.size + 1 + x, y, none⟩ (.int .i64 ((A : Int) + 1)) = w9 at *
                  go_wp2
                  go_roundw
                  case rel => exact ⟨y, by omega, by go_num, HE⟩
                  case measure => simp [intOf] <;> omega
end Go.Proofs.YtgdfipmdmgkidaaGreatDoor
