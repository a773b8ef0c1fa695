/- What changed between two lists of lines: the gaps. -/
import Derived.Test.YtgdfipmdmgkidaaGreatDoorPdiff
import Derived.Test.YtgdfipmdmgkidaaGreatDoorProw
namespace Go.Proofs.YtgdfipmdmgkidaaGreatDoor
open Go.RowKit

/-- A list of texts, as a value. -/
def LV (w : World) (v : Value) (L : List ByteArray) : Prop := ∃ ao cap, v = .slice ao L.length cap ∧ View w ao L ∧ L.length ≤ cap ∧ ((ao = none ∧ cap = 0 ∧ L = []) ∨ ∃ b o, ao = some ⟨b, o, none⟩ ∧ b < w.heap.size)
theorem LV.below {w w' : World} {v : Value} {L : List ByteArray} (h : LV w v L) {B : Nat} (hb : Below B w w') (hB : w.heap.size ≤ B) : LV w' v L := by
  obtain ⟨ao, cap, rfl, h1, h2, h3⟩ := h
  refine ⟨ao, cap, rfl, h1.below (hb.mono hB), h2, ?_⟩
  rcases h3 with h3 | ⟨b, o, e, hlt⟩
  · exact .inl h3
  · exact .inr ⟨b, o, e, Nat.lt_of_lt_of_le hlt hb.size⟩
theorem LV.own {w : World} {B : Nat} {v : Value} {L : List ByteArray} (h : w.ownsRow B 9 1 v L.length (strs L)) : LV w v L := by
  have h0 := h
  have hlt := h.lt
  rcases h.2 with ⟨rfl, h2⟩ | ⟨g, cp, cur, rfl, _, hg, h3, _⟩
  · have hL : L = [] := List.eq_nil_of_length_eq_zero h2
    subst hL
    exact ⟨none, 0, rfl, .inl rfl, Nat.le_refl _, .inl ⟨rfl, rfl, rfl⟩⟩
  · exact ⟨_, cp, rfl, View.own h0, h3, .inr ⟨g, 0, rfl, (hlt g rfl).2⟩⟩

theorem getD_drop (L : List ByteArray) (j l k : Nat) (_hl : l ≤ L.length) (hk : k < l - j) : ((L.take l).drop j).getD k ByteArray.empty = L.getD (j + k) ByteArray.empty := by
  rw [List.getD_eq_getElem?_getD, List.getD_eq_getElem?_getD, List.getElem?_drop, List.getElem?_take_of_lt (by omega)]

set_option maxRecDepth 100000 in
theorem clone199_part (L : List ByteArray) (j l : Nat) (hjl : j ≤ l) (hl : l ≤ L.length) (b o cap : Nat) (w : World) (hlen : L.length ≤ 100000) (hv : View w (some ⟨b, o, none⟩) L) (hb : b < w.heap.size) :
    Calls Tryz.prog 271 #[.slice (some ⟨b, o + j, none⟩) (l - j) (cap - j)] w fun e w' => ∃ v, e = .returned v ∧ w'.ownsRow w.heap.size 9 1 v ((L.take l).drop j).length (strs ((L.take l).drop j)) ∧ Below w.heap.size w w' := by
  obtain ⟨i0, hi, hz0, hz1, hz2⟩ := info_parts Tryz.info9
  have hM : ((L.take l).drop j).length = l - j := by simp; omega
  have hc : ∀ (k : Nat) (u : Value), (strs ((L.take l).drop j))[k]? = some u → w.cell? ((⟨b, o + j, none⟩ : Addr).add k) = some u := by
    intro k u hk
    have hk2 : k < l - j := by
      have := (List.getElem?_eq_some_iff.1 hk).1
      rw [strs_length, hM] at this
      exact this
    rcases hv with h | ⟨b', o', e, _, h⟩
    · omega
    · cases e
      have h1 := h (j + k) (by omega)
      rw [← getD_drop L j l k hl hk2] at h1
      have hk3 : k < ((L.take l).drop j).length := by omega
      have e2 : (strs ((L.take l).drop j))[k]? = some (.string (((L.take l).drop j).getD k ByteArray.empty)) := by
        rw [List.getElem?_map, List.getElem?_eq_getElem hk3, List.getD_eq_getElem?_getD, List.getElem?_eq_getElem hk3]; rfl
      rw [hk] at e2
      cases e2
      rw [← h1]
      cases k
      · simp [Addr.add]
      · simp [Addr.add, Nat.add_assoc]
  generalize (L.take l).drop j = M at *
  have hnil : ∀ u : World, (binOp .eql 35 (.slice (some ⟨b, o + j, none⟩) (l - j) (cap - j)) (.slice none 0 0)).run Tryz.prog u = .ok (.bool false) u := fun u => Lib.run_eql_slice_some_nil u _ _ _ Tryz.underlying35
  have hb0 : Below w.heap.size w (w.alloc (.cells #[] 9)) := (Below.refl _ _).alloc (Nat.le_refl _) _
  have ho : (w.alloc (.cells #[] 9)).ownsRow w.heap.size 9 1 (.slice (some ⟨w.heap.size, 0, none⟩) 0 0) 0 [] := ⟨rfl, .inr ⟨w.heap.size, 0, #[], rfl, Nat.le_refl _, (MapKept.heap_alloc w _).1, Nat.le_refl _, Nat.zero_le _, rfl, rfl⟩⟩
  have hc1 : ∀ (k : Nat) (u : Value), (strs M)[k]? = some u → (w.alloc (.cells #[] 9)).cell? ((⟨b, o + j, none⟩ : Addr).add k) = some u := by
    intro k u hk
    have hblk : ((⟨b, o + j, none⟩ : Addr).add k).block = b := by cases k <;> simp [Addr.add]
    exact (hb0.cell (by rw [hblk]; exact hb)).trans (hc k u hk)
  clear hc hv
  go_enter Tryz.func271, Tryz.ntmps271
  go_wp2_with (at_builtin; refine wpList_append_own _ rfl _ _ 35 rfl w.heap.size 9 i0 (.string ⟨#[]⟩) 1 16 Tryz.underlying35 hi hz0 hz1 hz2 rfl (by decide) _ _ _ rfl ho ⟨b, o + j, none⟩ (l - j) (cap - j) (strs M) rfl (by rw [strs_length]; omega) hc1 (strs_one M) (by unfold maxLen; omega) (by omega) (by simp) ?_)
  intro v' w1 h1 h2 _
  have R := step_any (Nat.le_refl _) ho hb0 (by simp) h2
  clear h2 ho hb0 hc1
  go_wp2
  go_ret
  exact ⟨_, rfl, by rw [hM]; simpa using h1, R⟩
theorem nxtF_props (O N : List ByteArray) : ∀ (f i j : Nat), i ≤ O.length → j ≤ N.length → f = (O.length - i) + (N.length - j) → i ≤ (nxtF O N f i j).1 ∧ (nxtF O N f i j).1 ≤ O.length ∧ j ≤ (nxtF O N f i j).2 ∧ (nxtF O N f i j).2 ≤ N.length ∧ (meets O N (nxtF O N f i j).1 (nxtF O N f i j).2 ∨ ((nxtF O N f i j).1 = O.length ∧ (nxtF O N f i j).2 = N.length))
  | 0, i, j, hi, hj, hf => by
    simp only [nxtF]
    refine ⟨Nat.le_refl _, hi, Nat.le_refl _, hj, .inr ⟨by omega, by omega⟩⟩
  | f + 1, i, j, hi, hj, hf => by
    rw [nxtF]
    by_cases hm : meets O N i j
    · rw [if_pos hm]; exact ⟨Nat.le_refl _, hi, Nat.le_refl _, hj, .inl hm⟩
    · rw [if_neg hm]
      by_cases hk : killB O N i j = true
      · rw [if_pos hk]
        have h1 := kill_lt hi hk
        obtain ⟨a, b, c, d, e⟩ := nxtF_props O N f (i + 1) j (by omega) hj (by omega)
        exact ⟨by omega, b, c, d, e⟩
      · rw [if_neg hk]
        have h1 := nokill_lt hi hj (by omega) (by simpa using hk)
        obtain ⟨a, b, c, d, e⟩ := nxtF_props O N f i (j + 1) hi (by omega) (by omega)
        exact ⟨a, b, by omega, d, e⟩
theorem nxt_props (O N : List ByteArray) (i j : Nat) (hi : i ≤ O.length) (hj : j ≤ N.length) : i ≤ (nxt O N i j).1 ∧ (nxt O N i j).1 ≤ O.length ∧ j ≤ (nxt O N i j).2 ∧ (nxt O N i j).2 ≤ N.length ∧ (meets O N (nxt O N i j).1 (nxt O N i j).2 ∨ ((nxt O N i j).1 = O.length ∧ (nxt O N i j).2 = N.length)) :=
  nxtF_props O N _ i j hi hj rfl

/-- What is killed and what comes, between two lines that go on living. -/
structure Quad where
  i : Nat
  k : Nat
  j : Nat
  l : Nat
def gapOf (i k j l : Nat) : List Quad := if i < k ∨ j < l then [⟨i, k, j, l⟩] else []
inductive GapsR (O N : List ByteArray) : Nat → Nat → List Quad → Prop
  | stop {i j k l : Nat} : nxt O N i j = (k, l) → k = O.length → GapsR O N i j (gapOf i k j l)
  | go {i j k l : Nat} {rest : List Quad} : nxt O N i j = (k, l) → k < O.length → GapsR O N (k + 1) (l + 1) rest → GapsR O N i j (gapOf i k j l ++ rest)

/-- A gap, as it lies in memory. -/
structure Gp where
  q : Quad
  lv : Value
abbrev gpC (g : Gp) : List Value := [.int .i64 (g.q.i : Nat), .int .i64 (g.q.k : Nat), g.lv]
abbrev gsC (G : List Gp) : List Value := G.flatMap gpC
theorem gsC_len (G : List Gp) : (gsC G).length = G.length * 3 := by
  induction G with
  | nil => rfl
  | cons g G ih => simp only [gsC, List.flatMap_cons, List.length_append, List.length_cons] at *; rw [ih]; simp; omega
def linesAt (N : List ByteArray) (q : Quad) : List ByteArray := (N.take q.l).drop q.j
structure GV (w : World) (B : Nat) (v : Value) (N : List ByteArray) (G : List Gp) : Prop where
  row : w.ownsRow B 324 3 v G.length (gsC G)
  lines : ∀ g ∈ G, w.ownsRow B 9 1 g.lv (linesAt N g.q).length (strs (linesAt N g.q))

theorem own_far {w : World} {B B' n n' s s' : Nat} {e e' : TypeId} {v v' : Value} {xs xs' : List Value} (h : w.ownsRow B e s v n xs) (h' : w.ownsRow B' e' s' v' n' xs') (he : e ≠ e') : v.ownBlock = none ∨ v.ownBlock ≠ v'.ownBlock := by
  rcases h.2 with ⟨rfl, _⟩ | ⟨g, cap, cur, rfl, _, hg, _⟩
  · exact .inl rfl
  · right
    intro heq
    rcases h'.2 with ⟨rfl, _⟩ | ⟨g', cap', cur', rfl, _, hg', _⟩
    · cases heq
    · simp [Value.ownBlock] at heq
      subst heq
      rw [hg] at hg'
      simp at hg'
      exact he hg'.2

theorem GV.step {w w1 : World} {B : Nat} {v v' : Value} {N : List ByteArray} {G : List Gp} {g : Gp} (h : GV w B v N G) (hg : w.grownBy w1 v.ownBlock) (hrow : w1.ownsRow B 324 3 v' (G.length + 1) (gsC G ++ gpC g)) (hl : w.ownsRow B 9 1 g.lv (linesAt N g.q).length (strs (linesAt N g.q))) : GV w1 B v' N (G ++ [g]) := by
  refine ⟨by simpa [gsC] using hrow, fun x hx => ?_⟩
  rcases List.mem_append.1 hx with hx | hx
  · exact (h.lines x hx).kept hg (own_far (h.lines x hx) h.row (by decide))
  · simp at hx
    subst hx
    exact hl.kept hg (own_far hl h.row (by decide))
theorem GV.below {w w1 : World} {B : Nat} {v : Value} {N : List ByteArray} {G : List Gp} (h : GV w B v N G) (hb : Below w.heap.size w w1) : GV w1 B v N G :=
  ⟨own_below h.row hb (Nat.le_refl _), fun x hx => own_below (h.lines x hx) hb (Nat.le_refl _)⟩
end Go.Proofs.YtgdfipmdmgkidaaGreatDoor
