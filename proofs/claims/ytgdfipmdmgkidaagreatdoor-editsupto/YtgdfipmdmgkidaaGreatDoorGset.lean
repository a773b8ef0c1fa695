/- The contract of the document's set: a file has a text, or is not there. -/
import Derived.Test.YtgdfipmdmgkidaaGreatDoorGref
import Derived.Test.YtgdfipmdmgkidaaGreatDoorBook
import Derived.Laws.AppendOwnNone
import Derived.BigRegion
namespace Go.Proofs.YtgdfipmdmgkidaaGreatDoor
open Go.RowKit

def goneF (F : Repo) (name : ByteArray) : Repo := match whr (nms F) name with | some k => F.eraseIdx k | none => F
def setF (F : Repo) (name text : ByteArray) (there : Bool) : Repo := if there = true then goneF F name ++ [(name, text)] else goneF F name

theorem map_erase {α β : Type} (f : α → β) : ∀ (l : List α) (k : Nat), (l.eraseIdx k).map f = (l.map f).eraseIdx k
  | [], k => by simp
  | a :: l, 0 => rfl
  | a :: l, k + 1 => by simp [map_erase f l k]
theorem nms_erase (F : Repo) (k : Nat) : nms (F.eraseIdx k) = (nms F).eraseIdx k := map_erase _ F k
theorem txs_erase (F : Repo) (k : Nat) : txs (F.eraseIdx k) = (txs F).eraseIdx k := map_erase _ F k

theorem cells_of_three {w : World} {b : Nat} {x y z : Value} {t : TypeId} (h : w.heap[b]? = some (.cells #[x, y, z] t (0, 0))) : w.cell? ⟨b, 0, none⟩ = some x ∧ w.cell? ⟨b, 1, none⟩ = some y ∧ w.cell? ⟨b, 2, none⟩ = some z := by simp [World.cell?, h]
theorem free_of_block {w : World} {b o : Nat} {c : Array Value} {t : TypeId} (h : w.heap[b]? = some (.cells c t (0, 0))) : w.frozen? ⟨b, o, none⟩ = false := by simp [World.frozen?, h]
theorem three_set0 {w : World} {b : Nat} {x y z u : Value} {t : TypeId} (h : w.heap[b]? = some (.cells #[x, y, z] t (0, 0))) : (w.setCell ⟨b, 0, none⟩ u).heap[b]? = some (.cells #[u, y, z] t (0, 0)) := heap_setCell_same w b 0 _ t u h
theorem three_set1 {w : World} {b : Nat} {x y z u : Value} {t : TypeId} (h : w.heap[b]? = some (.cells #[x, y, z] t (0, 0))) : (w.setCell ⟨b, 1, none⟩ u).heap[b]? = some (.cells #[x, u, z] t (0, 0)) := heap_setCell_same w b 1 _ t u h

/-- A copy of a list of texts into new memory: append to nil. -/
theorem wpList_append_all (w : World) {ops : Array Oper} {rest : List Oper} {o : Oper} {a : Act} {Q : Exit → Act → World → Prop} (hgd : o.guard = none) (s x : Operand)
    (ho : o.op = .call { callee := .builtin .append, args := #[s, x], argTypes := #[35, 35] })
    (base B2 : Nat) (L : List ByteArray) (v2 : Value) (hs : a.eval s = .slice none 0 0) (hx : a.eval x = v2) (hown : w.ownsRow B2 9 1 v2 L.length (strs L)) (hlen : L.length ≤ 1000000) (hbase : base ≤ w.heap.size)
    (h : ∀ v' w', w'.ownsRow base 9 1 v' L.length (strs L) → w.grownBy w' none → wpList Tryz.prog ops Q rest (a.put o.dst v') w') : wpList Tryz.prog ops Q (o :: rest) a w := by
  obtain ⟨i0, hi, hz0, hz1, hz2⟩ := info_parts Tryz.info9
  rcases hown.2 with ⟨rfl, h0⟩ | ⟨g, cap, cur, rfl, hb, hg, r⟩
  · have hL : L = [] := List.eq_nil_of_length_eq_zero h0
    subst hL
    exact wpList_append_own_none hgd s x 35 ho base 9 i0 1 Tryz.underlying35 hi (.slice none 0 0) 0 [] hs (World.ownsRow_nil _ _ _ _) hx (h _ _ (World.ownsRow_nil _ _ _ _) (World.grownBy.refl _ _))
  · refine wpList_append_own w hgd s x 35 ho base 9 i0 (.string ⟨#[]⟩) 1 16 Tryz.underlying35 hi hz0 hz1 hz2 rfl (by decide) (.slice none 0 0) 0 [] hs (World.ownsRow_nil _ _ _ _) ⟨g, 0, none⟩ L.length cap (strs L) hx (by simp) (hown.cells rfl) (strs_one L) (by unfold maxLen; omega) (by omega) hbase ?_
    intro v' w' h1 h2 _
    rw [Nat.zero_add, List.nil_append] at h1
    exact h v' w' h1 h2


theorem flat_set (p : Value × Value) : ∀ (vs : List (Value × Value)) (j : Nat), j < vs.length → (vs.set j p).flatMap rcells = (((vs.flatMap rcells).set (j * 3) p.1).set (j * 3 + 1) p.2).set (j * 3 + 2) (.slice none 0 0)
  | [], j, h => by simp at h
  | a :: vs, 0, _ => by simp [rcells]
  | a :: vs, j + 1, h => by
    have ih := flat_set p vs j (by simpa using h)
    simp only [List.set_cons_succ, List.flatMap_cons]
    rw [ih]
    have e : (rcells a).length = 3 := rfl
    rw [List.set_append_right _ _ (by omega), List.set_append_right _ _ (by omega), List.set_append_right _ _ (by omega), e, show (j + 1) * 3 - 3 = j * 3 by omega, show (j + 1) * 3 + 1 - 3 = j * 3 + 1 by omega, show (j + 1) * 3 + 2 - 3 = j * 3 + 2 by omega]

/-- A repository is set: the three cells are written. -/
theorem RAt.put3 {w w5 : World} {B rb sg j : Nat} {vs : List (Value × Value)} {Fs : List Repo} {x y : Value} {F' : Repo} (h : RAt w B rb sg vs Fs) (hb : Below w.heap.size w w5) (hj : j < Fs.length)
    (hx : w5.ownsRow B 9 1 x (nms F').length (strs (nms F'))) (hy : w5.ownsRow B 9 1 y (txs F').length (strs (txs F'))) (hf : F'.length ≤ 5) :
    RAt (((w5.setCell ⟨sg, j * 3, none⟩ x).setCell ⟨sg, j * 3 + 1, none⟩ y).setCell ⟨sg, j * 3 + 2, none⟩ (.slice none 0 0)).drew B rb sg (vs.set j (x, y)) (Fs.set j F') ∧
    w.grownBy (((w5.setCell ⟨sg, j * 3, none⟩ x).setCell ⟨sg, j * 3 + 1, none⟩ y).setCell ⟨sg, j * 3 + 2, none⟩ (.slice none 0 0)).drew (some sg) := by
  have h5 := h.below hb
  have hne : rb ≠ sg := by
    intro e
    have h1 := h5.cell
    rw [e, h5.row] at h1
    simp at h1
  have g1 := heap_setCell_same w5 sg (j * 3) _ 205 x h5.row
  have g2 := heap_setCell_same (w5.setCell ⟨sg, j * 3, none⟩ x) sg (j * 3 + 1) _ 205 y g1
  have g3 := heap_setCell_same ((w5.setCell ⟨sg, j * 3, none⟩ x).setCell ⟨sg, j * 3 + 1, none⟩ y) sg (j * 3 + 2) _ 205 (.slice none 0 0) g2
  have oth : ∀ k, k ≠ sg → (((w5.setCell ⟨sg, j * 3, none⟩ x).setCell ⟨sg, j * 3 + 1, none⟩ y).setCell ⟨sg, j * 3 + 2, none⟩ (.slice none 0 0)).drew.heap[k]? = w5.heap[k]? := fun k hk => by
    show ((((w5.setCell ⟨sg, j * 3, none⟩ x).setCell ⟨sg, j * 3 + 1, none⟩ y).setCell ⟨sg, j * 3 + 2, none⟩ (.slice none 0 0))).heap[k]? = _
    rw [Below.heap_setCell _ _ _ _ hk, Below.heap_setCell _ _ _ _ hk, Below.heap_setCell _ _ _ _ hk]
  have own : ∀ {v : Value} {n : Nat} {xs : List Value}, w5.ownsRow B 9 1 v n xs → (((w5.setCell ⟨sg, j * 3, none⟩ x).setCell ⟨sg, j * 3 + 1, none⟩ y).setCell ⟨sg, j * 3 + 2, none⟩ (.slice none 0 0)).drew.ownsRow B 9 1 v n xs :=
    fun hh => (own_set (own_set (own_set hh h5.row (by decide)) g1 (by decide)) g2 (by decide)).drew
  refine ⟨⟨h.lo, h.lo2, ?_, ?_, by simpa using h.len, ?_, ?_, by simpa using h.n3⟩, ⟨?_, ?_, ?_, ?_, ?_⟩⟩
  · rw [oth rb hne, List.length_set]; exact h5.cell
  · show ((((w5.setCell ⟨sg, j * 3, none⟩ x).setCell ⟨sg, j * 3 + 1, none⟩ y).setCell ⟨sg, j * 3 + 2, none⟩ (.slice none 0 0))).heap[sg]? = _
    rw [g3]
    congr 2
    apply Array.ext'
    rw [flat_set (x, y) vs j (by rw [h.len]; exact hj)]
    simp
  · intro i p F hi hF
    by_cases e : i = j
    · subst e
      rw [List.getElem?_set_self (by rw [h.len]; exact hj)] at hi
      rw [List.getElem?_set_self hj] at hF
      cases hi
      cases hF
      exact ⟨own hx, own hy⟩
    · rw [List.getElem?_set_ne (Ne.symm e)] at hi hF
      exact ⟨own (h5.names i p F hi hF).1, own (h5.names i p F hi hF).2⟩
  · intro F hF
    rcases List.mem_or_eq_of_mem_set hF with hF | rfl
    · exact h.few F hF
    · exact hf
  · exact hb.os
  · exact hb.tape
  · exact hb.output
  · have := hb.size; simp [World.setCell, World.drew]; exact this
  · intro k hk hr
    rw [oth k (fun e => hr (by rw [e]))]
    exact hb.block k hk

theorem gone_some {F : Repo} {name : ByteArray} {k : Nat} (h : whr (nms F) name = some k) : goneF F name = F.eraseIdx k := by unfold goneF; rw [h]
theorem gone_none {F : Repo} {name : ByteArray} (h : whr (nms F) name = none) : goneF F name = F := by unfold goneF; rw [h]
theorem nms_snoc (F : Repo) (a b : ByteArray) : nms (F ++ [(a, b)]) = nms F ++ [a] := by simp [nms]
theorem txs_snoc (F : Repo) (a b : ByteArray) : txs (F ++ [(a, b)]) = txs F ++ [b] := by simp [txs]
theorem own_kept_none {w w' : World} {B n size : Nat} {e : TypeId} {v : Value} {xs : List Value} (h : w.ownsRow B e size v n xs) (hg : w.grownBy w' none) : w'.ownsRow B e size v n xs := h.kept hg (by cases v.ownBlock <;> simp)
theorem below_none {B : Nat} {a w w' : World} (h : Below B a w) (hg : w.grownBy w' none) (hB : B ≤ w.heap.size) : Below B a w' := h.grown hg hB (fun k hk => by cases hk)

theorem run_append_str (w : World) (base ty : Nat) (v : Value) (L : List ByteArray) (x : ByteArray) (hown : w.ownsRow base 9 1 v L.length (strs L))
    (a : Addr) (c : Nat) (hnews : ∀ j u, [Value.string x][j]? = some u → w.cell? (a.add j) = some u) (hbytes : L.length ≤ 1000000) (hbase : base ≤ w.heap.size) :
    ∃ v' w', (Builtin.append_ #[35, 35] ty #[v, .slice (some a) 1 c]).run Tryz.prog w = .ok v' w' ∧ w'.ownsRow base 9 1 v' (L ++ [x]).length (strs (L ++ [x])) ∧ w.grownBy w' v.ownBlock ∧ (∀ g, v'.ownBlock = some g → v.ownBlock = some g ∨ w.heap.size ≤ g) := by
  obtain ⟨i0, hi, hz0, hz1, hz2⟩ := info_parts Tryz.info9
  obtain ⟨v', w', hr, h2, h3, h4⟩ := run_append_own (P := Tryz.prog) w base 35 ty 9 i0 (.string ⟨#[]⟩) 1 16 Tryz.underlying35 hi hz0 hz1 hz2 rfl (by decide) v L.length _ hown a 1 c [.string x] rfl hnews (strs_one [x]) (by unfold maxLen; omega) (by omega) hbase
  refine ⟨v', w', hr, by rw [strs_snoc] at h2; simpa using h2, h3, ?_⟩
  rcases hown.2 with ⟨rfl, h0⟩ | ⟨g, cap, cur, rfl, hbg, hg, hnc, hcm, hcs, htake⟩
  · have hr2 := run_append_nil (P := Tryz.prog) w 35 ty 9 i0 (.string ⟨#[]⟩) Tryz.underlying35 hi hz0 a 1 c [.string x] (by simp [hz1]) hnews (by omega) (by omega) (by rw [hz2]; omega)
    rw [hr] at hr2
    simp only [Result.ok.injEq] at hr2
    rw [hr2.1]
    intro g hg
    simp [Value.ownBlock] at hg
    right
    omega
  · by_cases hroom : L.length + 1 ≤ cap
    · have hr2 := run_append_room (P := Tryz.prog) w 35 ty 9 i0 Tryz.underlying35 hi g L.length cap cur hg a 1 c [.string x] (by simp [hz1]) hnews (strs_one [x]) hroom (by simp [hz1]; omega)
      rw [hr] at hr2
      simp only [Result.ok.injEq] at hr2
      rw [hr2.1]
      intro g' hg'
      exact .inl hg'
    · have hr2 := run_append_grow (P := Tryz.prog) w 35 ty 9 i0 (.string ⟨#[]⟩) Tryz.underlying35 hi hz0 ⟨g, 0, none⟩ L.length cap (strs L) (by simp [hz1]) (hown.cells (g := g) rfl) a 1 c [.string x] (by simp [hz1]) hnews (by omega) (by omega) (growslice_fits (by omega) (by rw [hz2]; omega))
      rw [hr] at hr2
      simp only [Result.ok.injEq] at hr2
      rw [hr2.1]
      intro g' hg'
      simp [Value.ownBlock] at hg'
      right
      omega

theorem wpList_append_str (w : World) {ops : Array Oper} {rest : List Oper} {o : Oper} {a : Act} {Q : Exit → Act → World → Prop} (hgd : o.guard = none) (s x : Operand)
    (ho : o.op = .call { callee := .builtin .append, args := #[s, x], argTypes := #[35, 35] })
    (base : Nat) (v : Value) (L : List ByteArray) (y : ByteArray) (hs : a.eval s = v) (hown : w.ownsRow base 9 1 v L.length (strs L))
    (ad : Addr) (c : Nat) (hx : a.eval x = .slice (some ad) 1 c) (hnews : ∀ j u, [Value.string y][j]? = some u → w.cell? (ad.add j) = some u) (hbytes : L.length ≤ 1000000) (hbase : base ≤ w.heap.size) (L2 : List ByteArray) (hL2 : Hid (L2 = L ++ [y]))
    (h : ∀ v' w', w'.ownsRow base 9 1 v' L2.length (strs L2) → w.grownBy w' v.ownBlock → (∀ g, v'.ownBlock = some g → v.ownBlock = some g ∨ w.heap.size ≤ g) → wpList Tryz.prog ops Q rest (a.put o.dst v') w') : wpList Tryz.prog ops Q (o :: rest) a w := by
  refine wpList_plain hgd fun K hK => ?_
  obtain ⟨v', w', hr, h2, h3, h4⟩ := run_append_str w base o.type v L y hown ad c hnews hbytes hbase
  unfold Oper.wp execOp
  simp only [ho, resolve, invoke, builtin, Sem.run_bind, Sem.run_pure, Result.andThen_ok, List.map_toArray, List.map_cons, List.map_nil, hs, hx, hr]
  exact hK _ _ (h v' w' (by rw [hL2.out]; exact h2) h3 h4)

theorem own_sep {w : World} {N n : Nat} {v v0 : Value} {xs : List Value} (h : w.ownsRow N 9 1 v n xs) (h0 : ∀ g, v0.ownBlock = some g → g < N) : v.ownBlock = none ∨ v.ownBlock ≠ v0.ownBlock := by
  cases hv : v.ownBlock with
  | none => exact .inl rfl
  | some g =>
    right
    intro e
    have := (h.lt g hv).1
    have := h0 g e.symm
    omega

set_option maxRecDepth 100000 in
set_option maxHeartbeats 4000000 in
theorem set80_sf (j : Nat) (name text : ByteArray) (B rb sg : Nat) (vs : List (Value × Value)) (Fs : List Repo) (w : World) (h : RAt w B rb sg vs Fs) (F : Repo) (hF : Fs[j]? = some F) (k : Nat) (hk : whr (nms F) name = some k) (hlim : (setF F name text false).length ≤ 5) :
    Calls Tryz.prog 166 #[.pointer (some ⟨rb, 0, none⟩), .int .i64 j, .string name, .string text, .bool false] w fun e w' => e = .returned (.tuple #[]) ∧ ∃ vs', RAt w' B rb sg vs' (Fs.set j (setF F name text false)) ∧ w.grownBy w' (some sg) := by
  obtain ⟨i0, hi, hz0, hz1, hz2⟩ := info_parts Tryz.info9
  have HR : Hid (RAt w B rb sg vs Fs) := h
  have hj : j < Fs.length := (List.getElem?_eq_some_iff.1 hF).1
  obtain ⟨⟨nv, tv⟩, hp, hFx⟩ := h.get hj
  clear hFx
  obtain ⟨hn, ht⟩ := h.names j _ _ hp hF
  obtain ⟨c0, c1, c2, c3⟩ := h.cells hp
  have hfew := h.few _ (List.mem_of_getElem? hF)
  have hn3 := h.n3
  have hlt := h.lt
  have hrow := h.row
  have hBw : B ≤ w.heap.size := by have := h.lo; omega
  have HLIM : Hid ((setF F name text false).length ≤ 5) := hlim
  clear hlim
  clear hF
  generalize hnn : Fs.length = n at *
  clear h hp
  simp only at hn ht c0 c1
  obtain ⟨na, nc, rfl⟩ := own_shape hn
  obtain ⟨ta, tc, rfl⟩ := own_shape ht
  have hkl := whr_lt hk
  have hnl : (nms F).length ≤ 5 := by rw [nms_len]; exact hfew
  have htl : (txs F).length ≤ 5 := by rw [txs_len]; exact hfew
  have hvn := View.own hn
  have hvt := View.own ht
  have HC : Hid (w.cell? ⟨rb, 3, none⟩ = some (.slice (some ⟨sg, 0, none⟩) n n) ∧ w.cell? ⟨sg, j * 3, none⟩ = some (.slice na (nms F).length nc) ∧ w.cell? ⟨sg, j * 3 + 1, none⟩ = some (.slice ta (txs F).length tc) ∧ w.cell? ⟨sg, j * 3 + 2, none⟩ = some (.slice none 0 0)) := ⟨c3, c0, c1, c2⟩
  have HNN : Hid (Fs.length = n) := hnn
  clear hnn
  go_enter Tryz.func166, Tryz.ntmps166
  go_wp2_with fail
  have hb0 : Below w.heap.size w (w.alloc (.cells #[.slice na (nms F).length nc, .slice ta (txs F).length tc, .slice none 0 0] 205)) := (Below.refl _ _).alloc (Nat.le_refl _) _
  have hl0 : (w.alloc (.cells #[.slice na (nms F).length nc, .slice ta (txs F).length tc, .slice none 0 0] 205)).heap[w.heap.size]? = some (.cells #[.slice na (nms F).length nc, .slice ta (txs F).length tc, .slice none 0 0] 205 (0, 0)) := (MapKept.heap_alloc w _).1
  generalize w.alloc (.cells #[.slice na (nms F).length nc, .slice ta (txs F).length tc, .slice none 0 0] 205) = wl at *
  refine (where79_any (nms F) name na nc wl (hvn.below hb0) (by omega)).mono ?_
  rw [hk]
  rintro e w' ⟨rfl, rfl⟩
  obtain ⟨l0, l1, l2⟩ := cells_of_three hl0
  have hlw : w.heap.size < w'.heap.size := lt_of_block hl0
  clear c0 c1 c2 c3
  have hk0 : (0 : Int) ≤ whrInt (some k) := by show (0 : Int) ≤ (k : Int); omega
  go_wp2_with fail
  refine (without106_any (nms F) k na nc w' (hvn.below hb0) (by omega) (by omega)).mono ?_
  rintro e w2 ⟨v1, rfl, hv1, hb2⟩
  have hnk : ((nms F).eraseIdx k).length ≤ 5 := by have := List.length_eraseIdx_le (l := nms F) (i := k); omega
  have htk : ((txs F).eraseIdx k).length ≤ 5 := by have := List.length_eraseIdx_le (l := txs F) (i := k); omega
  have EN : (nms F).eraseIdx k = nms (goneF F name) := by rw [gone_some hk, nms_erase]
  have ET : (txs F).eraseIdx k = txs (goneF F name) := by rw [gone_some hk, txs_erase]
  obtain ⟨T, hT⟩ : ∃ T, (txs F).eraseIdx k = T := ⟨_, rfl⟩
  generalize hN : (nms F).eraseIdx k = N at *
  have EN' : Hid (N = nms (goneF F name)) := EN
  have ET' : Hid ((txs F).eraseIdx k = txs (goneF F name)) := ET
  clear EN ET hN
  obtain ⟨a1, p1, rfl⟩ := own_shape hv1
  have hl2 : w2.heap[w.heap.size]? = some (.cells #[.slice na (nms F).length nc, .slice ta (txs F).length tc, .slice none 0 0] 205 (0, 0)) := (hb2.block _ hlw).trans hl0
  obtain ⟨l0', l1', l2'⟩ := cells_of_three hl2
  have hfr2 := free_of_block (o := 0) hl2
  have hs2 := hb2.size
  have hl3 := three_set0 (u := .slice a1 N.length p1) hl2
  have hb3 : Below w.heap.size w (w2.setCell ⟨w.heap.size, 0, none⟩ (.slice a1 N.length p1)) := (hb0.trans (hb2.mono (by omega))).setCell (p := ⟨w.heap.size, 0, none⟩) (Nat.le_refl _) _
  have hv3 := ownsRow_setCell_below (ownsRow_mono hv1 (show w.heap.size + 1 ≤ _ by omega)) (a := ⟨w.heap.size, 0, none⟩) (by simp) (.slice a1 N.length p1)
  clear l0 l1 l2 hb2 hv1
  have HTT : Hid ((txs F).eraseIdx k = T) := hT
  clear hT
  go_wp2_with fail
  generalize w2.setCell ⟨w.heap.size, 0, none⟩ (.slice a1 N.length p1) = w3 at *
  refine (without106_any (txs F) k ta tc w3 (hvt.below hb3) (by omega) (by omega)).mono ?_
  rw [HTT.out] at htk ⊢
  rintro e w4 ⟨v2, rfl, hv2, hb4⟩
  have ET2 : Hid (T = txs (goneF F name)) := by show _ = _; rw [← HTT.out]; exact ET'.out
  clear ET' HTT
  obtain ⟨a2, p2, rfl⟩ := own_shape hv2
  have hlt3 : w.heap.size < w3.heap.size := lt_of_block hl3
  have hl4 := (hb4.block _ hlt3).trans hl3
  obtain ⟨m0, m1, m2⟩ := cells_of_three hl4
  have hfr4 := free_of_block (o := 1) hl4
  have hl5 := three_set1 (u := .slice a2 T.length p2) hl4
  have hb5 : Below w.heap.size w (w4.setCell ⟨w.heap.size, 1, none⟩ (.slice a2 T.length p2)) := (hb3.trans (hb4.mono (by omega))).setCell (p := ⟨w.heap.size, 1, none⟩) (Nat.le_refl _) _
  have ox := ownsRow_mono (ownsRow_setCell_below (own_below hv3 hb4 (Nat.le_refl _)) (a := ⟨w.heap.size, 1, none⟩) (by simp) (.slice a2 T.length p2)) (show B ≤ _ by omega)
  have oy := ownsRow_mono (ownsRow_setCell_below (ownsRow_mono hv2 (show w.heap.size + 1 ≤ _ by omega)) (a := ⟨w.heap.size, 1, none⟩) (by simp) (.slice a2 T.length p2)) (show B ≤ _ by omega)
  clear l0' l1' l2' hfr2 hv2 hv3
  go_wp2_with fail
  generalize w4.setCell ⟨w.heap.size, 1, none⟩ (.slice a2 T.length p2) = w5 at *
  clear m0 m1 m2 hfr4 hl4 hl3 hl2 hb4 hb3 hk0
  have HSN : Hid (nms (setF F name text false) = N) := by show _ = _; rw [EN'.out]; rfl
  have HST : Hid (txs (setF F name text false) = T) := by show _ = _; rw [ET2.out]; rfl
  obtain ⟨q0, q1, q2⟩ := cells_of_three hl5
  obtain ⟨C3, C0, C1, C2⟩ := HC.out
  have d3 := (hb5.cell (p := ⟨rb, 3, none⟩) hlt.1).trans C3
  have d0 := (hb5.cell (p := ⟨sg, j * 3, none⟩) hlt.2).trans C0
  have d1 := (hb5.cell (p := ⟨sg, j * 3 + 1, none⟩) hlt.2).trans C1
  have d2 := (hb5.cell (p := ⟨sg, j * 3 + 2, none⟩) hlt.2).trans C2
  have hsg5 := (hb5.block _ hlt.2).trans hrow
  have f0 := free_of_block (o := j * 3) hsg5
  have f1 := free_of_block (o := j * 3 + 1) hsg5
  have f2 := free_of_block (o := j * 3 + 2) hsg5
  clear C3 C0 C1 C2
  go_region
  all_goals go_wp2
  go_end0
  have R := HR.out.put3 (j := j) (F' := setF F name text false) hb5 (by rw [HNN.out]; exact hj) (x := .slice a1 N.length p1) (y := .slice a2 T.length p2) (by rw [HSN.out]; exact ox) (by rw [HST.out]; exact oy) HLIM.out
  exact ⟨rfl, _, R.1, R.2⟩

set_option maxRecDepth 100000 in
set_option maxHeartbeats 4000000 in
theorem set80_nf (j : Nat) (name text : ByteArray) (B rb sg : Nat) (vs : List (Value × Value)) (Fs : List Repo) (w : World) (h : RAt w B rb sg vs Fs) (F : Repo) (hF : Fs[j]? = some F) (hk : whr (nms F) name = none) (hlim : (setF F name text false).length ≤ 5) :
    Calls Tryz.prog 166 #[.pointer (some ⟨rb, 0, none⟩), .int .i64 j, .string name, .string text, .bool false] w fun e w' => e = .returned (.tuple #[]) ∧ ∃ vs', RAt w' B rb sg vs' (Fs.set j (setF F name text false)) ∧ w.grownBy w' (some sg) := by
  obtain ⟨i0, hi, hz0, hz1, hz2⟩ := info_parts Tryz.info9
  have HR : Hid (RAt w B rb sg vs Fs) := h
  have hj : j < Fs.length := (List.getElem?_eq_some_iff.1 hF).1
  obtain ⟨⟨nv, tv⟩, hp, hFx⟩ := h.get hj
  clear hFx
  obtain ⟨hn, ht⟩ := h.names j _ _ hp hF
  obtain ⟨c0, c1, c2, c3⟩ := h.cells hp
  have hfew := h.few _ (List.mem_of_getElem? hF)
  have hn3 := h.n3
  have hlt := h.lt
  have hrow := h.row
  have hBw : B ≤ w.heap.size := by have := h.lo; omega
  have HLIM : Hid ((setF F name text false).length ≤ 5) := hlim
  clear hlim
  clear hF
  generalize hnn : Fs.length = n at *
  clear h hp
  simp only at hn ht c0 c1
  obtain ⟨na, nc, rfl⟩ := own_shape hn
  obtain ⟨ta, tc, rfl⟩ := own_shape ht
  
  have hnl : (nms F).length ≤ 5 := by rw [nms_len]; exact hfew
  have htl : (txs F).length ≤ 5 := by rw [txs_len]; exact hfew
  have hvn := View.own hn
  have hvt := View.own ht
  have HC : Hid (w.cell? ⟨rb, 3, none⟩ = some (.slice (some ⟨sg, 0, none⟩) n n) ∧ w.cell? ⟨sg, j * 3, none⟩ = some (.slice na (nms F).length nc) ∧ w.cell? ⟨sg, j * 3 + 1, none⟩ = some (.slice ta (txs F).length tc) ∧ w.cell? ⟨sg, j * 3 + 2, none⟩ = some (.slice none 0 0)) := ⟨c3, c0, c1, c2⟩
  have HNN : Hid (Fs.length = n) := hnn
  clear hnn
  go_enter Tryz.func166, Tryz.ntmps166
  go_wp2_with fail
  have hb0 : Below w.heap.size w (w.alloc (.cells #[.slice na (nms F).length nc, .slice ta (txs F).length tc, .slice none 0 0] 205)) := (Below.refl _ _).alloc (Nat.le_refl _) _
  have hl0 : (w.alloc (.cells #[.slice na (nms F).length nc, .slice ta (txs F).length tc, .slice none 0 0] 205)).heap[w.heap.size]? = some (.cells #[.slice na (nms F).length nc, .slice ta (txs F).length tc, .slice none 0 0] 205 (0, 0)) := (MapKept.heap_alloc w _).1
  generalize w.alloc (.cells #[.slice na (nms F).length nc, .slice ta (txs F).length tc, .slice none 0 0] 205) = wl at *
  refine (where79_any (nms F) name na nc wl (hvn.below hb0) (by omega)).mono ?_
  rw [hk]
  rintro e w' ⟨rfl, rfl⟩
  obtain ⟨l0, l1, l2⟩ := cells_of_three hl0
  have hlw : w.heap.size < w'.heap.size := lt_of_block hl0
  clear c0 c1 c2 c3
  have hk0 : whrInt none < (0 : Int) := by show (-1 : Int) < 0; omega
  have EN' : Hid (nms F = nms (goneF F name)) := by show _ = _; rw [gone_none hk]
  have ET2 : Hid (txs F = txs (goneF F name)) := by show _ = _; rw [gone_none hk]
  clear hk hvn hvt
  go_wp2_with fail
  have ox := own_below hn hb0 (Nat.le_refl _)
  have oy := own_below ht hb0 (Nat.le_refl _)
  have hnk := hnl
  have htk := htl
  have hl5 := hl0
  have hb5 := hb0
  clear hn ht
  clear l0 l1 l2
  have HSN : Hid (nms (setF F name text false) = (nms F)) := by show _ = _; rw [EN'.out]; rfl
  have HST : Hid (txs (setF F name text false) = (txs F)) := by show _ = _; rw [ET2.out]; rfl
  obtain ⟨q0, q1, q2⟩ := cells_of_three hl5
  obtain ⟨C3, C0, C1, C2⟩ := HC.out
  have d3 := (hb5.cell (p := ⟨rb, 3, none⟩) hlt.1).trans C3
  have d0 := (hb5.cell (p := ⟨sg, j * 3, none⟩) hlt.2).trans C0
  have d1 := (hb5.cell (p := ⟨sg, j * 3 + 1, none⟩) hlt.2).trans C1
  have d2 := (hb5.cell (p := ⟨sg, j * 3 + 2, none⟩) hlt.2).trans C2
  have hsg5 := (hb5.block _ hlt.2).trans hrow
  have f0 := free_of_block (o := j * 3) hsg5
  have f1 := free_of_block (o := j * 3 + 1) hsg5
  have f2 := free_of_block (o := j * 3 + 2) hsg5
  clear C3 C0 C1 C2
  go_region
  all_goals go_wp2
  go_end0
  have R := HR.out.put3 (j := j) (F' := setF F name text false) hb5 (by rw [HNN.out]; exact hj) (x := .slice na (nms F).length nc) (y := .slice ta (txs F).length tc) (by rw [HSN.out]; exact ox) (by rw [HST.out]; exact oy) HLIM.out
  exact ⟨rfl, _, R.1, R.2⟩

set_option maxRecDepth 100000 in
set_option maxHeartbeats 4000000 in
theorem set80_nt (j : Nat) (name text : ByteArray) (B rb sg : Nat) (vs : List (Value × Value)) (Fs : List Repo) (w : World) (h : RAt w B rb sg vs Fs) (F : Repo) (hF : Fs[j]? = some F) (hk : whr (nms F) name = none) (hlim : (setF F name text true).length ≤ 5) :
    Calls Tryz.prog 166 #[.pointer (some ⟨rb, 0, none⟩), .int .i64 j, .string name, .string text, .bool true] w fun e w' => e = .returned (.tuple #[]) ∧ ∃ vs', RAt w' B rb sg vs' (Fs.set j (setF F name text true)) ∧ w.grownBy w' (some sg) := by
  obtain ⟨i0, hi, hz0, hz1, hz2⟩ := info_parts Tryz.info9
  have HR : Hid (RAt w B rb sg vs Fs) := h
  have hj : j < Fs.length := (List.getElem?_eq_some_iff.1 hF).1
  obtain ⟨⟨nv, tv⟩, hp, hFx⟩ := h.get hj
  clear hFx
  obtain ⟨hn, ht⟩ := h.names j _ _ hp hF
  obtain ⟨c0, c1, c2, c3⟩ := h.cells hp
  have hfew := h.few _ (List.mem_of_getElem? hF)
  have hn3 := h.n3
  have hlt := h.lt
  have hrow := h.row
  have hBw : B ≤ w.heap.size := by have := h.lo; omega
  have HLIM : Hid ((setF F name text true).length ≤ 5) := hlim
  clear hlim
  clear hF
  generalize hnn : Fs.length = n at *
  clear h hp
  simp only at hn ht c0 c1
  obtain ⟨na, nc, rfl⟩ := own_shape hn
  obtain ⟨ta, tc, rfl⟩ := own_shape ht
  
  have hnl : (nms F).length ≤ 5 := by rw [nms_len]; exact hfew
  have htl : (txs F).length ≤ 5 := by rw [txs_len]; exact hfew
  have hvn := View.own hn
  have hvt := View.own ht
  have HC : Hid (w.cell? ⟨rb, 3, none⟩ = some (.slice (some ⟨sg, 0, none⟩) n n) ∧ w.cell? ⟨sg, j * 3, none⟩ = some (.slice na (nms F).length nc) ∧ w.cell? ⟨sg, j * 3 + 1, none⟩ = some (.slice ta (txs F).length tc) ∧ w.cell? ⟨sg, j * 3 + 2, none⟩ = some (.slice none 0 0)) := ⟨c3, c0, c1, c2⟩
  have HNN : Hid (Fs.length = n) := hnn
  clear hnn
  go_enter Tryz.func166, Tryz.ntmps166
  go_wp2_with fail
  have hb0 : Below w.heap.size w (w.alloc (.cells #[.slice na (nms F).length nc, .slice ta (txs F).length tc, .slice none 0 0] 205)) := (Below.refl _ _).alloc (Nat.le_refl _) _
  have hl0 : (w.alloc (.cells #[.slice na (nms F).length nc, .slice ta (txs F).length tc, .slice none 0 0] 205)).heap[w.heap.size]? = some (.cells #[.slice na (nms F).length nc, .slice ta (txs F).length tc, .slice none 0 0] 205 (0, 0)) := (MapKept.heap_alloc w _).1
  generalize w.alloc (.cells #[.slice na (nms F).length nc, .slice ta (txs F).length tc, .slice none 0 0] 205) = wl at *
  refine (where79_any (nms F) name na nc wl (hvn.below hb0) (by omega)).mono ?_
  rw [hk]
  rintro e w' ⟨rfl, rfl⟩
  obtain ⟨l0, l1, l2⟩ := cells_of_three hl0
  have hlw : w.heap.size < w'.heap.size := lt_of_block hl0
  clear c0 c1 c2 c3
  have hk0 : whrInt none < (0 : Int) := by show (-1 : Int) < 0; omega
  have EN' : Hid (nms F = nms (goneF F name)) := by show _ = _; rw [gone_none hk]
  have ET2 : Hid (txs F = txs (goneF F name)) := by show _ = _; rw [gone_none hk]
  clear hk hvn hvt
  have ox := own_below hn hb0 (Nat.le_refl _)
  have oy := own_below ht hb0 (Nat.le_refl _)
  have hnk := hnl
  have htk := htl
  have hl5 := hl0
  have hb5 := hb0
  clear hn ht
  have hsz5 : w.heap.size + 1 ≤ w'.heap.size := by have := lt_of_block hl5; omega
  go_wp2_with (at_builtin; refine wpList_append_all _ rfl (.tmp 38) (.tmp 40) rfl (w.heap.size + 1) B (nms F) _ rfl rfl ox (by omega) hsz5 ?_)
  intro n1 w6 hn1 hg6
  have hl6 := (hg6.block w.heap.size (by omega) (by simp)).trans hl5
  have oy6 := own_kept_none oy hg6
  have hb6 := below_none hb5 hg6 (by omega)
  have hsz6 : w.heap.size + 1 ≤ w6.heap.size := by have := hg6.size; omega
  obtain ⟨s0, s1, s2⟩ := cells_of_three hl6
  clear hg6 hl5 hb5 ox oy l0 l1 l2
  have hn1lt : ∀ g, n1.ownBlock = some g → g < w6.heap.size := fun g hg => (hn1.lt g hg).2
  go_wp2_with (at_builtin; refine wpList_append_all _ rfl (.tmp 42) (.tmp 44) rfl w6.heap.size B (txs F) _ rfl rfl oy6 (by omega) (Nat.le_refl _) ?_)
  intro t1 w7 ht1 hg7
  have hl7 := (hg7.block w.heap.size (by omega) (by simp)).trans hl6
  have hn7 := own_kept_none hn1 hg7
  have hb7 := below_none hb6 hg7 (by omega)
  have hsz7 : w6.heap.size ≤ w7.heap.size := hg7.size
  obtain ⟨u0, u1, u2⟩ := cells_of_three hl7
  clear s0 s1 s2 hg7 hl6 hb6 oy6 hn1
  obtain ⟨N2, HN2⟩ : ∃ N2, Hid (N2 = (nms F) ++ [name]) := ⟨_, rfl⟩
  obtain ⟨T2, HT2⟩ : ∃ T2, Hid (T2 = (txs F) ++ [text]) := ⟨_, rfl⟩
  go_wp2_with (at_builtin; refine wpList_append_str _ rfl (.tmp 46) (.tmp 48) rfl (w.heap.size + 1) _ (nms F) name rfl (hn7.alloc _) ⟨w7.heap.size, 0, none⟩ 1 rfl (new_one _ _ _) (by omega) (by simp; omega) N2 HN2 ?_)
  intro n2 w8 hn2 hg8 hblk8
  have hg8' := hg8.size
  simp at hg8'
  have hl8 : w8.heap[w.heap.size]? = _ := (hg8.block w.heap.size (by simp; omega) (fun e => by have := (hn7.lt _ e.symm).1; omega)).trans ((Below.heap_alloc _ _ _ (by omega)).trans hl7)
  have ht8 := (ht1.alloc (.cells #[.string name] 9)).kept hg8 (own_sep (ht1.alloc (.cells #[.string name] 9)) hn1lt)
  have hb8 := (hb7.alloc (by omega) (.cells #[.string name] 9)).grown hg8 (by simp; omega) (fun g hg => by have := (hn7.lt g hg).1; omega)
  have hn2t : ∀ g, t1.ownBlock = some g → n2.ownBlock ≠ some g := fun g hg e => by
    have h1 := ht1.lt g hg
    rcases hblk8 g e with h2 | h2
    · have := hn1lt g h2; omega
    · first | omega | (simp at h2; omega)
  obtain ⟨a8, p8, hn2e⟩ := own_shape hn2
  subst hn2e
  obtain ⟨y0, y1, y2⟩ := cells_of_three hl8
  have hf8 := free_of_block (o := 0) hl8
  have hl9 := three_set0 (u := .slice a8 N2.length p8) hl8
  have hb9 : Below w.heap.size w (w8.setCell ⟨w.heap.size, 0, none⟩ (.slice a8 N2.length p8)) := hb8.setCell (p := ⟨w.heap.size, 0, none⟩) (Nat.le_refl _) _
  have ht9 := ownsRow_setCell_below (ownsRow_mono ht8 (show w.heap.size + 1 ≤ _ by omega)) (a := ⟨w.heap.size, 0, none⟩) (by simp) (.slice a8 N2.length p8)
  have hn9 := ownsRow_setCell_below hn2 (a := ⟨w.heap.size, 0, none⟩) (by simp) (.slice a8 N2.length p8)
  have hsz9 : (w8.setCell ⟨w.heap.size, 0, none⟩ (.slice a8 N2.length p8)).heap.size = w8.heap.size := by simp [World.setCell]
  have HSN : Hid (nms (setF F name text true) = N2) := by show nms (goneF F name ++ [(name, text)]) = _; rw [nms_snoc, ← EN'.out, HN2.out]
  have HST : Hid (txs (setF F name text true) = T2) := by show txs (goneF F name ++ [(name, text)]) = _; rw [txs_snoc, ← ET2.out, HT2.out]
  clear u0 u1 u2 hl7 hb7 hn7 hn2 hg8 hblk8 ht8 ht1 hn1lt
  have hnw : ∀ j u, [Value.string text][j]? = some u → ((w8.setCell ⟨w.heap.size, 0, none⟩ (.slice a8 N2.length p8)).alloc (.cells #[.string text] 9)).cell? ((⟨w8.heap.size, 0, none⟩ : Addr).add j) = some u := by
    intro j u hj
    have := new_one (w8.setCell ⟨w.heap.size, 0, none⟩ (.slice a8 N2.length p8)) (.string text) 9 j u hj
    rwa [hsz9] at this
  go_wp2_with (at_builtin; refine wpList_append_str _ rfl (.tmp 51) (.tmp 53) rfl (w.heap.size + 1) _ (txs F) text rfl (ht9.alloc _) ⟨w8.heap.size, 0, none⟩ 1 rfl hnw (by omega) (by simp; omega) T2 HT2 ?_)
  intro t2 w10 ht2 hg10 hblk10
  obtain ⟨b10, q10, ht2e⟩ := own_shape ht2
  subst ht2e
  have hs10 := hg10.size
  simp [World.setCell] at hs10
  have hl10 : w10.heap[w.heap.size]? = _ := (hg10.block w.heap.size (by simp [World.setCell]; omega) (fun e => by have := (ht9.lt _ e.symm).1; omega)).trans ((Below.heap_alloc _ _ _ (by simp [World.setCell]; omega)).trans hl9)
  have hb10 := (hb9.alloc (by simp [World.setCell]; omega) (.cells #[.string text] 9)).grown hg10 (by simp [World.setCell]; omega) (fun g hg => by have := (ht9.lt g hg).1; omega)
  have hn10 := (hn9.alloc (.cells #[.string text] 9)).kept hg10 (by
    cases hv : (Value.slice a8 N2.length p8).ownBlock with
    | none => exact .inl rfl
    | some g => exact .inr (fun e => hn2t g e.symm hv))
  obtain ⟨z0, z1, z2⟩ := cells_of_three hl10
  have hf10 := free_of_block (o := 1) hl10
  have hl5 := three_set1 (u := .slice b10 T2.length q10) hl10
  have hb5 : Below w.heap.size w (w10.setCell ⟨w.heap.size, 1, none⟩ (.slice b10 T2.length q10)) := hb10.setCell (p := ⟨w.heap.size, 1, none⟩) (Nat.le_refl _) _
  have ox := ownsRow_mono (ownsRow_setCell_below hn10 (a := ⟨w.heap.size, 1, none⟩) (by simp) (.slice b10 T2.length q10)) (show B ≤ _ by omega)
  have oy := ownsRow_mono (ownsRow_setCell_below ht2 (a := ⟨w.heap.size, 1, none⟩) (by simp) (.slice b10 T2.length q10)) (show B ≤ _ by omega)
  clear y0 y1 y2 hl9 hb9 ht9 hn9 hl8 hb8 hf8 hg10 hblk10 hl10 hb10 hn10 ht2 hnw hn2t
  go_wp2_with fail
  generalize w10.setCell ⟨w.heap.size, 1, none⟩ (.slice b10 T2.length q10) = w5 at *
  clear z0 z1 z2 hf10
  obtain ⟨q0, q1, q2⟩ := cells_of_three hl5
  obtain ⟨C3, C0, C1, C2⟩ := HC.out
  have d3 := (hb5.cell (p := ⟨rb, 3, none⟩) hlt.1).trans C3
  have d0 := (hb5.cell (p := ⟨sg, j * 3, none⟩) hlt.2).trans C0
  have d1 := (hb5.cell (p := ⟨sg, j * 3 + 1, none⟩) hlt.2).trans C1
  have d2 := (hb5.cell (p := ⟨sg, j * 3 + 2, none⟩) hlt.2).trans C2
  have hsg5 := (hb5.block _ hlt.2).trans hrow
  have f0 := free_of_block (o := j * 3) hsg5
  have f1 := free_of_block (o := j * 3 + 1) hsg5
  have f2 := free_of_block (o := j * 3 + 2) hsg5
  clear C3 C0 C1 C2
  go_region
  all_goals go_wp2
  go_end0
  have R := HR.out.put3 (j := j) (F' := setF F name text true) hb5 (by rw [HNN.out]; exact hj) (x := .slice a8 N2.length p8) (y := .slice b10 T2.length q10) (by rw [HSN.out]; exact ox) (by rw [HST.out]; exact oy) HLIM.out
  exact ⟨rfl, _, R.1, R.2⟩

set_option maxRecDepth 100000 in
set_option maxHeartbeats 4000000 in
theorem set80_st (j : Nat) (name text : ByteArray) (B rb sg : Nat) (vs : List (Value × Value)) (Fs : List Repo) (w : World) (h : RAt w B rb sg vs Fs) (F : Repo) (hF : Fs[j]? = some F) (k : Nat) (hk : whr (nms F) name = some k) (hlim : (setF F name text true).length ≤ 5) :
    Calls Tryz.prog 166 #[.pointer (some ⟨rb, 0, none⟩), .int .i64 j, .string name, .string text, .bool true] w fun e w' => e = .returned (.tuple #[]) ∧ ∃ vs', RAt w' B rb sg vs' (Fs.set j (setF F name text true)) ∧ w.grownBy w' (some sg) := by
  obtain ⟨i0, hi, hz0, hz1, hz2⟩ := info_parts Tryz.info9
  have HR : Hid (RAt w B rb sg vs Fs) := h
  have hj : j < Fs.length := (List.getElem?_eq_some_iff.1 hF).1
  obtain ⟨⟨nv, tv⟩, hp, hFx⟩ := h.get hj
  clear hFx
  obtain ⟨hn, ht⟩ := h.names j _ _ hp hF
  obtain ⟨c0, c1, c2, c3⟩ := h.cells hp
  have hfew := h.few _ (List.mem_of_getElem? hF)
  have hn3 := h.n3
  have hlt := h.lt
  have hrow := h.row
  have hBw : B ≤ w.heap.size := by have := h.lo; omega
  have HLIM : Hid ((setF F name text true).length ≤ 5) := hlim
  clear hlim
  clear hF
  generalize hnn : Fs.length = n at *
  clear h hp
  simp only at hn ht c0 c1
  obtain ⟨na, nc, rfl⟩ := own_shape hn
  obtain ⟨ta, tc, rfl⟩ := own_shape ht
  have hkl := whr_lt hk
  have hnl : (nms F).length ≤ 5 := by rw [nms_len]; exact hfew
  have htl : (txs F).length ≤ 5 := by rw [txs_len]; exact hfew
  have hvn := View.own hn
  have hvt := View.own ht
  have HC : Hid (w.cell? ⟨rb, 3, none⟩ = some (.slice (some ⟨sg, 0, none⟩) n n) ∧ w.cell? ⟨sg, j * 3, none⟩ = some (.slice na (nms F).length nc) ∧ w.cell? ⟨sg, j * 3 + 1, none⟩ = some (.slice ta (txs F).length tc) ∧ w.cell? ⟨sg, j * 3 + 2, none⟩ = some (.slice none 0 0)) := ⟨c3, c0, c1, c2⟩
  have HNN : Hid (Fs.length = n) := hnn
  clear hnn
  go_enter Tryz.func166, Tryz.ntmps166
  go_wp2_with fail
  have hb0 : Below w.heap.size w (w.alloc (.cells #[.slice na (nms F).length nc, .slice ta (txs F).length tc, .slice none 0 0] 205)) := (Below.refl _ _).alloc (Nat.le_refl _) _
  have hl0 : (w.alloc (.cells #[.slice na (nms F).length nc, .slice ta (txs F).length tc, .slice none 0 0] 205)).heap[w.heap.size]? = some (.cells #[.slice na (nms F).length nc, .slice ta (txs F).length tc, .slice none 0 0] 205 (0, 0)) := (MapKept.heap_alloc w _).1
  generalize w.alloc (.cells #[.slice na (nms F).length nc, .slice ta (txs F).length tc, .slice none 0 0] 205) = wl at *
  refine (where79_any (nms F) name na nc wl (hvn.below hb0) (by omega)).mono ?_
  rw [hk]
  rintro e w' ⟨rfl, rfl⟩
  obtain ⟨l0, l1, l2⟩ := cells_of_three hl0
  have hlw : w.heap.size < w'.heap.size := lt_of_block hl0
  clear c0 c1 c2 c3
  have hk0 : (0 : Int) ≤ whrInt (some k) := by show (0 : Int) ≤ (k : Int); omega
  go_wp2_with fail
  refine (without106_any (nms F) k na nc w' (hvn.below hb0) (by omega) (by omega)).mono ?_
  rintro e w2 ⟨v1, rfl, hv1, hb2⟩
  have hnk : ((nms F).eraseIdx k).length ≤ 5 := by have := List.length_eraseIdx_le (l := nms F) (i := k); omega
  have htk : ((txs F).eraseIdx k).length ≤ 5 := by have := List.length_eraseIdx_le (l := txs F) (i := k); omega
  have EN : (nms F).eraseIdx k = nms (goneF F name) := by rw [gone_some hk, nms_erase]
  have ET : (txs F).eraseIdx k = txs (goneF F name) := by rw [gone_some hk, txs_erase]
  obtain ⟨T, hT⟩ : ∃ T, (txs F).eraseIdx k = T := ⟨_, rfl⟩
  generalize hN : (nms F).eraseIdx k = N at *
  have EN' : Hid (N = nms (goneF F name)) := EN
  have ET' : Hid ((txs F).eraseIdx k = txs (goneF F name)) := ET
  clear EN ET hN
  obtain ⟨a1, p1, rfl⟩ := own_shape hv1
  have hl2 : w2.heap[w.heap.size]? = some (.cells #[.slice na (nms F).length nc, .slice ta (txs F).length tc, .slice none 0 0] 205 (0, 0)) := (hb2.block _ hlw).trans hl0
  obtain ⟨l0', l1', l2'⟩ := cells_of_three hl2
  have hfr2 := free_of_block (o := 0) hl2
  have hs2 := hb2.size
  have hl3 := three_set0 (u := .slice a1 N.length p1) hl2
  have hb3 : Below w.heap.size w (w2.setCell ⟨w.heap.size, 0, none⟩ (.slice a1 N.length p1)) := (hb0.trans (hb2.mono (by omega))).setCell (p := ⟨w.heap.size, 0, none⟩) (Nat.le_refl _) _
  have hv3 := ownsRow_setCell_below (ownsRow_mono hv1 (show w.heap.size + 1 ≤ _ by omega)) (a := ⟨w.heap.size, 0, none⟩) (by simp) (.slice a1 N.length p1)
  clear l0 l1 l2 hb2 hv1
  have HTT : Hid ((txs F).eraseIdx k = T) := hT
  clear hT
  go_wp2_with fail
  generalize w2.setCell ⟨w.heap.size, 0, none⟩ (.slice a1 N.length p1) = w3 at *
  refine (without106_any (txs F) k ta tc w3 (hvt.below hb3) (by omega) (by omega)).mono ?_
  rw [HTT.out] at htk ⊢
  rintro e w4 ⟨v2, rfl, hv2, hb4⟩
  have ET2 : Hid (T = txs (goneF F name)) := by show _ = _; rw [← HTT.out]; exact ET'.out
  clear ET' HTT
  obtain ⟨a2, p2, rfl⟩ := own_shape hv2
  have hlt3 : w.heap.size < w3.heap.size := lt_of_block hl3
  have hl4 := (hb4.block _ hlt3).trans hl3
  obtain ⟨m0, m1, m2⟩ := cells_of_three hl4
  have hfr4 := free_of_block (o := 1) hl4
  have hl5 := three_set1 (u := .slice a2 T.length p2) hl4
  have hb5 : Below w.heap.size w (w4.setCell ⟨w.heap.size, 1, none⟩ (.slice a2 T.length p2)) := (hb3.trans (hb4.mono (by omega))).setCell (p := ⟨w.heap.size, 1, none⟩) (Nat.le_refl _) _
  have ox := ownsRow_mono (ownsRow_setCell_below (own_below hv3 hb4 (Nat.le_refl _)) (a := ⟨w.heap.size, 1, none⟩) (by simp) (.slice a2 T.length p2)) (show B ≤ _ by omega)
  have oy := ownsRow_mono (ownsRow_setCell_below (ownsRow_mono hv2 (show w.heap.size + 1 ≤ _ by omega)) (a := ⟨w.heap.size, 1, none⟩) (by simp) (.slice a2 T.length p2)) (show B ≤ _ by omega)
  clear l0' l1' l2' hfr2 hv2 hv3
  have hsz5 : w.heap.size + 1 ≤ (w4.setCell ⟨w.heap.size, 1, none⟩ (.slice a2 T.length p2)).heap.size := by have := lt_of_block hl5; omega
  go_wp2_with (at_builtin; refine wpList_append_all _ rfl (.tmp 38) (.tmp 40) rfl (w.heap.size + 1) B N _ rfl rfl ox (by omega) hsz5 ?_)
  intro n1 w6 hn1 hg6
  have hl6 := (hg6.block w.heap.size (by omega) (by simp)).trans hl5
  have oy6 := own_kept_none oy hg6
  have hb6 := below_none hb5 hg6 (by omega)
  have hsz6 : w.heap.size + 1 ≤ w6.heap.size := by have := hg6.size; omega
  obtain ⟨s0, s1, s2⟩ := cells_of_three hl6
  clear hg6 hl5 hb5 ox oy m0 m1 m2
  have hn1lt : ∀ g, n1.ownBlock = some g → g < w6.heap.size := fun g hg => (hn1.lt g hg).2
  go_wp2_with (at_builtin; refine wpList_append_all _ rfl (.tmp 42) (.tmp 44) rfl w6.heap.size B T _ rfl rfl oy6 (by omega) (Nat.le_refl _) ?_)
  intro t1 w7 ht1 hg7
  have hl7 := (hg7.block w.heap.size (by omega) (by simp)).trans hl6
  have hn7 := own_kept_none hn1 hg7
  have hb7 := below_none hb6 hg7 (by omega)
  have hsz7 : w6.heap.size ≤ w7.heap.size := hg7.size
  obtain ⟨u0, u1, u2⟩ := cells_of_three hl7
  clear s0 s1 s2 hg7 hl6 hb6 oy6 hn1
  obtain ⟨N2, HN2⟩ : ∃ N2, Hid (N2 = N ++ [name]) := ⟨_, rfl⟩
  obtain ⟨T2, HT2⟩ : ∃ T2, Hid (T2 = T ++ [text]) := ⟨_, rfl⟩
  go_wp2_with (at_builtin; refine wpList_append_str _ rfl (.tmp 46) (.tmp 48) rfl (w.heap.size + 1) _ N name rfl (hn7.alloc _) ⟨w7.heap.size, 0, none⟩ 1 rfl (new_one _ _ _) (by omega) (by simp; omega) N2 HN2 ?_)
  intro n2 w8 hn2 hg8 hblk8
  have hg8' := hg8.size
  simp at hg8'
  have hl8 : w8.heap[w.heap.size]? = _ := (hg8.block w.heap.size (by simp; omega) (fun e => by have := (hn7.lt _ e.symm).1; omega)).trans ((Below.heap_alloc _ _ _ (by omega)).trans hl7)
  have ht8 := (ht1.alloc (.cells #[.string name] 9)).kept hg8 (own_sep (ht1.alloc (.cells #[.string name] 9)) hn1lt)
  have hb8 := (hb7.alloc (by omega) (.cells #[.string name] 9)).grown hg8 (by simp; omega) (fun g hg => by have := (hn7.lt g hg).1; omega)
  have hn2t : ∀ g, t1.ownBlock = some g → n2.ownBlock ≠ some g := fun g hg e => by
    have h1 := ht1.lt g hg
    rcases hblk8 g e with h2 | h2
    · have := hn1lt g h2; omega
    · first | omega | (simp at h2; omega)
  obtain ⟨a8, p8, hn2e⟩ := own_shape hn2
  subst hn2e
  obtain ⟨y0, y1, y2⟩ := cells_of_three hl8
  have hf8 := free_of_block (o := 0) hl8
  have hl9 := three_set0 (u := .slice a8 N2.length p8) hl8
  have hb9 : Below w.heap.size w (w8.setCell ⟨w.heap.size, 0, none⟩ (.slice a8 N2.length p8)) := hb8.setCell (p := ⟨w.heap.size, 0, none⟩) (Nat.le_refl _) _
  have ht9 := ownsRow_setCell_below (ownsRow_mono ht8 (show w.heap.size + 1 ≤ _ by omega)) (a := ⟨w.heap.size, 0, none⟩) (by simp) (.slice a8 N2.length p8)
  have hn9 := ownsRow_setCell_below hn2 (a := ⟨w.heap.size, 0, none⟩) (by simp) (.slice a8 N2.length p8)
  have hsz9 : (w8.setCell ⟨w.heap.size, 0, none⟩ (.slice a8 N2.length p8)).heap.size = w8.heap.size := by simp [World.setCell]
  have HSN : Hid (nms (setF F name text true) = N2) := by show nms (goneF F name ++ [(name, text)]) = _; rw [nms_snoc, ← EN'.out, HN2.out]
  have HST : Hid (txs (setF F name text true) = T2) := by show txs (goneF F name ++ [(name, text)]) = _; rw [txs_snoc, ← ET2.out, HT2.out]
  clear u0 u1 u2 hl7 hb7 hn7 hn2 hg8 hblk8 ht8 ht1 hn1lt
  have hnw : ∀ j u, [Value.string text][j]? = some u → ((w8.setCell ⟨w.heap.size, 0, none⟩ (.slice a8 N2.length p8)).alloc (.cells #[.string text] 9)).cell? ((⟨w8.heap.size, 0, none⟩ : Addr).add j) = some u := by
    intro j u hj
    have := new_one (w8.setCell ⟨w.heap.size, 0, none⟩ (.slice a8 N2.length p8)) (.string text) 9 j u hj
    rwa [hsz9] at this
  go_wp2_with (at_builtin; refine wpList_append_str _ rfl (.tmp 51) (.tmp 53) rfl (w.heap.size + 1) _ T text rfl (ht9.alloc _) ⟨w8.heap.size, 0, none⟩ 1 rfl hnw (by omega) (by simp; omega) T2 HT2 ?_)
  intro t2 w10 ht2 hg10 hblk10
  obtain ⟨b10, q10, ht2e⟩ := own_shape ht2
  subst ht2e
  have hs10 := hg10.size
  simp [World.setCell] at hs10
  have hl10 : w10.heap[w.heap.size]? = _ := (hg10.block w.heap.size (by simp [World.setCell]; omega) (fun e => by have := (ht9.lt _ e.symm).1; omega)).trans ((Below.heap_alloc _ _ _ (by simp [World.setCell]; omega)).trans hl9)
  have hb10 := (hb9.alloc (by simp [World.setCell]; omega) (.cells #[.string text] 9)).grown hg10 (by simp [World.setCell]; omega) (fun g hg => by have := (ht9.lt g hg).1; omega)
  have hn10 := (hn9.alloc (.cells #[.string text] 9)).kept hg10 (by
    cases hv : (Value.slice a8 N2.length p8).ownBlock with
    | none => exact .inl rfl
    | some g => exact .inr (fun e => hn2t g e.symm hv))
  obtain ⟨z0, z1, z2⟩ := cells_of_three hl10
  have hf10 := free_of_block (o := 1) hl10
  have hl5 := three_set1 (u := .slice b10 T2.length q10) hl10
  have hb5 : Below w.heap.size w (w10.setCell ⟨w.heap.size, 1, none⟩ (.slice b10 T2.length q10)) := hb10.setCell (p := ⟨w.heap.size, 1, none⟩) (Nat.le_refl _) _
  have ox := ownsRow_mono (ownsRow_setCell_below hn10 (a := ⟨w.heap.size, 1, none⟩) (by simp) (.slice b10 T2.length q10)) (show B ≤ _ by omega)
  have oy := ownsRow_mono (ownsRow_setCell_below ht2 (a := ⟨w.heap.size, 1, none⟩) (by simp) (.slice b10 T2.length q10)) (show B ≤ _ by omega)
  clear y0 y1 y2 hl9 hb9 ht9 hn9 hl8 hb8 hf8 hg10 hblk10 hl10 hb10 hn10 ht2 hnw hn2t
  go_wp2_with fail
  generalize w10.setCell ⟨w.heap.size, 1, none⟩ (.slice b10 T2.length q10) = w5 at *
  clear z0 z1 z2 hf10
  obtain ⟨q0, q1, q2⟩ := cells_of_three hl5
  obtain ⟨C3, C0, C1, C2⟩ := HC.out
  have d3 := (hb5.cell (p := ⟨rb, 3, none⟩) hlt.1).trans C3
  have d0 := (hb5.cell (p := ⟨sg, j * 3, none⟩) hlt.2).trans C0
  have d1 := (hb5.cell (p := ⟨sg, j * 3 + 1, none⟩) hlt.2).trans C1
  have d2 := (hb5.cell (p := ⟨sg, j * 3 + 2, none⟩) hlt.2).trans C2
  have hsg5 := (hb5.block _ hlt.2).trans hrow
  have f0 := free_of_block (o := j * 3) hsg5
  have f1 := free_of_block (o := j * 3 + 1) hsg5
  have f2 := free_of_block (o := j * 3 + 2) hsg5
  clear C3 C0 C1 C2
  go_region
  all_goals go_wp2
  go_end0
  have R := HR.out.put3 (j := j) (F' := setF F name text true) hb5 (by rw [HNN.out]; exact hj) (x := .slice a8 N2.length p8) (y := .slice b10 T2.length q10) (by rw [HSN.out]; exact ox) (by rw [HST.out]; exact oy) HLIM.out
  exact ⟨rfl, _, R.1, R.2⟩
end Go.Proofs.YtgdfipmdmgkidaaGreatDoor
