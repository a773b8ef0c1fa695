/- Mathematics: what hunks made of gaps do to a row. -/
import Derived.Test.YtgdfipmdmgkidaaGreatDoorPgiven
import Derived.Test.YtgdfipmdmgkidaaGreatDoorPhunks
import Derived.Test.YtgdfipmdmgkidaaGreatDoorPtake
import Derived.Test.YtgdfipmdmgkidaaGreatDoorPapply
import Derived.Test.YtgdfipmdmgkidaaGreatDoorPalter
namespace Go.Proofs.YtgdfipmdmgkidaaGreatDoor
open Go.RowKit
theorem livTo_more (S : List Spot) (a : Nat) : ∀ d, ∃ t, livTo S (a + d) = livTo S a ++ t ∧ ∀ x ∈ t, a ≤ x
  | 0 => ⟨[], by simp, by simp⟩
  | d + 1 => by
    obtain ⟨t, h1, h2⟩ := livTo_more S a d
    have hs : livTo S (a + (d + 1)) = if (S[a + d]?).any (·.alive) then livTo S (a + d) ++ [a + d] else livTo S (a + d) := rfl
    rw [hs]
    split
    · refine ⟨t ++ [a + d], by rw [h1, List.append_assoc], fun x hx => ?_⟩
      rcases List.mem_append.1 hx with hx | hx
      · exact h2 x hx
      · simp at hx; omega
    · exact ⟨t, h1, h2⟩
theorem livTo_at (S : List Spot) {x : Nat} (hx : x < (living S).length) : livTo S (living S)[x] = (living S).take x := by
  have hp := living_in S hx
  obtain ⟨p, hpe⟩ : ∃ p, (living S)[x] = p := ⟨_, rfl⟩
  rw [hpe] at hp ⊢
  obtain ⟨t, h1, h2⟩ := livTo_more S p (S.length - p)
  rw [show p + (S.length - p) = S.length by omega] at h1
  change living S = _ at h1
  have hm : (livTo S p).length = x := by
    rcases Nat.lt_trichotomy (livTo S p).length x with h | h | h
    · have h3 := living_lt S h hx
      rw [hpe] at h3
      have h4 : (living S)[(livTo S p).length]'(by omega) ∈ t := by
        have : (living S)[(livTo S p).length]? = t[0]? := by rw [h1, List.getElem?_append_right (Nat.le_refl _)]; simp
        rw [List.getElem?_eq_getElem (by omega)] at this
        exact List.mem_of_getElem? this.symm
      have := h2 _ h4
      omega
    · exact h
    · have h4 : p ∈ livTo S p := by
        have : (living S)[x]? = (livTo S p)[x]? := by rw [h1, List.getElem?_append_left h]
        rw [List.getElem?_eq_getElem hx, hpe] at this
        exact List.mem_of_getElem? this.symm
      have := (livTo_mem h4).1
      omega
  rw [h1, ← hm, List.take_left']
  rfl
theorem aliveOf_app (S T : List Spot) : aliveOf (S ++ T) = aliveOf S ++ aliveOf T := by simp [aliveOf]
theorem rowLines_app (S T : List Spot) : rowLines (S ++ T) = rowLines S ++ rowLines T := by simp [rowLines_eq, aliveOf_app]
theorem rowLines_dead (S : List Spot) : rowLines (deadRow S) = [] := by
  rw [rowLines_eq]
  unfold aliveOf deadRow
  rw [List.map_eq_nil_iff, List.filter_eq_nil_iff]
  intro a ha
  obtain ⟨s, _, rfl⟩ := List.mem_map.1 ha
  simp [deadS]
theorem bring_alive (i : Pid) (n : Int) (L : List ByteArray) : ∀ s ∈ bring i n L, s.alive = true := by
  intro s hs
  unfold bring brTo at hs
  obtain ⟨k, _, rfl⟩ := List.mem_map.1 hs
  rfl
theorem rowLines_bring (i : Pid) (n : Int) (L : List ByteArray) : rowLines (bring i n L) = L := by
  rw [rowLines_eq]
  unfold aliveOf
  rw [List.filter_eq_self.2 (bring_alive i n L)]
  unfold bring brTo
  rw [List.map_map]
  apply List.ext_getElem
  · simp
  · intro k h1 h2
    simp [brS, List.getD_eq_getElem?_getD, h2]
theorem lines_take (S : List Spot) {x : Nat} (hx : x < (living S).length) : rowLines (S.take (living S)[x]) = (rowLines S).take x := by
  have hp := living_in S hx
  have h1 := livTo_lines S (living S)[x] (by omega)
  rw [livTo_at S hx] at h1
  rw [rowLines_eq]
  unfold aliveOf
  rw [← h1]
  unfold rowLines
  rw [List.map_take]
theorem lines_drop (S : List Spot) {x : Nat} (hx : x < (living S).length) : rowLines (S.drop (living S)[x]) = (rowLines S).drop x := by
  have h1 := rowLines_app (S.take (living S)[x]) (S.drop (living S)[x])
  rw [List.take_append_drop, lines_take S hx] at h1
  have h2 := List.take_append_drop x (rowLines S)
  exact (List.append_cancel_left (h2.trans h1)).symm
theorem lines_take1 (S : List Spot) {x : Nat} (hx : x < (living S).length) : rowLines (S.take ((living S)[x] + 1)) = (rowLines S).take (x + 1) := by
  have hp := living_in S hx
  obtain ⟨_, s, hs, ha⟩ := livTo_mem (List.getElem_mem hx)
  obtain ⟨h0, rfl⟩ := List.getElem?_eq_some_iff.1 hs
  rw [List.take_succ_eq_append_getElem hp, rowLines_app, lines_take S hx]
  have hl : x < (rowLines S).length := by unfold rowLines; simpa using hx
  rw [List.take_succ_eq_append_getElem hl]
  congr 1
  rw [rowLines_eq]
  unfold aliveOf
  simp only [List.filter_cons, ha, if_true, List.filter_nil, List.map_cons, List.map_nil]
  have h9 : (rowLines S)[x]'hl = lineAt S (living S)[x] := by simp [rowLines]
  rw [h9]
  unfold lineAt
  rw [List.getElem?_eq_getElem hp]
  rfl
theorem lines_part {S : List Spot} {c d x y : Nat} (h1 : rowLines (S.take c) = (rowLines S).take x) (h2 : rowLines (S.take d) = (rowLines S).take y) (hcd : c ≤ d) (hxy : x ≤ y) : rowLines ((S.take d).drop c) = ((rowLines S).take y).drop x := by
  have h3 := rowLines_app ((S.take d).take c) ((S.take d).drop c)
  rw [List.take_append_drop, List.take_take, Nat.min_eq_left hcd, h1, h2] at h3
  have h4 := List.take_append_drop x ((rowLines S).take y)
  rw [List.take_take, Nat.min_eq_left hxy] at h4
  exact (List.append_cancel_left (h4.trans h3)).symm
theorem nodup_inj {F : List Spot} (hF : F.Nodup) {i j : Nat} {hi : i < F.length} {hj : j < F.length} (h : F[i] = F[j]) : i = j := by
  rcases Nat.lt_trichotomy i j with g | g | g
  · exact absurd h (List.pairwise_iff_getElem.1 hF i j hi hj g)
  · exact g
  · exact absurd h.symm (List.pairwise_iff_getElem.1 hF j i hj hi g)
def GOrd (m : Nat) : Nat → List Quad → Prop
  | _, [] => True
  | x, q :: R => x ≤ q.i ∧ q.i ≤ q.k ∧ q.k + 1 < m ∧ GOrd m (q.k + 1) R
theorem GOrd.less {m x y : Nat} {R : List Quad} (h : GOrd m x R) (hy : y ≤ x) : GOrd m y R := by
  cases R with
  | nil => trivial
  | cons q R => exact ⟨Nat.le_trans hy h.1, h.2⟩
theorem GapsR.ord {O N : List ByteArray} {i j : Nat} {Q : List Quad} (h : GapsR O N i j Q) (hi : i ≤ O.length) (hj : j ≤ N.length) : GOrd (O.length + 2) i Q := by
  induction h with
  | stop h1 h2 =>
    have p := nxt_at hi hj h1
    unfold gapOf
    split
    · exact ⟨Nat.le_refl _, p.1, by simp; omega, trivial⟩
    · trivial
  | go h1 h2 h3 ih =>
    have p := nxt_at hi hj h1
    have hl := p.2.2.2.2
    have q := ih (by omega) (by rcases hl with h | h; exact h.2.1; omega)
    unfold gapOf
    split
    · exact ⟨Nat.le_refl _, p.1, by simp; omega, q⟩
    · exact q.less (by omega)
def av (F : List Spot) (q : Quad) : Nat := (living F).getD q.i 0
def bv (F : List Spot) (q : Quad) : Nat := (living F).getD (q.k + 1) 0
def tailRow (F : List Spot) : Nat → List (Quad × List Spot) → List Spot
  | c, [] => F.drop c
  | c, (q, B) :: R => (F.take (av F q + 1)).drop c ++ (deadRow ((F.take (bv F q)).drop (av F q + 1)) ++ (B ++ tailRow F (bv F q) R))
theorem GOrd.at {F : List Spot} {x : Nat} {q : Quad} {R : List Quad} (h : GOrd (living F).length x (q :: R)) : (living F).getD x 0 ≤ av F q ∧ av F q < bv F q ∧ bv F q < F.length ∧ av F q = (living F)[q.i]'(by have := h.2.1; have := h.2.2.1; omega) ∧ bv F q = (living F)[q.k + 1]'(h.2.2.1) := by
  have h1 := h.1
  have h2 := h.2.1
  have h3 := h.2.2.1
  unfold av bv
  rw [getD_living F (show q.i < (living F).length by omega), getD_living F h3, getD_living F (show x < (living F).length by omega)]
  refine ⟨?_, living_lt F (by omega) h3, living_in F h3, rfl, rfl⟩
  by_cases e : x = q.i
  · subst e; exact Nat.le_refl _
  · exact Nat.le_of_lt (living_lt F (by omega) (by omega))
theorem mid_named {F : List Spot} {a b : Nat} (hab : a < b) (hb : b < F.length) : midRow ((F.take (b + 1)).drop a) = (F.take b).drop (a + 1) := by
  unfold midRow
  have hl : ((F.take (b + 1)).drop a).length = b + 1 - a := by simp; omega
  rw [hl, List.take_drop, List.drop_drop, List.take_take, show min (a + (b + 1 - a - 1)) (b + 1) = b by omega]
theorem apply_at {F P B : List Spot} {a b c : Nat} (hca : c ≤ a) (hab : a < b) (hb : b < F.length) :
    hApply (P ++ F.drop c) ((F.take (b + 1)).drop a) B (P.length + (a - c)) = (P ++ ((F.take (a + 1)).drop c ++ (deadRow ((F.take b).drop (a + 1)) ++ B))) ++ F.drop b := by
  unfold hApply
  rw [mid_named hab hb]
  have hl : ((F.take (b + 1)).drop a).length = b + 1 - a := by simp; omega
  rw [hl]
  have h1 : (P ++ F.drop c).take (P.length + (a - c) + 1) = P ++ (F.take (a + 1)).drop c := by
    rw [Nat.add_assoc, List.take_length_add_append, List.take_drop, show c + (a - c + 1) = a + 1 by omega]
  have h2 : (P ++ F.drop c).drop (P.length + (a - c) + (b + 1 - a) - 1) = F.drop b := by
    rw [show P.length + (a - c) + (b + 1 - a) - 1 = P.length + (b - c) by omega, List.drop_length_add_append, List.drop_drop, show c + (b - c) = b by omega]
  rw [h1, h2]
  simp [List.append_assoc]
theorem idx_at {F P : List Spot} {a c : Nat} (hF : F.Nodup) (hca : c ≤ a) (ha : a < F.length) (hP : ∀ s ∈ P, s ≠ F[a]) : idxS (P ++ F.drop c) F[a] = some (P.length + (a - c)) := by
  have hlt : P.length + (a - c) < (P ++ F.drop c).length := by simp; omega
  refine idx_hit hlt ?_ ?_
  · rw [List.getElem_append_right (by omega)]
    simp [show c + (a - c) = a by omega]
  · intro i hi he
    by_cases h : i < P.length
    · rw [List.getElem_append_left h] at he
      exact hP _ (List.getElem_mem h) he.symm
    · rw [List.getElem_append_right (by omega), List.getElem_drop] at he
      have := nodup_inj hF he
      omega
def fSeq (F : List Spot) (QB : List (Quad × List Spot)) : Nat → List Spot
  | 0 => F
  | k + 1 => match QB[k]? with
    | some (q, B) => hApply (fSeq F QB k) (namedOf F q) B ((idxS (fSeq F QB k) (F.getD (av F q) begS)).getD 0)
    | none => fSeq F QB k
structure HkAt (F : List Spot) (QB : List (Quad × List Spot)) (k : Nat) : Prop where
  ex : ∃ P x, x < (living F).length ∧ fSeq F QB k = P ++ F.drop ((living F).getD x 0) ∧ P ++ tailRow F ((living F).getD x 0) (QB.drop k) = tailRow F 0 QB ∧ GOrd (living F).length x ((QB.drop k).map (·.1)) ∧ (∀ s ∈ P, ∀ y (hy : y < F.length), (living F).getD x 0 ≤ y → F[y].alive = true → s ≠ F[y])
theorem alive_at {F : List Spot} {x : Nat} (hx : x < (living F).length) : (F[(living F)[x]]'(living_in F hx)).alive = true := by
  obtain ⟨_, s, hs, ha⟩ := livTo_mem (List.getElem_mem hx)
  rw [List.getElem?_eq_getElem (living_in F hx)] at hs
  cases hs
  exact ha
theorem HkAt.start {F : List Spot} {QB : List (Quad × List Spot)} (h0 : (living F).getD 0 0 = 0) (hne : 0 < (living F).length) (ho : GOrd (living F).length 0 (QB.map (·.1))) : HkAt F QB 0 :=
  ⟨[], 0, hne, by rw [h0]; simp [fSeq], by rw [h0]; simp, by simpa using ho, by simp⟩
theorem HkAt.step {F : List Spot} {QB : List (Quad × List Spot)} {k : Nat} {q : Quad} {B : List Spot} (h : HkAt F QB k) (hF : F.Nodup) (hk : QB[k]? = some (q, B)) (hB : ∀ s ∈ B, s ∉ F) :
    HkAt F QB (k + 1) ∧ ∃ p, (namedOf F q)[0]? = some (F.getD (av F q) begS) ∧ idxS (fSeq F QB k) (F.getD (av F q) begS) = some p ∧ p + (namedOf F q).length ≤ (fSeq F QB k).length ∧ 2 ≤ (namedOf F q).length ∧ (namedOf F q).length ≤ F.length ∧ fSeq F QB (k + 1) = hApply (fSeq F QB k) (namedOf F q) B p ∧ (fSeq F QB (k + 1)).length = (fSeq F QB k).length + B.length := by
  obtain ⟨P, x, hx, e1, e2, e3, e4⟩ := h.ex
  obtain ⟨hkl, hke⟩ := List.getElem?_eq_some_iff.1 hk
  have hd : QB.drop k = (q, B) :: QB.drop (k + 1) := by rw [List.drop_eq_getElem_cons hkl, hke]
  rw [hd] at e2 e3
  simp only [List.map_cons] at e3
  obtain ⟨a1, a2, a3, a4, a5⟩ := e3.at
  have hal : (F[av F q]'(by omega)).alive = true := by
    have h9 := alive_at (F := F) (x := q.i) (by have := e3.2.1; have := e3.2.2.1; omega)
    simp only [← a4] at h9
    exact h9
  have hbl : q.k + 1 < (living F).length := e3.2.2.1
  have hnm : namedOf F q = (F.take (bv F q + 1)).drop (av F q) := rfl
  have hget : F.getD (av F q) begS = F[av F q]'(by omega) := by
    rw [List.getD_eq_getElem?_getD, List.getElem?_eq_getElem (by omega)]; rfl
  have hidx : idxS (fSeq F QB k) (F.getD (av F q) begS) = some (P.length + (av F q - (living F).getD x 0)) := by
    rw [e1, hget]
    exact idx_at hF a1 (by omega) (fun s hs => e4 s hs _ (by omega) a1 hal)
  have hnl : (namedOf F q).length = bv F q + 1 - av F q := by rw [hnm]; simp; omega
  have hst : fSeq F QB (k + 1) = hApply (fSeq F QB k) (namedOf F q) B (P.length + (av F q - (living F).getD x 0)) := by
    rw [fSeq, hk]
    simp only
    rw [hidx]
    rfl
  have hfl : (fSeq F QB k).length = P.length + (F.length - (living F).getD x 0) := by rw [e1]; simp
  have hrow : fSeq F QB (k + 1) = (P ++ ((F.take (av F q + 1)).drop ((living F).getD x 0) ++ (deadRow ((F.take (bv F q)).drop (av F q + 1)) ++ B))) ++ F.drop (bv F q) := by
    rw [hst, e1, hnm]
    exact apply_at a1 a2 a3
  have hbv : bv F q = (living F).getD (q.k + 1) 0 := rfl
  refine ⟨⟨P ++ ((F.take (av F q + 1)).drop ((living F).getD x 0) ++ (deadRow ((F.take (bv F q)).drop (av F q + 1)) ++ B)), q.k + 1, hbl, by rw [hrow, hbv], ?_, e3.2.2.2, ?_⟩, _, ?_, hidx, by omega, by omega, by omega, hst, ?_⟩
  · rw [← e2, ← hbv]
    simp [tailRow, List.append_assoc]
  · intro s hs y hy hyb hya
    rw [← hbv] at hyb
    rcases List.mem_append.1 hs with hs | hs
    · exact e4 s hs y hy (by omega) hya
    · rcases List.mem_append.1 hs with hs | hs
      · obtain ⟨z, hz, rfl⟩ := List.mem_iff_getElem.1 hs
        rw [List.getElem_drop, List.getElem_take]
        intro he
        have := nodup_inj hF he
        simp only [List.length_drop, List.length_take] at hz
        omega
      · rcases List.mem_append.1 hs with hs | hs
        · unfold deadRow at hs
          obtain ⟨s', _, rfl⟩ := List.mem_map.1 hs
          intro he
          rw [← he] at hya
          simp [deadS] at hya
        · intro he
          exact hB s hs (he ▸ List.getElem_mem hy)
  · rw [hnm, List.getElem?_drop, List.getElem?_take_of_lt (by omega), hget]
    simp
  · rw [hrow, hfl]
    simp only [deadRow, List.length_append, List.length_drop, List.length_take, List.length_map]
    omega
theorem HkAt.all {F : List Spot} {QB : List (Quad × List Spot)} (hF : F.Nodup) (hB : ∀ r ∈ QB, ∀ s ∈ r.2, s ∉ F) (h0 : HkAt F QB 0) : ∀ k, k ≤ QB.length → HkAt F QB k
  | 0, _ => h0
  | k + 1, hk => by
    have h := HkAt.all hF hB h0 k (by omega)
    have hq : QB[k]? = some (QB[k].1, QB[k].2) := List.getElem?_eq_getElem (by omega)
    exact (h.step hF hq (hB (QB[k]'(by omega)) (List.getElem_mem _))).1
theorem HkAt.last {F : List Spot} {QB : List (Quad × List Spot)} (h : HkAt F QB QB.length) : fSeq F QB QB.length = tailRow F 0 QB := by
  obtain ⟨P, x, _, e1, e2, _⟩ := h.ex
  rw [List.drop_length] at e2
  rw [e1, ← e2]
  rfl
theorem fSeq_len {F : List Spot} {QB : List (Quad × List Spot)} (hF : F.Nodup) (hB : ∀ r ∈ QB, ∀ s ∈ r.2, s ∉ F) (h0 : HkAt F QB 0) (M : Nat) (hM : ∀ r ∈ QB, r.2.length ≤ M) : ∀ k, k ≤ QB.length → (fSeq F QB k).length ≤ F.length + k * M ∧ F.length ≤ (fSeq F QB k).length
  | 0, _ => by simp [fSeq]
  | k + 1, hk => by
    have h := HkAt.all hF hB h0 k (by omega)
    have hq : QB[k]? = some (QB[k].1, QB[k].2) := List.getElem?_eq_getElem (by omega)
    obtain ⟨_, p, _, _, _, _, _, _, hl⟩ := h.step hF hq (hB (QB[k]'(by omega)) (List.getElem_mem _))
    have ih := fSeq_len hF hB h0 M hM k (by omega)
    have hm := hM QB[k] (List.getElem_mem _)
    rw [hl, Nat.add_mul]
    omega
def laidF (OF N : List ByteArray) : Nat → List Quad → List ByteArray
  | x, [] => OF.drop x
  | x, q :: R => (OF.take (q.i + 1)).drop x ++ (linesAt N q ++ laidF OF N (q.k + 1) R)
theorem tail_lines (F : List Spot) (N : List ByteArray) : ∀ (QB : List (Quad × List Spot)) (x : Nat), x < (living F).length → GOrd (living F).length x (QB.map (·.1)) → (∀ r ∈ QB, rowLines r.2 = linesAt N r.1) → rowLines (tailRow F ((living F).getD x 0) QB) = laidF (rowLines F) N x (QB.map (·.1))
  | [], x, hx, _, _ => by
    rw [getD_living F hx]
    exact lines_drop F hx
  | (q, B) :: R, x, hx, ho, hB => by
    have ih := tail_lines F N R (q.k + 1) ho.2.2.1 ho.2.2.2 (fun r hr => hB r (by simp [hr]))
    obtain ⟨a1, a2, a3, a4, a5⟩ := GOrd.at ho
    simp only at a1 a2 a3 a4 a5
    have hqi : q.i < (living F).length := by have := ho.2.1; have := ho.2.2.1; simp at *; omega
    have b1 := hB (q, B) (by simp)
    simp only at b1
    show rowLines ((F.take (av F q + 1)).drop ((living F).getD x 0) ++ (deadRow ((F.take (bv F q)).drop (av F q + 1)) ++ (B ++ tailRow F (bv F q) R))) = _
    rw [rowLines_app, rowLines_app, rowLines_app, rowLines_dead, b1]
    have e1 : rowLines ((F.take (av F q + 1)).drop ((living F).getD x 0)) = ((rowLines F).take (q.i + 1)).drop x := by
      refine lines_part ?_ ?_ (by omega) (by have := ho.1; simp at this; omega)
      · rw [getD_living F hx]; exact lines_take F hx
      · rw [a4]; exact lines_take1 F hqi
    rw [e1, List.nil_append]
    show _ ++ (_ ++ rowLines (tailRow F ((living F).getD (q.k + 1) 0) R)) = _
    rw [ih]
    rfl
theorem laidF_shift (O N : List ByteArray) (e : ByteArray) : ∀ (Q : List Quad) (y : Nat), y ≤ O.length → GOrd (O.length + 2) y Q → laidF (e :: (O ++ [e])) N (y + 1) Q = laid O N y Q ++ [e]
  | [], y, hy, _ => by
    simp only [laidF, laid, List.drop_succ_cons]
    rw [List.drop_append_of_le_length hy]
  | q :: Q, y, hy, ho => by
    have h1 := ho.1
    have h2 := ho.2.1
    have h3 := ho.2.2.1
    have ih := laidF_shift O N e Q q.k (by omega) (ho.2.2.2.less (by omega))
    simp only [laidF, laid, List.take_succ_cons, List.drop_succ_cons]
    rw [ih, List.take_append_of_le_length (by omega)]
    simp [List.append_assoc]
theorem laidF_first (O N : List ByteArray) (e : ByteArray) (Q : List Quad) : laidF (e :: (O ++ [e])) N 0 Q = e :: laidF (e :: (O ++ [e])) N 1 Q := by
  cases Q with
  | nil => rfl
  | cons q Q => simp [laidF]
theorem tail_end {G : List Spot} : ∀ (QB : List (Quad × List Spot)) (c x : Nat), c < (G ++ [endS]).length → GOrd (living (G ++ [endS])).length x (QB.map (·.1)) → ∃ Y, tailRow (G ++ [endS]) c QB = Y ++ [endS]
  | [], c, x, hc, _ => ⟨G.drop c, by simp only [tailRow]; rw [List.drop_append_of_le_length (by simp at hc; omega)]⟩
  | (q, B) :: R, c, x, hc, ho => by
    obtain ⟨a1, a2, a3, a4, a5⟩ := GOrd.at ho
    obtain ⟨Y, hY⟩ := tail_end R (bv (G ++ [endS]) q) (q.k + 1) a3 ho.2.2.2
    simp only [tailRow]
    rw [hY]
    exact ⟨_, by rw [← List.append_assoc, ← List.append_assoc, ← List.append_assoc]⟩
theorem tail_first {G : List Spot} {s : Spot} (QB : List (Quad × List Spot)) : ∃ Z, tailRow (s :: G) 0 QB = s :: Z := by
  cases QB with
  | nil => exact ⟨G, rfl⟩
  | cons r R =>
    obtain ⟨q, B⟩ := r
    simp only [tailRow, List.drop_zero, List.take_succ_cons, List.cons_append]
    exact ⟨_, rfl⟩
theorem rowLines_framed (S : List Spot) : rowLines (framed S) = ByteArray.empty :: (rowLines S ++ [ByteArray.empty]) := by
  rw [rowLines_eq, rowLines_eq]
  simp [framed, aliveOf, begS, endS, edgeS]
theorem living_first (S : List Spot) : (living (framed S)).getD 0 0 = 0 := by
  have hl := living_framed S
  have h0 : 0 < (living (framed S)).length := by omega
  have h := livTo_at (framed S) h0
  rw [List.take_zero] at h
  rw [getD_living _ h0]
  rcases Nat.eq_zero_or_pos (living (framed S))[0] with e | e
  · exact e
  · exfalso
    obtain ⟨t, h1, _⟩ := livTo_more (framed S) 1 ((living (framed S))[0] - 1)
    rw [show 1 + ((living (framed S))[0] - 1) = (living (framed S))[0] by omega, h] at h1
    simp [livTo, framed, begS, edgeS] at h1
theorem mid_lines {X : List Spot} (h1 : ∃ Z, X = begS :: Z) (h2 : ∃ Y, X = Y ++ [endS]) : rowLines X = ByteArray.empty :: (rowLines (midRow X) ++ [ByteArray.empty]) := by
  obtain ⟨Z, h1⟩ := h1
  obtain ⟨Y, h2⟩ := h2
  cases Y with
  | nil => rw [h1] at h2; simp [begS, endS, edgeS] at h2
  | cons y Y =>
    rw [h1] at h2
    simp only [List.cons_append, List.cons.injEq] at h2
    obtain ⟨rfl, rfl⟩ := h2
    have : midRow X = Y := by rw [h1]; unfold midRow; simp
    rw [this, h1]
    exact rowLines_framed Y
theorem rows_laid (S : List Spot) (N : List ByteArray) (QB : List (Quad × List Spot)) (ho : GOrd ((rowLines S).length + 2) 0 (QB.map (·.1))) (hB : ∀ r ∈ QB, rowLines r.2 = linesAt N r.1) : rowLines (midRow (tailRow (framed S) 0 QB)) = laid (rowLines S) N 0 (QB.map (·.1)) := by
  have hl := living_framed S
  have ho' := ho
  rw [← hl] at ho'
  have h1 := tail_lines (framed S) N QB 0 (by omega) ho' hB
  rw [living_first, rowLines_framed, laidF_first, laidF_shift _ _ _ _ _ (Nat.zero_le _) ho] at h1
  have h2 := mid_lines (X := tailRow (framed S) 0 QB) (tail_first QB) (tail_end (G := begS :: S) QB 0 0 (by simp) ho')
  rw [h1] at h2
  simp only [List.cons.injEq, true_and] at h2
  exact (List.append_cancel_right h2).symm
theorem ahead_count (S : List Spot) {x : Nat} (hx : x < (living S).length) : (living (S.take ((living S)[x] + 1))).length = x + 1 := by
  have h := congrArg List.length (lines_take1 S hx)
  have h2 : ∀ T : List Spot, (rowLines T).length = (living T).length := fun T => by simp [rowLines]
  rw [h2, List.length_take, h2] at h
  omega
theorem killed_lines (S : List Spot) (q : Quad) (hik : q.i ≤ q.k) (hk : q.k ≤ (rowLines S).length) : rowLines (midRow (namedOf (framed S) q)) = ((rowLines S).take q.k).drop q.i := by
  have hl := living_framed S
  have hi' : q.i < (living (framed S)).length := by omega
  have hk' : q.k + 1 < (living (framed S)).length := by omega
  unfold namedOf
  rw [getD_living _ hi', getD_living _ hk', mid_named (living_lt _ (by omega) hk') (living_in _ hk')]
  rw [lines_part (lines_take1 _ hi') (lines_take _ hk') (living_lt _ (by omega) hk') (by omega), rowLines_framed]
  simp only [List.take_succ_cons, List.drop_succ_cons]
  rw [List.take_append_of_le_length hk]
end Go.Proofs.YtgdfipmdmgkidaaGreatDoor

/- Mathematics: how hunks are told, and how a telling is read. -/
namespace Go.Proofs.YtgdfipmdmgkidaaGreatDoor
open Go.RowKit
def tlA (m : UInt8) (l : ByteArray) : ByteArray := ⟨(tlB ⟨#[m]⟩ l).toArray⟩
def atA (n : Nat) : ByteArray := ((⟨#[64]⟩ : ByteArray) ++ ⟨(Lib.decDigits n).toArray⟩) ++ ⟨#[10]⟩
def hunkL (O N : List ByteArray) (q : Quad) : List ByteArray := atA (q.i + 1) :: ((midOf O q.i q.k).map (tlA 45) ++ (linesAt N q).map (tlA 43))
theorem cat_tlA (m : UInt8) (L : List ByteArray) : catB (L.map (tlA m)) = ⟨(tellL ⟨#[m]⟩ L).toArray⟩ := by
  unfold catB tellL
  congr 2
  rw [List.flatMap_map]
  rfl
theorem hTell_cat {S N Br : List Spot} {p : Nat} {O T : List ByteArray} {q : Quad} (h1 : (living (S.take (p + 1))).length = q.i + 1) (h2 : rowLines (midRow N) = midOf O q.i q.k) (h3 : rowLines Br = linesAt T q) : hTell S N Br p = catB (hunkL O T q) := by
  unfold hTell hunkL tellB
  rw [h1, h2, h3, catB_cons, catB_app, cat_tlA, cat_tlA, app_assoc]
  rfl
theorem atA_facts : ∀ n, n < 100 → 3 ≤ (atA n).size ∧ (atA n).size ≤ 5 ∧ gb (atA n) 0 = 64 ∧ (∀ i, i < ((atA n).extract 1 ((atA n).size - 1)).size → 48 ≤ gb ((atA n).extract 1 ((atA n).size - 1)) i ∧ gb ((atA n).extract 1 ((atA n).size - 1)) i ≤ 57) ∧ decV ((atA n).extract 1 ((atA n).size - 1)) ((atA n).extract 1 ((atA n).size - 1)).size = n ∧ gb (atA n) ((atA n).size - 1) = 10 ∧ ∀ i, i < (atA n).size - 1 → gb (atA n) i ≠ 10 := by
  decide +kernel
end Go.Proofs.YtgdfipmdmgkidaaGreatDoor
/- Mathematics: hunks made of gaps fit, give the new lines, and are told by the gaps. -/
namespace Go.Proofs.YtgdfipmdmgkidaaGreatDoor
open Go.RowKit
theorem GOrd.len {m : Nat} : ∀ {Q : List Quad} {x : Nat}, GOrd m x Q → Q.length ≤ m - x
  | [], _, _ => Nat.zero_le _
  | q :: Q, x, h => by
    have h1 := h.1
    have h2 := h.2.1
    have h3 := h.2.2.1
    have := GOrd.len h.2.2.2
    simp only [List.length_cons]
    omega
def qbOf (Q : List Quad) (Hs : List Hk) : List (Quad × List Spot) := Q.zip (Hs.map (·.Br))
theorem bring_len (i : Pid) (n : Int) (L : List ByteArray) : (bring i n L).length = L.length := brTo_len i n L _
theorem bring_id {i : Pid} {n : Int} {L : List ByteArray} {s : Spot} (h : s ∈ bring i n L) : s.a = i.a ∧ s.b = i.b ∧ s.c = i.c ∧ s.d = i.d := by
  unfold bring brTo at h
  obtain ⟨k, _, rfl⟩ := List.mem_map.1 h
  exact ⟨rfl, rfl, rfl, rfl⟩
theorem linesAt_len (N : List ByteArray) (q : Quad) : (linesAt N q).length ≤ N.length := by unfold linesAt; simp; omega
section
variable {S : List Spot} {N : List ByteArray} {i : Pid} {n : Int} {Q : List Quad} {Hs : List Hk}
theorem qb_map (hm : Made (framed S) i n N Q Hs) : (qbOf Q Hs).map (·.1) = Q := by
  unfold qbOf
  exact List.map_fst_zip (by simp [hm.1])
theorem qb_len (hm : Made (framed S) i n N Q Hs) : (qbOf Q Hs).length = Hs.length := by
  unfold qbOf; simp [hm.1]
theorem qb_at (hm : Made (framed S) i n N Q Hs) {k : Nat} {h : Hk} (hk : Hs[k]? = some h) : ∃ q, Q[k]? = some q ∧ (qbOf Q Hs)[k]? = some (q, h.Br) ∧ h.N = namedOf (framed S) q ∧ h.Br = bring i (numTo n N (Q.take k)) (linesAt N q) := by
  obtain ⟨q, h1, h2, h3⟩ := hm.2 k h hk
  refine ⟨q, h1, ?_, h2, h3⟩
  unfold qbOf
  rw [List.getElem?_zip_eq_some]
  exact ⟨h1, by rw [List.getElem?_map, hk]; rfl⟩
theorem qb_mem (hm : Made (framed S) i n N Q Hs) : ∀ r ∈ qbOf Q Hs, ∃ m, r.2 = bring i m (linesAt N r.1) := by
  intro r hr
  obtain ⟨k, hk⟩ := List.mem_iff_getElem?.1 hr
  have hkl : k < Hs.length := by have := (List.getElem?_eq_some_iff.1 hk).1; rw [qb_len hm] at this; exact this
  obtain ⟨q, _, h2, _, h4⟩ := qb_at hm (List.getElem?_eq_getElem hkl)
  rw [hk] at h2
  injection h2 with h2
  rw [h2]
  exact ⟨_, h4⟩
def gSeq (name : ByteArray) (O N : List ByteArray) (Q : List Quad) (k : Nat) : ByteArray := alterHead name ++ catB ((Q.take k).flatMap (hunkL O N))
theorem tlA_size (m : UInt8) (l : ByteArray) : (tlA m l).size ≤ l.size + 3 := by
  show (tlB ⟨#[m]⟩ l).length ≤ l.data.toList.length + 3
  unfold tlB
  simp only [List.length_append]
  split <;> simp <;> omega
theorem atA_size {n : Nat} (h : n < 100) : (atA n).size ≤ 5 := (atA_facts n h).2.1
theorem hunk_size {O N : List ByteArray} {q : Quad} (hO : ∀ l ∈ O, l.size ≤ 1000) (hN : ∀ l ∈ N, l.size ≤ 1000) (hOl : O.length ≤ 400) (hNl : N.length ≤ 400) (hq : q.i + 1 < 100) : (catB (hunkL O N q)).size ≤ 1000000 := by
  have h := cat_size (hunkL O N q) 1003 (fun l hl => by
    unfold hunkL at hl
    rcases List.mem_cons.1 hl with rfl | hl
    · have := atA_size hq; omega
    · rcases List.mem_append.1 hl with hl | hl
      · obtain ⟨x, hx, rfl⟩ := List.mem_map.1 hl
        have := tlA_size 45 x
        have := hO x (List.mem_of_mem_take (List.mem_of_mem_drop hx))
        omega
      · obtain ⟨x, hx, rfl⟩ := List.mem_map.1 hl
        have := tlA_size 43 x
        have := hN x (List.mem_of_mem_take (List.mem_of_mem_drop hx))
        omega)
  have h1 : (hunkL O N q).length ≤ 801 := by
    unfold hunkL
    have := linesAt_len N q
    have : (midOf O q.i q.k).length ≤ O.length := by unfold midOf; simp; omega
    simp
    omega
  have : (hunkL O N q).length * 1003 ≤ 801 * 1003 := Nat.mul_le_mul_right _ h1
  omega
end
end Go.Proofs.YtgdfipmdmgkidaaGreatDoor
