/- Mathematics: the greatest common part, from ahead and from behind; what the gaps come to. -/
import Derived.Test.YtgdfipmdmgkidaaGreatDoorPgaps
namespace Go.Proofs.YtgdfipmdmgkidaaGreatDoor
open Go.RowKit

theorem LL_top (O N : List ByteArray) : ∀ c : List ByteArray, c.Sublist O → c.Sublist N → c.length ≤ LL O N := by
  induction O, N using LL.induct with
  | case1 N => intro c h1 _; simp [List.sublist_nil.1 h1]
  | case2 a O => intro c _ h2; simp [List.sublist_nil.1 h2]
  | case3 O b N ih =>
    intro c h1 h2
    rw [LL, if_pos rfl]
    cases c with
    | nil => simp
    | cons x c =>
      have h1' : c.Sublist O := h1.tail
      have h2' : c.Sublist N := h2.tail
      have := ih c h1' h2'
      simp only [List.length_cons]
      omega
  | case4 a O b N h ih1 ih2 =>
    intro c h1 h2
    rw [LL, if_neg h]
    rcases List.sublist_cons_iff.1 h1 with h1' | ⟨r, rfl, h1'⟩
    · have := ih1 c h1' h2
      omega
    · rcases List.sublist_cons_iff.1 h2 with h2' | ⟨r', h3, h2'⟩
      · have := ih2 _ h1 h2'
        omega
      · injection h3 with h4 h5
        exact absurd h4 h
theorem LL_is (O N : List ByteArray) : ∃ c : List ByteArray, c.Sublist O ∧ c.Sublist N ∧ c.length = LL O N := by
  induction O, N using LL.induct with
  | case1 N => exact ⟨[], List.nil_sublist _, List.nil_sublist _, by simp [LL]⟩
  | case2 a O => exact ⟨[], List.nil_sublist _, List.nil_sublist _, by simp [LL]⟩
  | case3 O b N ih =>
    obtain ⟨c, h1, h2, h3⟩ := ih
    exact ⟨b :: c, h1.cons_cons _, h2.cons_cons _, by rw [LL, if_pos rfl, List.length_cons, h3]⟩
  | case4 a O b N h ih1 ih2 =>
    obtain ⟨c, h1, h2, h3⟩ := ih1
    obtain ⟨d, g1, g2, g3⟩ := ih2
    rw [LL, if_neg h]
    by_cases hm : LL O (b :: N) ≤ LL (a :: O) N
    · exact ⟨d, g1, g2.cons _, by omega⟩
    · exact ⟨c, h1.cons _, h2, by omega⟩
theorem LL_rev (O N : List ByteArray) : LL O.reverse N.reverse = LL O N := by
  obtain ⟨c, h1, h2, h3⟩ := LL_is O N
  obtain ⟨d, g1, g2, g3⟩ := LL_is O.reverse N.reverse
  have a := LL_top O.reverse N.reverse c.reverse h1.reverse h2.reverse
  have b := LL_top O N d.reverse (by have := g1.reverse; rwa [List.reverse_reverse] at this) (by have := g2.reverse; rwa [List.reverse_reverse] at this)
  rw [List.length_reverse] at a b
  omega
theorem LL_step1 (a : ByteArray) (O N : List ByteArray) : LL (a :: O) N ≤ LL O N + 1 := by
  obtain ⟨c, h1, h2, h3⟩ := LL_is (a :: O) N
  rcases List.sublist_cons_iff.1 h1 with h | ⟨r, rfl, h⟩
  · have := LL_top O N c h h2
    omega
  · have := LL_top O N r h ((List.sublist_cons_self _ _).trans h2)
    simp only [List.length_cons] at h3
    omega
theorem LL_step2 (b : ByteArray) (O N : List ByteArray) : LL O (b :: N) ≤ LL O N + 1 := by
  obtain ⟨c, h1, h2, h3⟩ := LL_is O (b :: N)
  rcases List.sublist_cons_iff.1 h2 with h | ⟨r, rfl, h⟩
  · have := LL_top O N c h1 h
    omega
  · have := LL_top O N r ((List.sublist_cons_self _ _).trans h1) h
    simp only [List.length_cons] at h3
    omega

/-- The greatest common part of the first i and the first j lines. -/
def PP (O N : List ByteArray) (i j : Nat) : Nat := LL (O.take i).reverse (N.take j).reverse
theorem PP_zero1 (O N : List ByteArray) (j : Nat) : PP O N 0 j = 0 := by unfold PP; simp [LL]
theorem PP_zero2 (O N : List ByteArray) (i : Nat) : PP O N i 0 = 0 := by unfold PP; simp [LL_nil2]
theorem take_rev {O : List ByteArray} {i : Nat} (hi : i < O.length) : (O.take (i + 1)).reverse = O[i] :: (O.take i).reverse := by
  rw [List.take_succ_eq_append_getElem hi]; simp
theorem PP_eq {O N : List ByteArray} {i j : Nat} (hi : i < O.length) (hj : j < N.length) (h : O[i] = N[j]) : PP O N (i + 1) (j + 1) = PP O N i j + 1 := by
  unfold PP
  rw [take_rev hi, take_rev hj, LL, if_pos h]
theorem PP_ne {O N : List ByteArray} {i j : Nat} (hi : i < O.length) (hj : j < N.length) (h : O[i] ≠ N[j]) : PP O N (i + 1) (j + 1) = max (PP O N i (j + 1)) (PP O N (i + 1) j) := by
  unfold PP
  rw [take_rev hi, take_rev hj, LL, if_neg h]
theorem PP_step1 {O N : List ByteArray} {i : Nat} (j : Nat) (hi : i < O.length) : PP O N (i + 1) j ≤ PP O N i j + 1 := by
  unfold PP
  rw [take_rev hi]
  exact LL_step1 _ _ _
theorem PP_step2 {O N : List ByteArray} {j : Nat} (i : Nat) (hj : j < N.length) : PP O N i (j + 1) ≤ PP O N i j + 1 := by
  unfold PP
  rw [take_rev hj]
  exact LL_step2 _ _ _
/-- As a table of prefixes is filled: the greater of both neighbours, and one more than the corner if the lines are equal. -/
theorem PP_fill {O N : List ByteArray} {i j : Nat} (hi : i < O.length) (hj : j < N.length) : PP O N (i + 1) (j + 1) = if O[i] = N[j] then max (max (PP O N i (j + 1)) (PP O N (i + 1) j)) (PP O N i j + 1) else max (PP O N i (j + 1)) (PP O N (i + 1) j) := by
  split
  · rename_i h
    rw [PP_eq hi hj h]
    have a := PP_step1 (N := N) j hi
    have b := PP_step2 (O := O) i hj
    omega
  · rename_i h
    exact PP_ne hi hj h
theorem PP_all (O N : List ByteArray) : PP O N O.length N.length = CC O N 0 0 := by
  unfold PP CC
  rw [List.take_length, List.take_length, List.drop_zero, List.drop_zero, LL_rev]

theorem not_meets {O N : List ByteArray} {i j : Nat} (hi : i < O.length) (hj : j < N.length) (h : ¬ meets O N i j) : O[i] ≠ N[j] := by
  intro he
  refine h ⟨hi, hj, ?_⟩
  rw [List.getD_eq_getElem?_getD, List.getD_eq_getElem?_getD, List.getElem?_eq_getElem hi, List.getElem?_eq_getElem hj, he]
theorem meets_eq {O N : List ByteArray} {i j : Nat} (h : meets O N i j) : ∃ (hi : i < O.length) (hj : j < N.length), O[i] = N[j] := by
  obtain ⟨hi, hj, he⟩ := h
  rw [List.getD_eq_getElem?_getD, List.getD_eq_getElem?_getD, List.getElem?_eq_getElem hi, List.getElem?_eq_getElem hj] at he
  exact ⟨hi, hj, he⟩
theorem CC_kill {O N : List ByteArray} {i j : Nat} (hi : i ≤ O.length) (hj : j ≤ N.length) (h : ¬ meets O N i j) (hk : killB O N i j = true) : CC O N i j = CC O N (i + 1) j := by
  have h1 := kill_lt hi hk
  by_cases h2 : j = N.length
  · rw [CC_end2 (by omega), CC_end2 (by omega)]
  · have h3 : j < N.length := by omega
    rw [CC_ne h1 h3 (not_meets h1 h3 h)]
    unfold killB at hk
    rw [if_neg (by omega)] at hk
    have := of_decide_eq_true hk
    omega
theorem CC_come {O N : List ByteArray} {i j : Nat} (hi : i ≤ O.length) (hj : j < N.length) (h : ¬ meets O N i j) (hk : killB O N i j = false) : CC O N i j = CC O N i (j + 1) := by
  by_cases h2 : i = O.length
  · rw [CC_end1 (by omega), CC_end1 (by omega)]
  · have h3 : i < O.length := by omega
    rw [CC_ne h3 hj (not_meets h3 hj h)]
    unfold killB at hk
    rw [if_neg (by omega)] at hk
    have := of_decide_eq_false hk
    omega
theorem nxtF_CC (O N : List ByteArray) : ∀ (f i j : Nat), i ≤ O.length → j ≤ N.length → f = (O.length - i) + (N.length - j) → CC O N i j = CC O N (nxtF O N f i j).1 (nxtF O N f i j).2
  | 0, _, _, _, _, _ => rfl
  | f + 1, i, j, hi, hj, hf => by
    rw [nxtF]
    by_cases hm : meets O N i j
    · rw [if_pos hm]
    · rw [if_neg hm]
      by_cases hk : killB O N i j = true
      · rw [if_pos hk]
        have h1 := kill_lt hi hk
        rw [CC_kill hi hj hm hk]
        exact nxtF_CC O N f (i + 1) j (by omega) hj (by omega)
      · rw [if_neg hk]
        have hk' : killB O N i j = false := by simpa using hk
        have h1 := nokill_lt hi hj (by omega) hk'
        rw [CC_come hi h1 hm hk']
        exact nxtF_CC O N f i (j + 1) hi (by omega) (by omega)
theorem nxt_CC {O N : List ByteArray} {i j k l : Nat} (hi : i ≤ O.length) (hj : j ≤ N.length) (h : nxt O N i j = (k, l)) : CC O N i j = CC O N k l := by
  have := nxtF_CC O N _ i j hi hj rfl
  unfold nxt at h
  rw [h] at this
  exact this
theorem nxt_at {O N : List ByteArray} {i j k l : Nat} (hi : i ≤ O.length) (hj : j ≤ N.length) (h : nxt O N i j = (k, l)) : i ≤ k ∧ k ≤ O.length ∧ j ≤ l ∧ l ≤ N.length ∧ (meets O N k l ∨ (k = O.length ∧ l = N.length)) := by
  have p := nxt_props O N i j hi hj
  rw [h] at p
  exact p

/-- How many lines are told of the gaps. -/
def toldN (Q : List Quad) : Nat := (Q.map fun q => (q.k - q.i) + (q.l - q.j)).sum
theorem toldN_gap {i k j l : Nat} (hi : i ≤ k) (hj : j ≤ l) : toldN (gapOf i k j l) + i + j = k + l := by
  unfold toldN gapOf
  split
  · simp; omega
  · simp; omega
theorem toldN_append (P Q : List Quad) : toldN (P ++ Q) = toldN P + toldN Q := by simp [toldN]
theorem GapsR.count {O N : List ByteArray} {i j : Nat} {Q : List Quad} (h : GapsR O N i j Q) (hi : i ≤ O.length) (hj : j ≤ N.length) : toldN Q + 2 * CC O N i j + i + j = O.length + N.length := by
  induction h with
  | stop h1 h2 =>
    rename_i i j k l
    have p := nxt_at hi hj h1
    have hl : l = N.length := by
      rcases p.2.2.2.2 with h | h
      · have := h.1; omega
      · exact h.2
    have := toldN_gap p.1 p.2.2.1
    rw [nxt_CC hi hj h1, CC_end1 (by omega)]
    omega
  | go h1 h2 h3 ih =>
    rename_i i j k l rest
    have p := nxt_at hi hj h1
    have hm : meets O N k l := by
      rcases p.2.2.2.2 with h | h
      · exact h
      · omega
    obtain ⟨ho, hn, he⟩ := meets_eq hm
    have := toldN_gap p.1 p.2.2.1
    have q := ih (by omega) (by omega)
    rw [nxt_CC hi hj h1, CC_eq ho hn he, toldN_append]
    omega
theorem GapsR.from {O N : List ByteArray} {i j : Nat} {Q : List Quad} (h : GapsR O N i j Q) (hi : i ≤ O.length) (hj : j ≤ N.length) : ∀ q ∈ Q, i ≤ q.i := by
  induction h with
  | stop h1 h2 =>
    intro q hq
    unfold gapOf at hq
    split at hq
    · simp at hq; subst hq; exact Nat.le_refl _
    · cases hq
  | go h1 h2 h3 ih =>
    rename_i i j k l rest
    have p := nxt_at hi hj h1
    have hl : l < N.length := by
      rcases p.2.2.2.2 with h | h
      · exact h.2.1
      · omega
    intro q hq
    rcases List.mem_append.1 hq with hq | hq
    · unfold gapOf at hq
      split at hq
      · simp at hq; subst hq; exact Nat.le_refl _
      · cases hq
    · have := ih (by omega) (by omega) q hq
      omega

/-- The gaps laid on the old lines, from the i-th on. -/
def laid (O N : List ByteArray) : Nat → List Quad → List ByteArray
  | i, [] => O.drop i
  | i, q :: Q => (O.take q.i).drop i ++ (linesAt N q ++ laid O N q.k Q)
theorem laid_on {O N : List ByteArray} {i : Nat} {Q : List Quad} (hi : i < O.length) (h : ∀ q ∈ Q, i + 1 ≤ q.i) : laid O N i Q = O[i] :: laid O N (i + 1) Q := by
  cases Q with
  | nil => simp only [laid]; exact List.drop_eq_getElem_cons hi
  | cons q Q =>
    have hq := h q (by simp)
    simp only [laid]
    rw [List.drop_eq_getElem_cons (l := O.take q.i) (i := i) (by simp; omega), List.getElem_take]
    simp
theorem laid_gap {O N : List ByteArray} {i k j l : Nat} (hi : i ≤ k) (hj : j ≤ l) (Q : List Quad) (hi2 : i ≤ O.length) (R : List ByteArray) (hl : l ≤ N.length) (hr : laid O N k Q = R) : laid O N i (gapOf i k j l ++ Q) = (N.take l).drop j ++ R := by
  unfold gapOf
  split
  · simp only [List.cons_append, List.nil_append, laid, linesAt, hr]
    rw [List.drop_of_length_le (by simp; omega), List.nil_append]
  · have h1 : i = k := by omega
    have h2 : j = l := by omega
    subst h1; subst h2
    rw [List.nil_append, hr, List.drop_of_length_le (by simp; omega), List.nil_append]
theorem GapsR.gives {O N : List ByteArray} {i j : Nat} {Q : List Quad} (h : GapsR O N i j Q) (hi : i ≤ O.length) (hj : j ≤ N.length) : laid O N i Q = N.drop j := by
  induction h with
  | stop h1 h2 =>
    rename_i i j k l
    have p := nxt_at hi hj h1
    have hl : l = N.length := by
      rcases p.2.2.2.2 with h | h
      · have := h.1; omega
      · exact h.2
    have := laid_gap (O := O) (N := N) p.1 p.2.2.1 [] hi [] (by omega) (by simp only [laid]; exact List.drop_of_length_le (by omega))
    rw [List.append_nil] at this
    rw [this, hl, List.take_length, List.append_nil]
  | go h1 h2 h3 ih =>
    rename_i i j k l rest
    have p := nxt_at hi hj h1
    have hm : meets O N k l := by
      rcases p.2.2.2.2 with h | h
      · exact h
      · omega
    obtain ⟨ho, hn, he⟩ := meets_eq hm
    have q := ih (by omega) (by omega)
    rw [laid_gap p.1 p.2.2.1 rest hi (N.drop l) p.2.2.2.1 ?_]
    · have := List.take_append_drop (l - j) (N.drop j)
      rw [List.drop_drop, show j + (l - j) = l by omega] at this
      rw [← this, List.drop_take]
    · rw [laid_on ho (h3.from (by omega) (by omega)), q, he]
      exact (List.drop_eq_getElem_cons hn).symm
theorem GapsR.same {O : List ByteArray} {i j : Nat} {Q : List Quad} (h : GapsR O O i j Q) (hij : i = j) (hi : i ≤ O.length) : Q = [] := by
  induction h with
  | stop h1 h2 =>
    rename_i i j k l
    subst hij
    have : nxt O O i i = (i, i) := by
      by_cases hm : i < O.length
      · exact nxt_stop ⟨hm, hm, rfl⟩
      · exact nxt_end (by omega) (by omega)
    rw [this] at h1
    injection h1 with h3 h4
    subst h3; subst h4
    simp [gapOf]
  | go h1 h2 h3 ih =>
    rename_i i j k l rest
    subst hij
    have : nxt O O i i = (i, i) := by
      by_cases hm : i < O.length
      · exact nxt_stop ⟨hm, hm, rfl⟩
      · exact nxt_end (by omega) (by omega)
    rw [this] at h1
    injection h1 with h4 h5
    subst h4; subst h5
    rw [ih rfl (by omega)]
    simp [gapOf]

end Go.Proofs.YtgdfipmdmgkidaaGreatDoor
