/- Plain facts on words: what stands between spaces, ids, names, repositories, and which words are a command. -/
import Derived.Test.YtgdfipmdmgkidaaGreatDoorRunes
namespace Go.Proofs.YtgdfipmdmgkidaaGreatDoor

/-! ### words -/
def addWord (L : List ByteArray) (s : ByteArray) (p q : Nat) : List ByteArray := if p < q then L ++ [s.extract p q] else L
def wTo (s : ByteArray) : Nat → List ByteArray × Nat
  | 0 => ([], 0)
  | i + 1 => if gb s i = 32 then (addWord (wTo s i).1 s (wTo s i).2 i, i + 1) else wTo s i
def splitAll (s : ByteArray) : List ByteArray := addWord (wTo s s.size).1 s (wTo s s.size).2 s.size

theorem wTo_sp {s : ByteArray} {i : Nat} (h : gb s i = 32) : wTo s (i + 1) = (addWord (wTo s i).1 s (wTo s i).2 i, i + 1) := by rw [wTo, if_pos h]
theorem wTo_no {s : ByteArray} {i : Nat} (h : gb s i ≠ 32) : wTo s (i + 1) = wTo s i := by rw [wTo, if_neg h]
theorem addWord_len (L : List ByteArray) (s : ByteArray) (p q : Nat) : (addWord L s p q).length ≤ L.length + 1 := by
  unfold addWord; split <;> simp
theorem wTo_le (s : ByteArray) : ∀ i, (wTo s i).2 ≤ i ∧ (wTo s i).1.length ≤ (wTo s i).2
  | 0 => ⟨Nat.le_refl _, Nat.le_refl _⟩
  | i + 1 => by
    have ih := wTo_le s i
    by_cases h : gb s i = 32
    · rw [wTo_sp h]
      have := addWord_len (wTo s i).1 s (wTo s i).2 i
      simp only
      omega
    · rw [wTo_no h]; omega
theorem wTo_skip (s : ByteArray) (p : Nat) : ∀ k, (∀ i, i < k → gb s (p + i) ≠ 32) → wTo s (p + k) = wTo s p
  | 0, _ => rfl
  | k + 1, h => by
    rw [← Nat.add_assoc, wTo_no (h k (by omega))]
    exact wTo_skip s p k fun i hi => h i (by omega)
theorem splitAll_len (s : ByteArray) : (splitAll s).length ≤ s.size + 1 := by
  have h := wTo_le s s.size
  have := addWord_len (wTo s s.size).1 s (wTo s s.size).2 s.size
  unfold splitAll
  omega
theorem wTo_each (s : ByteArray) : ∀ i, i ≤ s.size → ∀ l ∈ (wTo s i).1, l.size ≤ s.size
  | 0, _, l, h => by simp [wTo] at h
  | i + 1, hi, l, h => by
    by_cases hb : gb s i = 32
    · rw [wTo_sp hb] at h
      simp only [addWord] at h
      split at h
      · rcases List.mem_append.1 h with h | h
        · exact wTo_each s i (by omega) l h
        · rw [List.mem_singleton.1 h, size_ex _ _ _ (by omega)]; omega
      · exact wTo_each s i (by omega) l h
    · rw [wTo_no hb] at h
      exact wTo_each s i (by omega) l h
theorem splitAll_each (s : ByteArray) : ∀ l ∈ splitAll s, l.size ≤ s.size := by
  intro l h
  unfold splitAll addWord at h
  split at h
  · rcases List.mem_append.1 h with h | h
    · exact wTo_each s _ (Nat.le_refl _) l h
    · rw [List.mem_singleton.1 h, size_ex _ _ _ (Nat.le_refl _)]; omega
  · exact wTo_each s _ (Nat.le_refl _) l h

/-! ### at most four bytes a rune -/
theorem width_four (s : ByteArray) (a : Nat) (h : a < s.size) : (Utf8.decode s a).2 ≤ 4 := by
  rw [dec_gb]
  have b0 := gb_lt s a
  by_cases hl : gb s a < 128
  · rw [dec_low _ _ _ _ _ hl]; simp only; omega
  by_cases hb : gb s a < 194 ∨ 244 < gb s a
  · rw [dec_bad _ _ _ _ _ b0 (by omega)]; simp only; omega
  obtain ⟨sz, lo, hi, h2, hcz, hlo, hhi, hf, he⟩ := dec_multi (s.size - a) (gb s a) (gb s (a + 1)) (gb s (a + 2)) (gb s (a + 3)) (by omega) (gb_lt _ _) (gb_lt _ _) (gb_lt _ _) (by omega)
  rw [he]
  unfold Lib.slowN
  repeat' split
  all_goals (simp only; omega)
theorem size_runes (s : ByteArray) : ∀ f pos, s.size - pos ≤ f → s.size - pos ≤ 4 * rcf s pos
  | 0, pos, h => by omega
  | f + 1, pos, h => by
    by_cases hp : pos < s.size
    · have h1 := width_pos s pos hp
      have h4 := width_four s pos hp
      have ih := size_runes s f (pos + (Utf8.decode s pos).2) (by omega)
      rw [rcf_next s pos hp]
      omega
    · omega

/-! ### ids -/
def hexB (c : Int) : Bool := decide ((48 ≤ c ∧ c ≤ 57) ∨ (97 ≤ c ∧ c ≤ 102))
def hexTo (s : ByteArray) (n : Nat) : Prop := ∀ i, i < n → hexB (gb s i) = true
def idB (s : ByteArray) : Bool := decide (s.size = 4) && (List.range s.size).all fun i => hexB (gb s i)
theorem hexTo_next {s : ByteArray} {n : Nat} (h : hexTo s n) (h1 : hexB (gb s n) = true) : hexTo s (n + 1) := by
  intro i hi
  by_cases e : i = n
  · subst e; exact h1
  · exact h i (by omega)
theorem id_yes {s : ByteArray} (h4 : s.size = 4) (h : hexTo s s.size) : idB s = true := by
  unfold idB
  simp only [Bool.and_eq_true, decide_eq_true_eq, List.all_eq_true, List.mem_range]
  exact ⟨h4, h⟩
theorem id_no {s : ByteArray} {i : Nat} (hi : i < s.size) (h : hexB (gb s i) = false) : idB s = false := by
  unfold idB
  rw [Bool.and_eq_false_iff]
  right
  rw [List.all_eq_false]
  exact ⟨i, List.mem_range.2 hi, by rw [h]; simp⟩
theorem id_len {s : ByteArray} (h4 : s.size ≠ 4) : idB s = false := by
  unfold idB
  simp [h4]
/-- A rune is of an id just if the byte at its place is. -/
theorem hex_rune (s : ByteArray) (p : Nat) (h : p < s.size) : hexB ((Utf8.decode s p).1 : Nat) = hexB (gb s p) ∧ (hexB (gb s p) = true → (Utf8.decode s p).2 = 1) := by
  rcases dec_parts s p h with ⟨h1, h2⟩ | ⟨h1, h2, _, _⟩
  · rw [h2]; exact ⟨rfl, fun _ => rfl⟩
  · have a : hexB (gb s p) = false := by unfold hexB; rw [decide_eq_false_iff_not]; omega
    have b : hexB ((Utf8.decode s p).1 : Nat) = false := by unfold hexB; rw [decide_eq_false_iff_not]; omega
    rw [a, b]
    exact ⟨rfl, fun h => by cases h⟩

/-! ### names -/
def letB (r : Int) : Bool := decide ((97 ≤ r ∧ r ≤ 122) ∨ (945 ≤ r ∧ r ≤ 969))
def letF (s : ByteArray) : Nat → Nat → Bool
  | 0, _ => true
  | f + 1, pos => if pos < s.size then letB ((Utf8.decode s pos).1 : Nat) && letF s f (pos + (Utf8.decode s pos).2) else true
theorem letF_end (s : ByteArray) (f pos : Nat) (h : s.size ≤ pos) : letF s f pos = true := by
  cases f with
  | zero => rfl
  | succ f => rw [letF, if_neg (by omega)]
theorem letF_stable (s : ByteArray) : ∀ f g pos, s.size - pos ≤ f → s.size - pos ≤ g → letF s f pos = letF s g pos
  | 0, g, pos, hf, _ => by rw [letF_end s 0 pos (by omega), letF_end s g pos (by omega)]
  | f + 1, 0, pos, _, hg => by rw [letF_end s _ pos (by omega), letF_end s 0 pos (by omega)]
  | f + 1, g + 1, pos, hf, hg => by
    unfold letF
    by_cases h : pos < s.size
    · rw [if_pos h, if_pos h]
      have := width_pos s pos h
      rw [letF_stable s f g _ (by omega) (by omega)]
    · rw [if_neg h, if_neg h]
def lets (s : ByteArray) (pos : Nat) : Bool := letF s s.size pos
theorem lets_end (s : ByteArray) (pos : Nat) (h : s.size ≤ pos) : lets s pos = true := letF_end s _ pos h
theorem lets_next (s : ByteArray) (pos : Nat) (h : pos < s.size) : lets s pos = (letB ((Utf8.decode s pos).1 : Nat) && lets s (pos + (Utf8.decode s pos).2)) := by
  unfold lets
  have hw := width_pos s pos h
  obtain ⟨n, hn⟩ : ∃ n, s.size = n + 1 := ⟨s.size - 1, by omega⟩
  rw [hn]
  conv => lhs; unfold letF
  rw [if_pos h, letF_stable s n (n + 1) _ (by omega) (by omega)]
def nameB (s : ByteArray) : Bool := decide (1 ≤ s.size) && decide (rcf s 0 ≤ 8) && lets s 0

/-- A rune of one byte is a letter just if its byte is; of two bytes, just if the number that they make is; of more, never. -/
theorem let_rune (s : ByteArray) (p : Nat) (h : p < s.size) :
    ((Utf8.decode s p).2 = 1 → letB ((Utf8.decode s p).1 : Nat) = decide (97 ≤ gb s p ∧ gb s p ≤ 122)) ∧
    ((Utf8.decode s p).2 = 2 → p + 1 < s.size ∧ 194 ≤ gb s p ∧ gb s p ≤ 223 ∧ 128 ≤ gb s (p + 1) ∧ gb s (p + 1) ≤ 191 ∧ (((Utf8.decode s p).1 : Nat) : Int) = 64 * ((gb s p : Int) - 192) + (gb s (p + 1) : Int) - 128) ∧
    (2 < (Utf8.decode s p).2 → letB ((Utf8.decode s p).1 : Nat) = false) := by
  rw [dec_gb]
  have b0 := gb_lt s p
  have b1 := gb_lt s (p + 1)
  have b2 := gb_lt s (p + 2)
  have b3 := gb_lt s (p + 3)
  by_cases hl : gb s p < 128
  · rw [dec_low _ _ _ _ _ hl]
    refine ⟨fun _ => ?_, fun h => by simp at h, fun h => by simp at h⟩
    unfold letB
    rw [decide_eq_decide]
    simp only
    omega
  have fe : letB ((65533 : Nat) : Int) = decide (97 ≤ gb s p ∧ gb s p ≤ 122) := by
    unfold letB
    rw [decide_eq_decide]
    omega
  by_cases hb : gb s p < 194 ∨ 244 < gb s p
  · rw [dec_bad _ _ _ _ _ b0 (by omega)]
    exact ⟨fun _ => fe, fun h => by simp at h, fun h => by simp at h⟩
  obtain ⟨sz, lo, hi, h2, hcz, hlo, hhi, hf, he⟩ := dec_multi (s.size - p) (gb s p) (gb s (p + 1)) (gb s (p + 2)) (gb s (p + 3)) (by omega) b1 b2 b3 (by omega)
  rw [he]
  unfold cls at hcz
  unfold Lib.slowN
  split
  · exact ⟨fun _ => fe, fun h => by simp at h, fun h => by simp at h⟩
  split
  · exact ⟨fun _ => fe, fun h => by simp at h, fun h => by simp at h⟩
  split
  · refine ⟨fun h => by simp at h, fun _ => ?_, fun h => by simp at h⟩
    simp only
    omega
  split
  · exact ⟨fun _ => fe, fun h => by simp at h, fun h => by simp at h⟩
  split
  · refine ⟨fun h => by simp at h, fun h => by simp at h, fun _ => ?_⟩
    unfold letB
    rw [decide_eq_false_iff_not]
    simp only
    by_cases e : gb s p = 224
    · have this2 := (hf 160).1 (by rw [e]; decide)
      have := (hf 159)
      have hf159 : folB (gb s p) (1 : Nat) (159 : Nat) = false := by rw [e]; decide
      rw [hf159] at this
      simp at this
      omega
    · omega
  split
  · exact ⟨fun _ => fe, fun h => by simp at h, fun h => by simp at h⟩
  · refine ⟨fun h => by simp at h, fun h => by simp at h, fun _ => ?_⟩
    unfold letB
    rw [decide_eq_false_iff_not]
    simp only
    by_cases e : gb s p = 240
    · have this2 := (hf 144).1 (by rw [e]; decide)
      have := (hf 143)
      have hf143 : folB (gb s p) (1 : Nat) (143 : Nat) = false := by rw [e]; decide
      rw [hf143] at this
      simp at this
      omega
    · omega

/-! ### repositories -/
def repoB (s : ByteArray) : Bool := decide (s.size = 1 ∧ 48 ≤ gb s 0 ∧ gb s 0 ≤ 50)
end Go.Proofs.YtgdfipmdmgkidaaGreatDoor
