/- Plain facts on texts: pieces of a text, a text without its last newline, and the lines of a text. -/
import Derived.Test.YtgdfipmdmgkidaaRunes
namespace Go.Proofs.Ytgdfipmdmgkidaa

theorem gb_out (s : ByteArray) (i : Nat) (h : s.size ≤ i) : gb s i = 0 := by
  unfold gb
  have : s.get! i = 0 := by
    show s.data[i]! = 0
    rw [getElem!_neg _ _ (by show ¬ i < s.data.size; show ¬ i < s.size; omega)]
    rfl
  rw [this]
  rfl

theorem size_ex (s : ByteArray) (i j : Nat) (hj : j ≤ s.size) : (s.extract i j).size = j - i := by
  rw [ByteArray.size_extract]; omega

theorem gb_ex (s : ByteArray) (i j k : Nat) (hj : j ≤ s.size) (hk : k < j - i) : gb (s.extract i j) k = gb s (i + k) := by
  have h1 : k < (s.extract i j).size := by rw [size_ex s i j hj]; exact hk
  rw [← gb_eq _ _ h1, ← gb_eq s (i + k) (by omega)]
  simp [ByteArray.getElem_extract]

theorem ext_gb {s t : ByteArray} (hs : s.size = t.size) (h : ∀ i, i < s.size → gb s i = gb t i) : s = t := by
  apply ByteArray.ext_getElem hs
  intro i h1 h2
  have := h i h1
  rw [← gb_eq s i h1, ← gb_eq t i h2] at this
  exact UInt8.toNat_inj.1 this

/-- A text without its last newline. -/
def trimNL (s : ByteArray) : ByteArray := if 1 ≤ s.size ∧ gb s (s.size - 1) = 10 then s.extract 0 (s.size - 1) else s

theorem toList_loop (bs : ByteArray) : ∀ (n i : Nat) (r : List UInt8), bs.size - i = n → ByteArray.toList.loop bs i r = r.reverse ++ bs.data.toList.drop i
  | 0, i, r, h => by
    rw [ByteArray.toList.loop, if_neg (by omega), List.drop_of_length_le (by show bs.data.toList.length ≤ i; rw [Array.length_toList]; show bs.size ≤ i; omega), List.append_nil]
  | n + 1, i, r, h => by
    have hi : i < bs.size := by omega
    rw [ByteArray.toList.loop, if_pos hi, toList_loop bs n (i + 1) _ (by omega)]
    have hl : i < bs.data.toList.length := by rw [Array.length_toList]; exact hi
    rw [List.drop_eq_getElem_cons hl]
    have : bs.get! i = bs.data.toList[i] := by
      show bs.data[i]! = _
      rw [getElem!_pos bs.data i hi]
      simp
    rw [this]
    simp
theorem toList_data (bs : ByteArray) : bs.toList = bs.data.toList := by
  rw [ByteArray.toList, toList_loop bs _ 0 [] rfl]
  simp

theorem last_list (s : ByteArray) (h : 1 ≤ s.size) : ((s.extract (s.size - 1) s.size).toList == [10]) = decide (gb s (s.size - 1) = 10) := by
  have e : s.extract (s.size - 1) s.size = ⟨#[s[s.size - 1]'(by omega)]⟩ := by
    apply ext_gb
    · rw [size_ex _ _ _ (Nat.le_refl _)]; show s.size - (s.size - 1) = 1; omega
    · intro i hi
      rw [size_ex _ _ _ (Nat.le_refl _)] at hi
      have : i = 0 := by omega
      subst this
      rw [gb_ex _ _ _ _ (Nat.le_refl _) hi, Nat.add_zero, ← gb_eq s (s.size - 1) (by omega)]
      rfl
  rw [e]
  have e2 : (⟨#[s[s.size - 1]'(by omega)]⟩ : ByteArray).toList = [s[s.size - 1]'(by omega)] := by
    rw [toList_data]
  rw [e2, ← gb_eq s (s.size - 1) (by omega)]
  rw [Bool.eq_iff_iff]
  simp [← UInt8.toNat_inj]

theorem decodeN_cut (m b0 b1 b2 b3 c1 c2 c3 : Nat) (hm : 1 ≤ m) (h1 : 1 < m → b1 = c1) (h2 : 2 < m → b2 = c2) (h3 : 3 < m → b3 = c3) (e1 : m = 1 → b1 = 10) (e2 : m = 2 → b2 = 10) (e3 : m = 3 → b3 = 10) :
    Lib.decodeN (m + 1) b0 b1 b2 b3 = Lib.decodeN m b0 c1 c2 c3 := by
  by_cases m1 : m = 1
  · subst m1; rw [e1 rfl]; simp [Lib.decodeN]
  by_cases m2 : m = 2
  · subst m2; rw [e2 rfl, h1 (by omega)]; simp [Lib.decodeN]
  by_cases m3 : m = 3
  · subst m3; rw [e3 rfl, h1 (by omega), h2 (by omega)]; simp [Lib.decodeN]
  rw [h1 (by omega), h2 (by omega), h3 (by omega)]
  simp only [Lib.decodeN, show (1 < m + 1) = True from eq_true (by omega), show (2 < m + 1) = True from eq_true (by omega), show (3 < m + 1) = True from eq_true (by omega), show (1 < m) = True from eq_true (by omega), show (2 < m) = True from eq_true (by omega), show (3 < m) = True from eq_true (by omega)]

theorem dec_trim (s : ByteArray) (n pos : Nat) (hn : s.size = n + 1) (h10 : gb s n = 10) (hp : pos < n) : Utf8.decode s pos = Utf8.decode (s.extract 0 n) pos := by
  have hsz : (s.extract 0 n).size = n := by rw [size_ex _ _ _ (by omega)]; omega
  have g : ∀ k, k < n → gb (s.extract 0 n) k = gb s k := fun k hk => by rw [gb_ex _ _ _ _ (by omega) (by omega), Nat.zero_add]
  rw [dec_gb, dec_gb, hsz, g pos hp, show s.size - pos = (n - pos) + 1 by omega]
  refine decodeN_cut _ _ _ _ _ _ _ _ (by omega) ?_ ?_ ?_ ?_ ?_ ?_
  · intro h; rw [g _ (by omega)]
  · intro h; rw [g _ (by omega)]
  · intro h; rw [g _ (by omega)]
  · intro h; rw [show pos + 1 = n by omega]; exact h10
  · intro h; rw [show pos + 2 = n by omega]; exact h10
  · intro h; rw [show pos + 3 = n by omega]; exact h10

theorem rcf_trim (s : ByteArray) (n : Nat) (hn : s.size = n + 1) (h10 : gb s n = 10) : ∀ f pos, n - pos ≤ f → pos ≤ n → rcf s pos = rcf (s.extract 0 n) pos + 1 := by
  have hsz : (s.extract 0 n).size = n := by rw [size_ex _ _ _ (by omega)]; omega
  have hend : rcf s n = rcf (s.extract 0 n) n + 1 := by
    have hd : (Utf8.decode s n).2 = 1 := by
      rcases dec_parts s n (by omega) with ⟨_, h2⟩ | ⟨h1, _⟩
      · rw [h2]
      · omega
    rw [rcf_next s n (by omega), hd, rcf_end s (n + 1) (by omega), rcf_end _ n (by omega)]
  intro f
  induction f with
  | zero =>
    intro pos h1 h2
    obtain rfl : pos = n := by omega
    exact hend
  | succ f ih =>
    intro pos h1 h2
    by_cases e : pos = n
    · subst e; exact hend
    · have hd := dec_trim s n pos hn h10 (by omega)
      have hw := width_pos s pos (by omega)
      have hin := dec_in (s.extract 0 n) pos (by omega)
      rw [← hd, hsz] at hin
      rw [rcf_next s pos (by omega), rcf_next (s.extract 0 n) pos (by omega), ← hd, ih _ (by omega) (by omega)]
      omega

/-- Runes of a line without its newline. -/
def lineRunes (s : ByteArray) : Nat := rcf (trimNL s) 0
theorem lineRunes_nl (s : ByteArray) (h : 1 ≤ s.size) (h10 : gb s (s.size - 1) = 10) : rcf s 0 = lineRunes s + 1 := by
  unfold lineRunes trimNL
  rw [if_pos ⟨h, h10⟩]
  exact rcf_trim s (s.size - 1) (by omega) h10 _ 0 (Nat.le_refl _) (by omega)
theorem lineRunes_no (s : ByteArray) (h10 : gb s (s.size - 1) ≠ 10) : rcf s 0 = lineRunes s := by
  unfold lineRunes trimNL
  rw [if_neg (by intro h; exact h10 h.2)]
theorem trimNL_size (s : ByteArray) : (trimNL s).size ≤ s.size := by
  unfold trimNL
  split
  · rw [size_ex _ _ _ (by omega)]; omega
  · exact Nat.le_refl _

/-- The lines that are ended ahead of a place, and where the next one begins. -/
def stTo (s : ByteArray) : Nat → List ByteArray × Nat
  | 0 => ([], 0)
  | i + 1 => if gb s i = 10 then ((stTo s i).1 ++ [s.extract (stTo s i).2 (i + 1)], i + 1) else stTo s i
def cutAll (s : ByteArray) : List ByteArray := if (stTo s s.size).2 < s.size then (stTo s s.size).1 ++ [s.extract (stTo s s.size).2 s.size] else (stTo s s.size).1

theorem stTo_nl {s : ByteArray} {i : Nat} (h : gb s i = 10) : stTo s (i + 1) = ((stTo s i).1 ++ [s.extract (stTo s i).2 (i + 1)], i + 1) := by
  rw [stTo, if_pos h]
theorem stTo_no {s : ByteArray} {i : Nat} (h : gb s i ≠ 10) : stTo s (i + 1) = stTo s i := by
  rw [stTo, if_neg h]
theorem stTo_le (s : ByteArray) : ∀ i, (stTo s i).2 ≤ i ∧ (stTo s i).1.length ≤ i
  | 0 => ⟨Nat.le_refl _, Nat.le_refl _⟩
  | i + 1 => by
    have ih := stTo_le s i
    by_cases h : gb s i = 10
    · rw [stTo_nl h]; simp only [List.length_append, List.length_cons, List.length_nil]; omega
    · rw [stTo_no h]; omega
theorem stTo_room (s : ByteArray) : ∀ i, (stTo s i).1.length ≤ (stTo s i).2
  | 0 => Nat.le_refl _
  | i + 1 => by
    have ih := stTo_room s i
    have := (stTo_le s i).1
    by_cases h : gb s i = 10
    · rw [stTo_nl h]; simp only [List.length_append, List.length_cons, List.length_nil]; omega
    · rw [stTo_no h]; omega
theorem stTo_skip (s : ByteArray) (p : Nat) : ∀ k, (∀ i, i < k → gb s (p + i) ≠ 10) → stTo s (p + k) = stTo s p
  | 0, _ => rfl
  | k + 1, h => by
    rw [← Nat.add_assoc, stTo_no (h k (by omega))]
    exact stTo_skip s p k fun i hi => h i (by omega)
theorem stTo_each (s : ByteArray) : ∀ i, i ≤ s.size → ∀ l ∈ (stTo s i).1, 1 ≤ l.size ∧ l.size ≤ s.size
  | 0, _, l, h => by simp [stTo] at h
  | i + 1, hi, l, h => by
    by_cases hb : gb s i = 10
    · rw [stTo_nl hb] at h
      rcases List.mem_append.1 h with h | h
      · exact stTo_each s i (by omega) l h
      · have := (stTo_le s i).1
        rw [List.mem_singleton.1 h, size_ex _ _ _ hi]; omega
    · rw [stTo_no hb] at h
      exact stTo_each s i (by omega) l h
theorem cutAll_each (s : ByteArray) : ∀ l ∈ cutAll s, 1 ≤ l.size ∧ l.size ≤ s.size := by
  intro l h
  unfold cutAll at h
  split at h
  · rcases List.mem_append.1 h with h | h
    · exact stTo_each s _ (Nat.le_refl _) l h
    · rw [List.mem_singleton.1 h, size_ex _ _ _ (Nat.le_refl _)]; omega
  · exact stTo_each s _ (Nat.le_refl _) l h
theorem cutAll_len (s : ByteArray) : (cutAll s).length ≤ s.size := by
  have h1 := stTo_room s s.size
  have h2 := stTo_le s s.size
  unfold cutAll
  split
  · simp only [List.length_append, List.length_cons, List.length_nil]; omega
  · exact h2.2

theorem dec_at_low (s : ByteArray) (p : Nat) (h : p < s.size) (hl : gb s p < 128) : Utf8.decode s p = (gb s p, 1) := by
  rcases dec_parts s p h with h | h
  · exact h.2
  · omega
/-- At a place where another byte than c stands (c below 128), the rune is another one, and c stands nowhere inside it. -/
theorem dec_not (s : ByteArray) (p c : Nat) (h : p < s.size) (hc : c < 128) (hn : gb s p ≠ c) :
    ∃ r k : Nat, Utf8.decode s p = (r, k) ∧ r ≠ c ∧ 1 ≤ k ∧ p + k ≤ s.size ∧ ∀ i, i < k → gb s (p + i) ≠ c := by
  rcases dec_parts s p h with ⟨h1, h2⟩ | ⟨h1, h2, h3, h4⟩
  · refine ⟨_, _, h2, hn, Nat.le_refl _, h, fun i hi => ?_⟩
    have : i = 0 := by omega
    subst this
    exact hn
  · exact ⟨(Utf8.decode s p).1, (Utf8.decode s p).2, rfl, by omega, width_pos s p h, h3, fun i hi => by have := h4 i hi; omega⟩
end Go.Proofs.Ytgdfipmdmgkidaa
