/- Plain facts on runes: how many bytes a rune has by the document's own reckoning is what the model decodes, and no byte inside a rune is a newline or a space. -/
import Derived.Lib.DecodeN
import Derived.Lib.DecodeNEq
import Derived.Lib.RuneCount
namespace Go.Proofs.YtgdfipmdmgkidaaGreatDoor

def folB (c : Int) (k : Int) (b : Int) : Bool :=
  decide ((if k = 1 ∧ c = 224 then 160 else if k = 1 ∧ c = 240 then 144 else 128) ≤ b ∧ b ≤ (if k = 1 ∧ c = 237 then 159 else if k = 1 ∧ c = 244 then 143 else 191))

def gb (s : ByteArray) (i : Nat) : Nat := (s.get! i).toNat

theorem gb_lt (s : ByteArray) (i : Nat) : gb s i < 256 := UInt8.toNat_lt _

theorem gb_eq (s : ByteArray) (i : Nat) (h : i < s.size) : s[i].toNat = gb s i := by
  have e : s.get! i = s[i]'h := by
    simp [ByteArray.get!, getElem!_pos, h]
    rfl
  rw [gb, e]

def cls (n : Nat) (c : Nat) : Prop :=
  n = 1 ∧ (c < 194 ∨ 244 < c) ∨ n = 2 ∧ 194 ≤ c ∧ c ≤ 223 ∨ n = 3 ∧ 224 ≤ c ∧ c ≤ 239 ∨ n = 4 ∧ 240 ≤ c ∧ c ≤ 244

def okTo (s : ByteArray) (a : Nat) (n : Nat) : Prop := ∀ i : Nat, 1 ≤ i → i < n → a + i < s.size ∧ folB (gb s a) i (gb s (a + i)) = true

theorem dec_gb (s : ByteArray) (a : Nat) : Utf8.decode s a = Lib.decodeN (s.size - a) (gb s a) (gb s (a + 1)) (gb s (a + 2)) (gb s (a + 3)) := Lib.decode_at s a

theorem fol_rest (c k b : Nat) (hk : k ≠ 1) : folB c k b = true ↔ 128 ≤ b ∧ b ≤ 191 := by
  have h : ¬ ((k : Int) = 1) := by omega
  simp only [folB, h, false_and, if_false, decide_eq_true_eq]
  omega

theorem fol_one (c b lo hi : Nat) (hl : (if (c : Int) = 224 then 160 else if (c : Int) = 240 then 144 else (128 : Int)) = lo) (hh : (if (c : Int) = 237 then 159 else if (c : Int) = 244 then 143 else (191 : Int)) = hi) :
    folB c (1 : Nat) b = true ↔ lo ≤ b ∧ b ≤ hi := by
  simp only [folB, Int.natCast_one, true_and, hl, hh, decide_eq_true_eq]
  omega

/-- What a lead byte from 194 to 244 asks. -/
theorem dec_multi (n c b1 b2 b3 : Nat) (hn : 1 ≤ n) (h1 : b1 < 256) (h2 : b2 < 256) (h3 : b3 < 256) (hc : 194 ≤ c ∧ c ≤ 244) :
    ∃ sz lo hi, 2 ≤ sz ∧ cls sz c ∧ 128 ≤ lo ∧ hi ≤ 191 ∧ (∀ b : Nat, folB c (1 : Nat) b = true ↔ lo ≤ b ∧ b ≤ hi) ∧ Lib.decodeN n c b1 b2 b3 = Lib.slowN n c b1 b2 b3 sz lo hi := by
  have hcl : (194 ≤ c ∧ c < 224) ∨ c = 224 ∨ ((225 ≤ c ∧ c < 237) ∨ (238 ≤ c ∧ c < 240)) ∨ c = 237 ∨ c = 240 ∨ (241 ≤ c ∧ c < 244) ∨ c = 244 := by omega
  rcases hcl with h | h | h | h | h | h | h
  · exact ⟨2, 128, 191, by omega, by unfold cls; omega, by omega, by omega, fun b => fol_one c b 128 191 (by repeat' split <;> omega) (by repeat' split <;> omega), (Lib.slow_C2 n c b1 b2 b3 hn h1 h2 h3 h).symm⟩
  · exact ⟨3, 160, 191, by omega, by unfold cls; omega, by omega, by omega, fun b => fol_one c b 160 191 (by repeat' split <;> omega) (by repeat' split <;> omega), (Lib.slow_E0 n c b1 b2 b3 hn h1 h2 h3 h).symm⟩
  · exact ⟨3, 128, 191, by omega, by unfold cls; omega, by omega, by omega, fun b => fol_one c b 128 191 (by repeat' split <;> omega) (by repeat' split <;> omega), (Lib.slow_E1 n c b1 b2 b3 hn h1 h2 h3 h).symm⟩
  · exact ⟨3, 128, 159, by omega, by unfold cls; omega, by omega, by omega, fun b => fol_one c b 128 159 (by repeat' split <;> omega) (by repeat' split <;> omega), (Lib.slow_ED n c b1 b2 b3 hn h1 h2 h3 h).symm⟩
  · exact ⟨4, 144, 191, by omega, by unfold cls; omega, by omega, by omega, fun b => fol_one c b 144 191 (by repeat' split <;> omega) (by repeat' split <;> omega), (Lib.slow_F0 n c b1 b2 b3 hn h1 h2 h3 h).symm⟩
  · exact ⟨4, 128, 191, by omega, by unfold cls; omega, by omega, by omega, fun b => fol_one c b 128 191 (by repeat' split <;> omega) (by repeat' split <;> omega), (Lib.slow_F1 n c b1 b2 b3 hn h1 h2 h3 h).symm⟩
  · exact ⟨4, 128, 143, by omega, by unfold cls; omega, by omega, by omega, fun b => fol_one c b 128 143 (by repeat' split <;> omega) (by repeat' split <;> omega), (Lib.slow_F4 n c b1 b2 b3 hn h1 h2 h3 h).symm⟩

theorem dec_bad (n c b1 b2 b3 : Nat) (h0 : c < 256) (hc : 128 ≤ c ∧ c < 194 ∨ 244 < c) : Lib.decodeN n c b1 b2 b3 = (65533, 1) := by
  refine Lib.bad_eq n c b1 b2 b3 h0 ?_
  unfold Lib.firstT
  repeat' split
  all_goals omega

theorem dec_low (n c b1 b2 b3 : Nat) (hc : c < 128) : Lib.decodeN n c b1 b2 b3 = (c, 1) := by
  unfold Lib.decodeN
  rw [if_pos hc]

theorem cls_inj {m n c : Nat} (h : cls m c) (k : cls n c) : m = n := by unfold cls at h k; omega

theorem dec_ok (s : ByteArray) (a n : Nat) (h : a < s.size) (hc : cls n (gb s a)) (ho : okTo s a n) : (Utf8.decode s a).2 = n := by
  rw [dec_gb]
  have b0 := gb_lt s a
  by_cases hl : gb s a < 128
  · rw [dec_low _ _ _ _ _ hl]; unfold cls at hc; simp only []; omega
  by_cases hb : gb s a < 194 ∨ 244 < gb s a
  · rw [dec_bad _ _ _ _ _ b0 (by omega)]; unfold cls at hc; simp only []; omega
  obtain ⟨sz, lo, hi, h2, hcz, hlo, hhi, hf, he⟩ := dec_multi (s.size - a) (gb s a) (gb s (a + 1)) (gb s (a + 2)) (gb s (a + 3)) (by omega) (gb_lt _ _) (gb_lt _ _) (gb_lt _ _) (by omega)
  obtain rfl := cls_inj hc hcz
  have hn4 : n ≤ 4 := by unfold cls at hc; omega
  rw [he]
  have o1 := ho 1 (by omega) (by omega)
  rw [hf] at o1
  unfold Lib.slowN
  by_cases h3 : 3 ≤ n
  · have o2 := ho 2 (by omega) (by omega)
    rw [fol_rest _ _ _ (by omega)] at o2
    by_cases h4 : 4 ≤ n
    · have o3 := ho 3 (by omega) (by omega)
      rw [fol_rest _ _ _ (by omega)] at o3
      rw [if_neg (by omega), if_neg (by omega), if_neg (by omega), if_neg (by omega), if_neg (by omega), if_neg (by omega)]
      simp only []; omega
    · rw [if_neg (by omega), if_neg (by omega), if_neg (by omega), if_neg (by omega), if_pos (by omega)]
      simp only []; omega
  · rw [if_neg (by omega), if_neg (by omega), if_pos (by omega)]
    simp only []; omega

theorem width_pos (s : ByteArray) (a : Nat) (h : a < s.size) : 1 ≤ (Utf8.decode s a).2 := Lib.decode_width_pos s a h

/-- What a rune is, at a place: a byte below 128 is itself, of one byte; else every byte of it is from 128 on, and so is it. -/
theorem dec_parts (s : ByteArray) (a : Nat) (h : a < s.size) :
    (gb s a < 128 ∧ Utf8.decode s a = (gb s a, 1)) ∨
    (128 ≤ gb s a ∧ 128 ≤ (Utf8.decode s a).1 ∧ a + (Utf8.decode s a).2 ≤ s.size ∧ ∀ i, i < (Utf8.decode s a).2 → 128 ≤ gb s (a + i)) := by
  rw [dec_gb]
  have b0 := gb_lt s a
  have key : 128 ≤ gb s a → ∀ k, k ≤ 4 → (1 < k → 128 ≤ gb s (a + 1)) → (2 < k → 128 ≤ gb s (a + 2)) → (3 < k → 128 ≤ gb s (a + 3)) → ∀ i, i < k → 128 ≤ gb s (a + i) := by
    intro hl k hk h1 h2 h3 i hi
    have : i = 0 ∨ i = 1 ∨ i = 2 ∨ i = 3 := by omega
    rcases this with rfl | rfl | rfl | rfl
    · simpa using hl
    · exact h1 (by omega)
    · exact h2 (by omega)
    · exact h3 (by omega)
  by_cases hl : gb s a < 128
  · left
    exact ⟨hl, dec_low _ _ _ _ _ hl⟩
  right
  by_cases hb : gb s a < 194 ∨ 244 < gb s a
  · rw [dec_bad _ _ _ _ _ b0 (by omega)]
    exact ⟨by omega, by simp, by simp only []; omega, key (by omega) _ (by simp) (by simp) (by simp) (by simp)⟩
  obtain ⟨sz, lo, hi, h2, hcz, hlo, hhi, hf, he⟩ := dec_multi (s.size - a) (gb s a) (gb s (a + 1)) (gb s (a + 2)) (gb s (a + 3)) (by omega) (gb_lt _ _) (gb_lt _ _) (gb_lt _ _) (by omega)
  have h1 := gb_lt s (a + 1)
  have h2' := gb_lt s (a + 2)
  have h3 := gb_lt s (a + 3)
  rw [he]
  have hcc := hcz
  unfold cls at hcc
  unfold Lib.slowN
  split
  · exact ⟨by omega, by simp, by simp only []; omega, key (by omega) _ (by simp) (by simp) (by simp) (by simp)⟩
  split
  · exact ⟨by omega, by simp, by simp only []; omega, key (by omega) _ (by simp) (by simp) (by simp) (by simp)⟩
  split
  · exact ⟨by omega, by simp only []; omega, by simp only []; omega, key (by omega) _ (by simp) (fun _ => by omega) (by simp) (by simp)⟩
  split
  · exact ⟨by omega, by simp, by simp only []; omega, key (by omega) _ (by simp) (by simp) (by simp) (by simp)⟩
  split
  · refine ⟨by omega, ?_, by simp only []; omega, key (by omega) _ (by simp) (fun _ => by omega) (fun _ => by omega) (by simp)⟩
    by_cases e : gb s a = 224
    · have this2 := (hf 160).1 (by rw [e]; decide)
      have := (hf 159)
      have hf159 : folB (gb s a) (1 : Nat) (159 : Nat) = false := by rw [e]; decide
      rw [hf159] at this
      simp at this
      simp only []
      omega
    · simp only []
      omega
  split
  · exact ⟨by omega, by simp, by simp only []; omega, key (by omega) _ (by simp) (by simp) (by simp) (by simp)⟩
  · refine ⟨by omega, ?_, by simp only []; omega, key (by omega) _ (by simp) (fun _ => by omega) (fun _ => by omega) (fun _ => by omega)⟩
    by_cases e : gb s a = 240
    · have this2 := (hf 144).1 (by rw [e]; decide)
      have := (hf 143)
      have hf143 : folB (gb s a) (1 : Nat) (143 : Nat) = false := by rw [e]; decide
      rw [hf143] at this
      simp at this
      simp only []
      omega
    · simp only []
      omega

/-- The runes from a place on: one more than behind the first of them. -/
theorem rcf_stable (s : ByteArray) : ∀ f g pos, s.size - pos ≤ f → s.size - pos ≤ g → Lib.runeCountFrom s f pos = Lib.runeCountFrom s g pos
  | 0, g, pos, hf, _ => by rw [Lib.runeCountFrom_end s 0 pos (by omega), Lib.runeCountFrom_end s g pos (by omega)]
  | f + 1, 0, pos, _, hg => by rw [Lib.runeCountFrom_end s _ pos (by omega), Lib.runeCountFrom_end s 0 pos (by omega)]
  | f + 1, g + 1, pos, hf, hg => by
    unfold Lib.runeCountFrom
    by_cases h : pos < s.size
    · rw [if_pos h, if_pos h]
      have := width_pos s pos h
      rw [rcf_stable s f g _ (by omega) (by omega)]
    · rw [if_neg h, if_neg h]
def rcf (s : ByteArray) (pos : Nat) : Nat := Lib.runeCountFrom s s.size pos
theorem rcf_end (s : ByteArray) (pos : Nat) (h : s.size ≤ pos) : rcf s pos = 0 := Lib.runeCountFrom_end s _ pos (by omega)
theorem rcf_next (s : ByteArray) (pos : Nat) (h : pos < s.size) : rcf s pos = 1 + rcf s (pos + (Utf8.decode s pos).2) := by
  unfold rcf
  have hw := width_pos s pos h
  obtain ⟨n, hn⟩ : ∃ n, s.size = n + 1 := ⟨s.size - 1, by omega⟩
  rw [hn]
  conv => lhs; unfold Lib.runeCountFrom
  rw [if_pos h, rcf_stable s n (n + 1) _ (by omega) (by omega)]
end Go.Proofs.YtgdfipmdmgkidaaGreatDoor

/- Plain facts on texts: pieces of a text, a text without its last newline, and the lines of a text. -/
namespace Go.Proofs.YtgdfipmdmgkidaaGreatDoor

theorem gb_out (s : ByteArray) (i : Nat) (h : s.size ≤ i) : gb s i = 0 := by
  unfold gb
  have : s.get! i = 0 := by
    show s.data[i]! = 0
    rw [getElem!_neg _ _ (by show ¬ i < s.data.size; show ¬ i < s.size; omega)]
    rfl
  rw [this]
  rfl

theorem size_ex (s : ByteArray) (i j : Nat) (hj : j ≤ s.size) : (s.extract i j).size = j - i := by
  rw [ByteArray.size_extract]; omega

theorem gb_ex (s : ByteArray) (i j k : Nat) (hj : j ≤ s.size) (hk : k < j - i) : gb (s.extract i j) k = gb s (i + k) := by
  have h1 : k < (s.extract i j).size := by rw [size_ex s i j hj]; exact hk
  rw [← gb_eq _ _ h1, ← gb_eq s (i + k) (by omega)]
  simp [ByteArray.getElem_extract]

theorem ext_gb {s t : ByteArray} (hs : s.size = t.size) (h : ∀ i, i < s.size → gb s i = gb t i) : s = t := by
  apply ByteArray.ext_getElem hs
  intro i h1 h2
  have := h i h1
  rw [← gb_eq s i h1, ← gb_eq t i h2] at this
  exact UInt8.toNat_inj.1 this

/-- A text without its last newline. -/
def trimNL (s : ByteArray) : ByteArray := if 1 ≤ s.size ∧ gb s (s.size - 1) = 10 then s.extract 0 (s.size - 1) else s

theorem toList_loop (bs : ByteArray) : ∀ (n i : Nat) (r : List UInt8), bs.size - i = n → ByteArray.toList.loop bs i r = r.reverse ++ bs.data.toList.drop i
  | 0, i, r, h => by
    rw [ByteArray.toList.loop, if_neg (by omega), List.drop_of_length_le (by show bs.data.toList.length ≤ i; rw [Array.length_toList]; show bs.size ≤ i; omega), List.append_nil]
  | n + 1, i, r, h => by
    have hi : i < bs.size := by omega
    rw [ByteArray.toList.loop, if_pos hi, toList_loop bs n (i + 1) _ (by omega)]
    have hl : i < bs.data.toList.length := by rw [Array.length_toList]; exact hi
    rw [List.drop_eq_getElem_cons hl]
    have : bs.get! i = bs.data.toList[i] := by
      show bs.data[i]! = _
      rw [getElem!_pos bs.data i hi]
      simp
    rw [this]
    simp
theorem toList_data (bs : ByteArray) : bs.toList = bs.data.toList := by
  rw [ByteArray.toList, toList_loop bs _ 0 [] rfl]
  simp

theorem last_list (s : ByteArray) (h : 1 ≤ s.size) : ((s.extract (s.size - 1) s.size).toList == [10]) = decide (gb s (s.size - 1) = 10) := by
  have e : s.extract (s.size - 1) s.size = ⟨#[s[s.size - 1]'(by omega)]⟩ := by
    apply ext_gb
    · rw [size_ex _ _ _ (Nat.le_refl _)]; show s.size - (s.size - 1) = 1; omega
    · intro i hi
      rw [size_ex _ _ _ (Nat.le_refl _)] at hi
      have : i = 0 := by omega
      subst this
      rw [gb_ex _ _ _ _ (Nat.le_refl _) hi, Nat.add_zero, ← gb_eq s (s.size - 1) (by omega)]
      rfl
  rw [e]
  have e2 : (⟨#[s[s.size - 1]'(by omega)]⟩ : ByteArray).toList = [s[s.size - 1]'(by omega)] := by
    rw [toList_data]
  rw [e2, ← gb_eq s (s.size - 1) (by omega)]
  rw [Bool.eq_iff_iff]
  simp [← UInt8.toNat_inj]

/-- Runes of a line without its newline. -/
def lineRunes (s : ByteArray) : Nat := rcf (trimNL s) 0
/-- The lines that are ended ahead of a place, and where the next one begins. -/
def stTo (s : ByteArray) : Nat → List ByteArray × Nat
  | 0 => ([], 0)
  | i + 1 => if gb s i = 10 then ((stTo s i).1 ++ [s.extract (stTo s i).2 (i + 1)], i + 1) else stTo s i
def cutAll (s : ByteArray) : List ByteArray := if (stTo s s.size).2 < s.size then (stTo s s.size).1 ++ [s.extract (stTo s s.size).2 s.size] else (stTo s s.size).1

theorem stTo_nl {s : ByteArray} {i : Nat} (h : gb s i = 10) : stTo s (i + 1) = ((stTo s i).1 ++ [s.extract (stTo s i).2 (i + 1)], i + 1) := by
  rw [stTo, if_pos h]
theorem stTo_no {s : ByteArray} {i : Nat} (h : gb s i ≠ 10) : stTo s (i + 1) = stTo s i := by
  rw [stTo, if_neg h]
theorem stTo_le (s : ByteArray) : ∀ i, (stTo s i).2 ≤ i ∧ (stTo s i).1.length ≤ i
  | 0 => ⟨Nat.le_refl _, Nat.le_refl _⟩
  | i + 1 => by
    have ih := stTo_le s i
    by_cases h : gb s i = 10
    · rw [stTo_nl h]; simp only [List.length_append, List.length_cons, List.length_nil]; omega
    · rw [stTo_no h]; omega
theorem stTo_room (s : ByteArray) : ∀ i, (stTo s i).1.length ≤ (stTo s i).2
  | 0 => Nat.le_refl _
  | i + 1 => by
    have ih := stTo_room s i
    have := (stTo_le s i).1
    by_cases h : gb s i = 10
    · rw [stTo_nl h]; simp only [List.length_append, List.length_cons, List.length_nil]; omega
    · rw [stTo_no h]; omega
theorem stTo_skip (s : ByteArray) (p : Nat) : ∀ k, (∀ i, i < k → gb s (p + i) ≠ 10) → stTo s (p + k) = stTo s p
  | 0, _ => rfl
  | k + 1, h => by
    rw [← Nat.add_assoc, stTo_no (h k (by omega))]
    exact stTo_skip s p k fun i hi => h i (by omega)
theorem stTo_each (s : ByteArray) : ∀ i, i ≤ s.size → ∀ l ∈ (stTo s i).1, 1 ≤ l.size ∧ l.size ≤ s.size
  | 0, _, l, h => by simp [stTo] at h
  | i + 1, hi, l, h => by
    by_cases hb : gb s i = 10
    · rw [stTo_nl hb] at h
      rcases List.mem_append.1 h with h | h
      · exact stTo_each s i (by omega) l h
      · have := (stTo_le s i).1
        rw [List.mem_singleton.1 h, size_ex _ _ _ hi]; omega
    · rw [stTo_no hb] at h
      exact stTo_each s i (by omega) l h
theorem cutAll_each (s : ByteArray) : ∀ l ∈ cutAll s, 1 ≤ l.size ∧ l.size ≤ s.size := by
  intro l h
  unfold cutAll at h
  split at h
  · rcases List.mem_append.1 h with h | h
    · exact stTo_each s _ (Nat.le_refl _) l h
    · rw [List.mem_singleton.1 h, size_ex _ _ _ (Nat.le_refl _)]; omega
  · exact stTo_each s _ (Nat.le_refl _) l h
theorem cutAll_len (s : ByteArray) : (cutAll s).length ≤ s.size := by
  have h1 := stTo_room s s.size
  have h2 := stTo_le s s.size
  unfold cutAll
  split
  · simp only [List.length_append, List.length_cons, List.length_nil]; omega
  · exact h2.2

theorem dec_at_low (s : ByteArray) (p : Nat) (h : p < s.size) (hl : gb s p < 128) : Utf8.decode s p = (gb s p, 1) := by
  rcases dec_parts s p h with h | h
  · exact h.2
  · omega
/-- At a place where another byte than c stands (c below 128), the rune is another one, and c stands nowhere inside it. -/
theorem dec_not (s : ByteArray) (p c : Nat) (h : p < s.size) (hc : c < 128) (hn : gb s p ≠ c) :
    ∃ r k : Nat, Utf8.decode s p = (r, k) ∧ r ≠ c ∧ 1 ≤ k ∧ p + k ≤ s.size ∧ ∀ i, i < k → gb s (p + i) ≠ c := by
  rcases dec_parts s p h with ⟨h1, h2⟩ | ⟨h1, h2, h3, h4⟩
  · refine ⟨_, _, h2, hn, Nat.le_refl _, h, fun i hi => ?_⟩
    have : i = 0 := by omega
    subst this
    exact hn
  · exact ⟨(Utf8.decode s p).1, (Utf8.decode s p).2, rfl, by omega, width_pos s p h, h3, fun i hi => by have := h4 i hi; omega⟩
end Go.Proofs.YtgdfipmdmgkidaaGreatDoor
