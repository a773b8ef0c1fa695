/- Plain facts on runes: how many bytes a rune has by the document's own reckoning is what the model decodes, and no byte inside a rune is a newline or a space. -/
import Derived.Lib.DecodeN
import Derived.Lib.DecodeNEq
import Derived.Lib.RuneCount
namespace Go.Proofs.Ytgdfipmdmgkidaa

def folB (c : Int) (k : Int) (b : Int) : Bool :=
  decide ((if k = 1 ∧ c = 224 then 160 else if k = 1 ∧ c = 240 then 144 else 128) ≤ b ∧ b ≤ (if k = 1 ∧ c = 237 then 159 else if k = 1 ∧ c = 244 then 143 else 191))

def gb (s : ByteArray) (i : Nat) : Nat := (s.get! i).toNat

theorem gb_lt (s : ByteArray) (i : Nat) : gb s i < 256 := UInt8.toNat_lt _

theorem gb_eq (s : ByteArray) (i : Nat) (h : i < s.size) : s[i].toNat = gb s i := by
  have e : s.get! i = s[i]'h := by
    simp [ByteArray.get!, getElem!_pos, h]
    rfl
  rw [gb, e]

def cls (n : Nat) (c : Nat) : Prop :=
  n = 1 ∧ (c < 194 ∨ 244 < c) ∨ n = 2 ∧ 194 ≤ c ∧ c ≤ 223 ∨ n = 3 ∧ 224 ≤ c ∧ c ≤ 239 ∨ n = 4 ∧ 240 ≤ c ∧ c ≤ 244

def okTo (s : ByteArray) (a : Nat) (n : Nat) : Prop := ∀ i : Nat, 1 ≤ i → i < n → a + i < s.size ∧ folB (gb s a) i (gb s (a + i)) = true

theorem dec_gb (s : ByteArray) (a : Nat) : Utf8.decode s a = Lib.decodeN (s.size - a) (gb s a) (gb s (a + 1)) (gb s (a + 2)) (gb s (a + 3)) := Lib.decode_at s a

theorem fol_rest (c k b : Nat) (hk : k ≠ 1) : folB c k b = true ↔ 128 ≤ b ∧ b ≤ 191 := by
  have h : ¬ ((k : Int) = 1) := by omega
  simp only [folB, h, false_and, if_false, decide_eq_true_eq]
  omega

theorem fol_one (c b lo hi : Nat) (hl : (if (c : Int) = 224 then 160 else if (c : Int) = 240 then 144 else (128 : Int)) = lo) (hh : (if (c : Int) = 237 then 159 else if (c : Int) = 244 then 143 else (191 : Int)) = hi) :
    folB c (1 : Nat) b = true ↔ lo ≤ b ∧ b ≤ hi := by
  simp only [folB, Int.natCast_one, true_and, hl, hh, decide_eq_true_eq]
  omega

/-- What a lead byte from 194 to 244 asks. -/
theorem dec_multi (n c b1 b2 b3 : Nat) (hn : 1 ≤ n) (h1 : b1 < 256) (h2 : b2 < 256) (h3 : b3 < 256) (hc : 194 ≤ c ∧ c ≤ 244) :
    ∃ sz lo hi, 2 ≤ sz ∧ cls sz c ∧ 128 ≤ lo ∧ hi ≤ 191 ∧ (∀ b : Nat, folB c (1 : Nat) b = true ↔ lo ≤ b ∧ b ≤ hi) ∧ Lib.decodeN n c b1 b2 b3 = Lib.slowN n c b1 b2 b3 sz lo hi := by
  have hcl : (194 ≤ c ∧ c < 224) ∨ c = 224 ∨ ((225 ≤ c ∧ c < 237) ∨ (238 ≤ c ∧ c < 240)) ∨ c = 237 ∨ c = 240 ∨ (241 ≤ c ∧ c < 244) ∨ c = 244 := by omega
  rcases hcl with h | h | h | h | h | h | h
  · exact ⟨2, 128, 191, by omega, by unfold cls; omega, by omega, by omega, fun b => fol_one c b 128 191 (by repeat' split <;> omega) (by repeat' split <;> omega), (Lib.slow_C2 n c b1 b2 b3 hn h1 h2 h3 h).symm⟩
  · exact ⟨3, 160, 191, by omega, by unfold cls; omega, by omega, by omega, fun b => fol_one c b 160 191 (by repeat' split <;> omega) (by repeat' split <;> omega), (Lib.slow_E0 n c b1 b2 b3 hn h1 h2 h3 h).symm⟩
  · exact ⟨3, 128, 191, by omega, by unfold cls; omega, by omega, by omega, fun b => fol_one c b 128 191 (by repeat' split <;> omega) (by repeat' split <;> omega), (Lib.slow_E1 n c b1 b2 b3 hn h1 h2 h3 h).symm⟩
  · exact ⟨3, 128, 159, by omega, by unfold cls; omega, by omega, by omega, fun b => fol_one c b 128 159 (by repeat' split <;> omega) (by repeat' split <;> omega), (Lib.slow_ED n c b1 b2 b3 hn h1 h2 h3 h).symm⟩
  · exact ⟨4, 144, 191, by omega, by unfold cls; omega, by omega, by omega, fun b => fol_one c b 144 191 (by repeat' split <;> omega) (by repeat' split <;> omega), (Lib.slow_F0 n c b1 b2 b3 hn h1 h2 h3 h).symm⟩
  · exact ⟨4, 128, 191, by omega, by unfold cls; omega, by omega, by omega, fun b => fol_one c b 128 191 (by repeat' split <;> omega) (by repeat' split <;> omega), (Lib.slow_F1 n c b1 b2 b3 hn h1 h2 h3 h).symm⟩
  · exact ⟨4, 128, 143, by omega, by unfold cls; omega, by omega, by omega, fun b => fol_one c b 128 143 (by repeat' split <;> omega) (by repeat' split <;> omega), (Lib.slow_F4 n c b1 b2 b3 hn h1 h2 h3 h).symm⟩

theorem dec_bad (n c b1 b2 b3 : Nat) (h0 : c < 256) (hc : 128 ≤ c ∧ c < 194 ∨ 244 < c) : Lib.decodeN n c b1 b2 b3 = (65533, 1) := by
  refine Lib.bad_eq n c b1 b2 b3 h0 ?_
  unfold Lib.firstT
  repeat' split
  all_goals omega

theorem dec_low (n c b1 b2 b3 : Nat) (hc : c < 128) : Lib.decodeN n c b1 b2 b3 = (c, 1) := by
  unfold Lib.decodeN
  rw [if_pos hc]

theorem cls_inj {m n c : Nat} (h : cls m c) (k : cls n c) : m = n := by unfold cls at h k; omega

theorem dec_ok (s : ByteArray) (a n : Nat) (h : a < s.size) (hc : cls n (gb s a)) (ho : okTo s a n) : (Utf8.decode s a).2 = n := by
  rw [dec_gb]
  have b0 := gb_lt s a
  by_cases hl : gb s a < 128
  · rw [dec_low _ _ _ _ _ hl]; unfold cls at hc; simp only []; omega
  by_cases hb : gb s a < 194 ∨ 244 < gb s a
  · rw [dec_bad _ _ _ _ _ b0 (by omega)]; unfold cls at hc; simp only []; omega
  obtain ⟨sz, lo, hi, h2, hcz, hlo, hhi, hf, he⟩ := dec_multi (s.size - a) (gb s a) (gb s (a + 1)) (gb s (a + 2)) (gb s (a + 3)) (by omega) (gb_lt _ _) (gb_lt _ _) (gb_lt _ _) (by omega)
  obtain rfl := cls_inj hc hcz
  have hn4 : n ≤ 4 := by unfold cls at hc; omega
  rw [he]
  have o1 := ho 1 (by omega) (by omega)
  rw [hf] at o1
  unfold Lib.slowN
  by_cases h3 : 3 ≤ n
  · have o2 := ho 2 (by omega) (by omega)
    rw [fol_rest _ _ _ (by omega)] at o2
    by_cases h4 : 4 ≤ n
    · have o3 := ho 3 (by omega) (by omega)
      rw [fol_rest _ _ _ (by omega)] at o3
      rw [if_neg (by omega), if_neg (by omega), if_neg (by omega), if_neg (by omega), if_neg (by omega), if_neg (by omega)]
      simp only []; omega
    · rw [if_neg (by omega), if_neg (by omega), if_neg (by omega), if_neg (by omega), if_pos (by omega)]
      simp only []; omega
  · rw [if_neg (by omega), if_neg (by omega), if_pos (by omega)]
    simp only []; omega

theorem dec_no (s : ByteArray) (a n j : Nat) (h : a < s.size) (hc : cls n (gb s a)) (hj1 : 1 ≤ j) (hj : j < n) (ho : ¬ (a + j < s.size ∧ folB (gb s a) j (gb s (a + j)) = true)) : (Utf8.decode s a).2 = 1 := by
  rw [dec_gb]
  have b0 := gb_lt s a
  by_cases hl : gb s a < 128
  · unfold cls at hc; omega
  by_cases hb : gb s a < 194 ∨ 244 < gb s a
  · unfold cls at hc; omega
  obtain ⟨sz, lo, hi, h2, hcz, hlo, hhi, hf, he⟩ := dec_multi (s.size - a) (gb s a) (gb s (a + 1)) (gb s (a + 2)) (gb s (a + 3)) (by omega) (gb_lt _ _) (gb_lt _ _) (gb_lt _ _) (by omega)
  obtain rfl := cls_inj hc hcz
  have hn4 : n ≤ 4 := by unfold cls at hc; omega
  rw [he]
  have hjj : j = 1 ∨ j = 2 ∨ j = 3 := by omega
  unfold Lib.slowN
  rcases hjj with rfl | rfl | rfl
  · rw [hf] at ho
    by_cases hn : s.size - a < n
    · rw [if_pos hn]
    · rw [if_neg hn, if_pos (by omega)]
  · rw [fol_rest _ _ _ (by omega)] at ho
    by_cases hn : s.size - a < n
    · rw [if_pos hn]
    · rw [if_neg hn]
      split
      · rfl
      · rw [if_neg (by omega), if_pos (by omega)]
  · rw [fol_rest _ _ _ (by omega)] at ho
    by_cases hn : s.size - a < n
    · rw [if_pos hn]
    · rw [if_neg hn]
      split
      · rfl
      · rw [if_neg (by omega)]
        split
        · rfl
        · rw [if_neg (by omega), if_pos (by omega)]

theorem width_pos (s : ByteArray) (a : Nat) (h : a < s.size) : 1 ≤ (Utf8.decode s a).2 := Lib.decode_width_pos s a h

/-- What a rune is, at a place: a byte below 128 is itself, of one byte; else every byte of it is from 128 on, and so is it. -/
theorem dec_parts (s : ByteArray) (a : Nat) (h : a < s.size) :
    (gb s a < 128 ∧ Utf8.decode s a = (gb s a, 1)) ∨
    (128 ≤ gb s a ∧ 128 ≤ (Utf8.decode s a).1 ∧ a + (Utf8.decode s a).2 ≤ s.size ∧ ∀ i, i < (Utf8.decode s a).2 → 128 ≤ gb s (a + i)) := by
  rw [dec_gb]
  have b0 := gb_lt s a
  have key : 128 ≤ gb s a → ∀ k, k ≤ 4 → (1 < k → 128 ≤ gb s (a + 1)) → (2 < k → 128 ≤ gb s (a + 2)) → (3 < k → 128 ≤ gb s (a + 3)) → ∀ i, i < k → 128 ≤ gb s (a + i) := by
    intro hl k hk h1 h2 h3 i hi
    have : i = 0 ∨ i = 1 ∨ i = 2 ∨ i = 3 := by omega
    rcases this with rfl | rfl | rfl | rfl
    · simpa using hl
    · exact h1 (by omega)
    · exact h2 (by omega)
    · exact h3 (by omega)
  by_cases hl : gb s a < 128
  · left
    exact ⟨hl, dec_low _ _ _ _ _ hl⟩
  right
  by_cases hb : gb s a < 194 ∨ 244 < gb s a
  · rw [dec_bad _ _ _ _ _ b0 (by omega)]
    exact ⟨by omega, by simp, by simp only []; omega, key (by omega) _ (by simp) (by simp) (by simp) (by simp)⟩
  obtain ⟨sz, lo, hi, h2, hcz, hlo, hhi, hf, he⟩ := dec_multi (s.size - a) (gb s a) (gb s (a + 1)) (gb s (a + 2)) (gb s (a + 3)) (by omega) (gb_lt _ _) (gb_lt _ _) (gb_lt _ _) (by omega)
  have h1 := gb_lt s (a + 1)
  have h2' := gb_lt s (a + 2)
  have h3 := gb_lt s (a + 3)
  rw [he]
  have hcc := hcz
  unfold cls at hcc
  unfold Lib.slowN
  split
  · exact ⟨by omega, by simp, by simp only []; omega, key (by omega) _ (by simp) (by simp) (by simp) (by simp)⟩
  split
  · exact ⟨by omega, by simp, by simp only []; omega, key (by omega) _ (by simp) (by simp) (by simp) (by simp)⟩
  split
  · exact ⟨by omega, by simp only []; omega, by simp only []; omega, key (by omega) _ (by simp) (fun _ => by omega) (by simp) (by simp)⟩
  split
  · exact ⟨by omega, by simp, by simp only []; omega, key (by omega) _ (by simp) (by simp) (by simp) (by simp)⟩
  split
  · refine ⟨by omega, ?_, by simp only []; omega, key (by omega) _ (by simp) (fun _ => by omega) (fun _ => by omega) (by simp)⟩
    by_cases e : gb s a = 224
    · have this2 := (hf 160).1 (by rw [e]; decide)
      have := (hf 159)
      have hf159 : folB (gb s a) (1 : Nat) (159 : Nat) = false := by rw [e]; decide
      rw [hf159] at this
      simp at this
      simp only []
      omega
    · simp only []
      omega
  split
  · exact ⟨by omega, by simp, by simp only []; omega, key (by omega) _ (by simp) (by simp) (by simp) (by simp)⟩
  · refine ⟨by omega, ?_, by simp only []; omega, key (by omega) _ (by simp) (fun _ => by omega) (fun _ => by omega) (fun _ => by omega)⟩
    by_cases e : gb s a = 240
    · have this2 := (hf 144).1 (by rw [e]; decide)
      have := (hf 143)
      have hf143 : folB (gb s a) (1 : Nat) (143 : Nat) = false := by rw [e]; decide
      rw [hf143] at this
      simp at this
      simp only []
      omega
    · simp only []
      omega

/-- The runes from a place on: one more than behind the first of them. -/
theorem rcf_stable (s : ByteArray) : ∀ f g pos, s.size - pos ≤ f → s.size - pos ≤ g → Lib.runeCountFrom s f pos = Lib.runeCountFrom s g pos
  | 0, g, pos, hf, _ => by rw [Lib.runeCountFrom_end s 0 pos (by omega), Lib.runeCountFrom_end s g pos (by omega)]
  | f + 1, 0, pos, _, hg => by rw [Lib.runeCountFrom_end s _ pos (by omega), Lib.runeCountFrom_end s 0 pos (by omega)]
  | f + 1, g + 1, pos, hf, hg => by
    unfold Lib.runeCountFrom
    by_cases h : pos < s.size
    · rw [if_pos h, if_pos h]
      have := width_pos s pos h
      rw [rcf_stable s f g _ (by omega) (by omega)]
    · rw [if_neg h, if_neg h]
def rcf (s : ByteArray) (pos : Nat) : Nat := Lib.runeCountFrom s s.size pos
theorem rcf_end (s : ByteArray) (pos : Nat) (h : s.size ≤ pos) : rcf s pos = 0 := Lib.runeCountFrom_end s _ pos (by omega)
theorem rcf_next (s : ByteArray) (pos : Nat) (h : pos < s.size) : rcf s pos = 1 + rcf s (pos + (Utf8.decode s pos).2) := by
  unfold rcf
  have hw := width_pos s pos h
  obtain ⟨n, hn⟩ : ∃ n, s.size = n + 1 := ⟨s.size - 1, by omega⟩
  rw [hn]
  conv => lhs; unfold Lib.runeCountFrom
  rw [if_pos h, rcf_stable s n (n + 1) _ (by omega) (by omega)]
theorem rcf_le (s : ByteArray) (pos : Nat) : rcf s pos ≤ s.size - pos := by
  unfold rcf
  rw [rcf_stable s s.size (s.size - pos) pos (by omega) (by omega)]
  exact Lib.runeCountFrom_le s _ _

theorem dec_in (s : ByteArray) (a : Nat) (h : a < s.size) : a + (Utf8.decode s a).2 ≤ s.size := by
  rcases dec_parts s a h with ⟨_, h2⟩ | ⟨_, _, h3, _⟩
  · rw [h2]; exact h
  · exact h3
end Go.Proofs.Ytgdfipmdmgkidaa
