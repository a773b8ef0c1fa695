/- Plain facts on runes: how many bytes a rune has by the document's own reckoning is what the model decodes, and no byte inside a rune is a newline or a space. -/
import Derived.Lib.DecodeN
import Derived.Lib.DecodeNEq
import Derived.Lib.RuneCount
import Derived.Test.YtgdfipmdmgkidaaGreatDoorProg
import Derived.WalkKit
import Derived.WalkSpells
import Derived.WalkLawsBesides
import Derived.WalkSmall
namespace Go.Proofs.YtgdfipmdmgkidaaGreatDoor
def folB (c : Int) (k : Int) (b : Int) : Bool :=
  decide ((if k = 1 ∧ c = 224 then 160 else if k = 1 ∧ c = 240 then 144 else 128) ≤ b ∧ b ≤ (if k = 1 ∧ c = 237 then 159 else if k = 1 ∧ c = 244 then 143 else 191))
def gb (s : ByteArray) (i : Nat) : Nat := (s.get! i).toNat
theorem gb_lt (s : ByteArray) (i : Nat) : gb s i < 256 := UInt8.toNat_lt _
theorem gb_eq (s : ByteArray) (i : Nat) (h : i < s.size) : s[i].toNat = gb s i := by
  have e : s.get! i = s[i]'h := by
    simp [ByteArray.get!, getElem!_pos, h]
    rfl
  rw [gb, e]
def cls (n : Nat) (c : Nat) : Prop :=
  n = 1 ∧ (c < 194 ∨ 244 < c) ∨ n = 2 ∧ 194 ≤ c ∧ c ≤ 223 ∨ n = 3 ∧ 224 ≤ c ∧ c ≤ 239 ∨ n = 4 ∧ 240 ≤ c ∧ c ≤ 244
def okTo (s : ByteArray) (a : Nat) (n : Nat) : Prop := ∀ i : Nat, 1 ≤ i → i < n → a + i < s.size ∧ folB (gb s a) i (gb s (a + i)) = true
theorem dec_gb (s : ByteArray) (a : Nat) : Utf8.decode s a = Lib.decodeN (s.size - a) (gb s a) (gb s (a + 1)) (gb s (a + 2)) (gb s (a + 3)) := Lib.decode_at s a
theorem fol_rest (c k b : Nat) (hk : k ≠ 1) : folB c k b = true ↔ 128 ≤ b ∧ b ≤ 191 := by
  have h : ¬ ((k : Int) = 1) := by omega
  simp only [folB, h, false_and, if_false, decide_eq_true_eq]
  omega
theorem fol_one (c b lo hi : Nat) (hl : (if (c : Int) = 224 then 160 else if (c : Int) = 240 then 144 else (128 : Int)) = lo) (hh : (if (c : Int) = 237 then 159 else if (c : Int) = 244 then 143 else (191 : Int)) = hi) :
    folB c (1 : Nat) b = true ↔ lo ≤ b ∧ b ≤ hi := by
  simp only [folB, Int.natCast_one, true_and, hl, hh, decide_eq_true_eq]
  omega
theorem dec_multi (n c b1 b2 b3 : Nat) (hn : 1 ≤ n) (h1 : b1 < 256) (h2 : b2 < 256) (h3 : b3 < 256) (hc : 194 ≤ c ∧ c ≤ 244) :
    ∃ sz lo hi, 2 ≤ sz ∧ cls sz c ∧ 128 ≤ lo ∧ hi ≤ 191 ∧ (∀ b : Nat, folB c (1 : Nat) b = true ↔ lo ≤ b ∧ b ≤ hi) ∧ Lib.decodeN n c b1 b2 b3 = Lib.slowN n c b1 b2 b3 sz lo hi := by
  have hcl : (194 ≤ c ∧ c < 224) ∨ c = 224 ∨ ((225 ≤ c ∧ c < 237) ∨ (238 ≤ c ∧ c < 240)) ∨ c = 237 ∨ c = 240 ∨ (241 ≤ c ∧ c < 244) ∨ c = 244 := by omega
  rcases hcl with h | h | h | h | h | h | h
  · exact ⟨2, 128, 191, by omega, by unfold cls; omega, by omega, by omega, fun b => fol_one c b 128 191 (by repeat' split <;> omega) (by repeat' split <;> omega), (Lib.slow_C2 n c b1 b2 b3 hn h1 h2 h3 h).symm⟩
  · exact ⟨3, 160, 191, by omega, by unfold cls; omega, by omega, by omega, fun b => fol_one c b 160 191 (by repeat' split <;> omega) (by repeat' split <;> omega), (Lib.slow_E0 n c b1 b2 b3 hn h1 h2 h3 h).symm⟩
  · exact ⟨3, 128, 191, by omega, by unfold cls; omega, by omega, by omega, fun b => fol_one c b 128 191 (by repeat' split <;> omega) (by repeat' split <;> omega), (Lib.slow_E1 n c b1 b2 b3 hn h1 h2 h3 h).symm⟩
  · exact ⟨3, 128, 159, by omega, by unfold cls; omega, by omega, by omega, fun b => fol_one c b 128 159 (by repeat' split <;> omega) (by repeat' split <;> omega), (Lib.slow_ED n c b1 b2 b3 hn h1 h2 h3 h).symm⟩
  · exact ⟨4, 144, 191, by omega, by unfold cls; omega, by omega, by omega, fun b => fol_one c b 144 191 (by repeat' split <;> omega) (by repeat' split <;> omega), (Lib.slow_F0 n c b1 b2 b3 hn h1 h2 h3 h).symm⟩
  · exact ⟨4, 128, 191, by omega, by unfold cls; omega, by omega, by omega, fun b => fol_one c b 128 191 (by repeat' split <;> omega) (by repeat' split <;> omega), (Lib.slow_F1 n c b1 b2 b3 hn h1 h2 h3 h).symm⟩
  · exact ⟨4, 128, 143, by omega, by unfold cls; omega, by omega, by omega, fun b => fol_one c b 128 143 (by repeat' split <;> omega) (by repeat' split <;> omega), (Lib.slow_F4 n c b1 b2 b3 hn h1 h2 h3 h).symm⟩
theorem dec_bad (n c b1 b2 b3 : Nat) (h0 : c < 256) (hc : 128 ≤ c ∧ c < 194 ∨ 244 < c) : Lib.decodeN n c b1 b2 b3 = (65533, 1) := by
  refine Lib.bad_eq n c b1 b2 b3 h0 ?_
  unfold Lib.firstT
  repeat' split
  all_goals omega
theorem dec_low (n c b1 b2 b3 : Nat) (hc : c < 128) : Lib.decodeN n c b1 b2 b3 = (c, 1) := by
  unfold Lib.decodeN
  rw [if_pos hc]
theorem cls_inj {m n c : Nat} (h : cls m c) (k : cls n c) : m = n := by unfold cls at h k; omega
theorem dec_ok (s : ByteArray) (a n : Nat) (h : a < s.size) (hc : cls n (gb s a)) (ho : okTo s a n) : (Utf8.decode s a).2 = n := by
  rw [dec_gb]
  have b0 := gb_lt s a
  by_cases hl : gb s a < 128
  · rw [dec_low _ _ _ _ _ hl]; unfold cls at hc; simp only []; omega
  by_cases hb : gb s a < 194 ∨ 244 < gb s a
  · rw [dec_bad _ _ _ _ _ b0 (by omega)]; unfold cls at hc; simp only []; omega
  obtain ⟨sz, lo, hi, h2, hcz, hlo, hhi, hf, he⟩ := dec_multi (s.size - a) (gb s a) (gb s (a + 1)) (gb s (a + 2)) (gb s (a + 3)) (by omega) (gb_lt _ _) (gb_lt _ _) (gb_lt _ _) (by omega)
  obtain rfl := cls_inj hc hcz
  have hn4 : n ≤ 4 := by unfold cls at hc; omega
  rw [he]
  have o1 := ho 1 (by omega) (by omega)
  rw [hf] at o1
  unfold Lib.slowN
  by_cases h3 : 3 ≤ n
  · have o2 := ho 2 (by omega) (by omega)
    rw [fol_rest _ _ _ (by omega)] at o2
    by_cases h4 : 4 ≤ n
    · have o3 := ho 3 (by omega) (by omega)
      rw [fol_rest _ _ _ (by omega)] at o3
      rw [if_neg (by omega), if_neg (by omega), if_neg (by omega), if_neg (by omega), if_neg (by omega), if_neg (by omega)]
      simp only []; omega
    · rw [if_neg (by omega), if_neg (by omega), if_neg (by omega), if_neg (by omega), if_pos (by omega)]
      simp only []; omega
  · rw [if_neg (by omega), if_neg (by omega), if_pos (by omega)]
    simp only []; omega
theorem width_pos (s : ByteArray) (a : Nat) (h : a < s.size) : 1 ≤ (Utf8.decode s a).2 := Lib.decode_width_pos s a h
theorem dec_parts (s : ByteArray) (a : Nat) (h : a < s.size) :
    (gb s a < 128 ∧ Utf8.decode s a = (gb s a, 1)) ∨
    (128 ≤ gb s a ∧ 128 ≤ (Utf8.decode s a).1 ∧ a + (Utf8.decode s a).2 ≤ s.size ∧ ∀ i, i < (Utf8.decode s a).2 → 128 ≤ gb s (a + i)) := by
  rw [dec_gb]
  have b0 := gb_lt s a
  have key : 128 ≤ gb s a → ∀ k, k ≤ 4 → (1 < k → 128 ≤ gb s (a + 1)) → (2 < k → 128 ≤ gb s (a + 2)) → (3 < k → 128 ≤ gb s (a + 3)) → ∀ i, i < k → 128 ≤ gb s (a + i) := by
    intro hl k hk h1 h2 h3 i hi
    have : i = 0 ∨ i = 1 ∨ i = 2 ∨ i = 3 := by omega
    rcases this with rfl | rfl | rfl | rfl
    · simpa using hl
    · exact h1 (by omega)
    · exact h2 (by omega)
    · exact h3 (by omega)
  by_cases hl : gb s a < 128
  · left
    exact ⟨hl, dec_low _ _ _ _ _ hl⟩
  right
  by_cases hb : gb s a < 194 ∨ 244 < gb s a
  · rw [dec_bad _ _ _ _ _ b0 (by omega)]
    exact ⟨by omega, by simp, by simp only []; omega, key (by omega) _ (by simp) (by simp) (by simp) (by simp)⟩
  obtain ⟨sz, lo, hi, h2, hcz, hlo, hhi, hf, he⟩ := dec_multi (s.size - a) (gb s a) (gb s (a + 1)) (gb s (a + 2)) (gb s (a + 3)) (by omega) (gb_lt _ _) (gb_lt _ _) (gb_lt _ _) (by omega)
  have h1 := gb_lt s (a + 1)
  have h2' := gb_lt s (a + 2)
  have h3 := gb_lt s (a + 3)
  rw [he]
  have hcc := hcz
  unfold cls at hcc
  unfold Lib.slowN
  split
  · exact ⟨by omega, by simp, by simp only []; omega, key (by omega) _ (by simp) (by simp) (by simp) (by simp)⟩
  split
  · exact ⟨by omega, by simp, by simp only []; omega, key (by omega) _ (by simp) (by simp) (by simp) (by simp)⟩
  split
  · exact ⟨by omega, by simp only []; omega, by simp only []; omega, key (by omega) _ (by simp) (fun _ => by omega) (by simp) (by simp)⟩
  split
  · exact ⟨by omega, by simp, by simp only []; omega, key (by omega) _ (by simp) (by simp) (by simp) (by simp)⟩
  split
  · refine ⟨by omega, ?_, by simp only []; omega, key (by omega) _ (by simp) (fun _ => by omega) (fun _ => by omega) (by simp)⟩
    by_cases e : gb s a = 224
    · have this2 := (hf 160).1 (by rw [e]; decide)
      have := (hf 159)
      have hf159 : folB (gb s a) (1 : Nat) (159 : Nat) = false := by rw [e]; decide
      rw [hf159] at this
      simp at this
      simp only []
      omega
    · simp only []
      omega
  split
  · exact ⟨by omega, by simp, by simp only []; omega, key (by omega) _ (by simp) (by simp) (by simp) (by simp)⟩
  · refine ⟨by omega, ?_, by simp only []; omega, key (by omega) _ (by simp) (fun _ => by omega) (fun _ => by omega) (fun _ => by omega)⟩
    by_cases e : gb s a = 240
    · have this2 := (hf 144).1 (by rw [e]; decide)
      have := (hf 143)
      have hf143 : folB (gb s a) (1 : Nat) (143 : Nat) = false := by rw [e]; decide
      rw [hf143] at this
      simp at this
      simp only []
      omega
    · simp only []
      omega
theorem rcf_stable (s : ByteArray) : ∀ f g pos, s.size - pos ≤ f → s.size - pos ≤ g → Lib.runeCountFrom s f pos = Lib.runeCountFrom s g pos
  | 0, g, pos, hf, _ => by rw [Lib.runeCountFrom_end s 0 pos (by omega), Lib.runeCountFrom_end s g pos (by omega)]
  | f + 1, 0, pos, _, hg => by rw [Lib.runeCountFrom_end s _ pos (by omega), Lib.runeCountFrom_end s 0 pos (by omega)]
  | f + 1, g + 1, pos, hf, hg => by
    unfold Lib.runeCountFrom
    by_cases h : pos < s.size
    · rw [if_pos h, if_pos h]
      have := width_pos s pos h
      rw [rcf_stable s f g _ (by omega) (by omega)]
    · rw [if_neg h, if_neg h]
def rcf (s : ByteArray) (pos : Nat) : Nat := Lib.runeCountFrom s s.size pos
theorem rcf_end (s : ByteArray) (pos : Nat) (h : s.size ≤ pos) : rcf s pos = 0 := Lib.runeCountFrom_end s _ pos (by omega)
theorem rcf_next (s : ByteArray) (pos : Nat) (h : pos < s.size) : rcf s pos = 1 + rcf s (pos + (Utf8.decode s pos).2) := by
  unfold rcf
  have hw := width_pos s pos h
  obtain ⟨n, hn⟩ : ∃ n, s.size = n + 1 := ⟨s.size - 1, by omega⟩
  rw [hn]
  conv => lhs; unfold Lib.runeCountFrom
  rw [if_pos h, rcf_stable s n (n + 1) _ (by omega) (by omega)]
end Go.Proofs.YtgdfipmdmgkidaaGreatDoor
/- Plain facts on texts: pieces of a text, a text without its last newline, and the lines of a text. -/
namespace Go.Proofs.YtgdfipmdmgkidaaGreatDoor
theorem gb_out (s : ByteArray) (i : Nat) (h : s.size ≤ i) : gb s i = 0 := by
  unfold gb
  have : s.get! i = 0 := by
    show s.data[i]! = 0
    rw [getElem!_neg _ _ (by show ¬ i < s.data.size; show ¬ i < s.size; omega)]
    rfl
  rw [this]
  rfl
theorem size_ex (s : ByteArray) (i j : Nat) (hj : j ≤ s.size) : (s.extract i j).size = j - i := by
  rw [ByteArray.size_extract]; omega
theorem gb_ex (s : ByteArray) (i j k : Nat) (hj : j ≤ s.size) (hk : k < j - i) : gb (s.extract i j) k = gb s (i + k) := by
  have h1 : k < (s.extract i j).size := by rw [size_ex s i j hj]; exact hk
  rw [← gb_eq _ _ h1, ← gb_eq s (i + k) (by omega)]
  simp [ByteArray.getElem_extract]
theorem ext_gb {s t : ByteArray} (hs : s.size = t.size) (h : ∀ i, i < s.size → gb s i = gb t i) : s = t := by
  apply ByteArray.ext_getElem hs
  intro i h1 h2
  have := h i h1
  rw [← gb_eq s i h1, ← gb_eq t i h2] at this
  exact UInt8.toNat_inj.1 this
def trimNL (s : ByteArray) : ByteArray := if 1 ≤ s.size ∧ gb s (s.size - 1) = 10 then s.extract 0 (s.size - 1) else s
theorem toList_loop (bs : ByteArray) : ∀ (n i : Nat) (r : List UInt8), bs.size - i = n → ByteArray.toList.loop bs i r = r.reverse ++ bs.data.toList.drop i
  | 0, i, r, h => by
    rw [ByteArray.toList.loop, if_neg (by omega), List.drop_of_length_le (by show bs.data.toList.length ≤ i; rw [Array.length_toList]; show bs.size ≤ i; omega), List.append_nil]
  | n + 1, i, r, h => by
    have hi : i < bs.size := by omega
    rw [ByteArray.toList.loop, if_pos hi, toList_loop bs n (i + 1) _ (by omega)]
    have hl : i < bs.data.toList.length := by rw [Array.length_toList]; exact hi
    rw [List.drop_eq_getElem_cons hl]
    have : bs.get! i = bs.data.toList[i] := by
      show bs.data[i]! = _
      rw [getElem!_pos bs.data i hi]
      simp
    rw [this]
    simp
theorem toList_data (bs : ByteArray) : bs.toList = bs.data.toList := by
  rw [ByteArray.toList, toList_loop bs _ 0 [] rfl]
  simp
theorem last_list (s : ByteArray) (h : 1 ≤ s.size) : ((s.extract (s.size - 1) s.size).toList == [10]) = decide (gb s (s.size - 1) = 10) := by
  have e : s.extract (s.size - 1) s.size = ⟨#[s[s.size - 1]'(by omega)]⟩ := by
    apply ext_gb
    · rw [size_ex _ _ _ (Nat.le_refl _)]; show s.size - (s.size - 1) = 1; omega
    · intro i hi
      rw [size_ex _ _ _ (Nat.le_refl _)] at hi
      have : i = 0 := by omega
      subst this
      rw [gb_ex _ _ _ _ (Nat.le_refl _) hi, Nat.add_zero, ← gb_eq s (s.size - 1) (by omega)]
      rfl
  rw [e]
  have e2 : (⟨#[s[s.size - 1]'(by omega)]⟩ : ByteArray).toList = [s[s.size - 1]'(by omega)] := by
    rw [toList_data]
  rw [e2, ← gb_eq s (s.size - 1) (by omega)]
  rw [Bool.eq_iff_iff]
  simp [← UInt8.toNat_inj]
def lineRunes (s : ByteArray) : Nat := rcf (trimNL s) 0
def stTo (s : ByteArray) : Nat → List ByteArray × Nat
  | 0 => ([], 0)
  | i + 1 => if gb s i = 10 then ((stTo s i).1 ++ [s.extract (stTo s i).2 (i + 1)], i + 1) else stTo s i
def cutAll (s : ByteArray) : List ByteArray := if (stTo s s.size).2 < s.size then (stTo s s.size).1 ++ [s.extract (stTo s s.size).2 s.size] else (stTo s s.size).1
theorem stTo_nl {s : ByteArray} {i : Nat} (h : gb s i = 10) : stTo s (i + 1) = ((stTo s i).1 ++ [s.extract (stTo s i).2 (i + 1)], i + 1) := by
  rw [stTo, if_pos h]
theorem stTo_no {s : ByteArray} {i : Nat} (h : gb s i ≠ 10) : stTo s (i + 1) = stTo s i := by
  rw [stTo, if_neg h]
theorem stTo_le (s : ByteArray) : ∀ i, (stTo s i).2 ≤ i ∧ (stTo s i).1.length ≤ i
  | 0 => ⟨Nat.le_refl _, Nat.le_refl _⟩
  | i + 1 => by
    have ih := stTo_le s i
    by_cases h : gb s i = 10
    · rw [stTo_nl h]; simp only [List.length_append, List.length_cons, List.length_nil]; omega
    · rw [stTo_no h]; omega
theorem stTo_room (s : ByteArray) : ∀ i, (stTo s i).1.length ≤ (stTo s i).2
  | 0 => Nat.le_refl _
  | i + 1 => by
    have ih := stTo_room s i
    have := (stTo_le s i).1
    by_cases h : gb s i = 10
    · rw [stTo_nl h]; simp only [List.length_append, List.length_cons, List.length_nil]; omega
    · rw [stTo_no h]; omega
theorem stTo_skip (s : ByteArray) (p : Nat) : ∀ k, (∀ i, i < k → gb s (p + i) ≠ 10) → stTo s (p + k) = stTo s p
  | 0, _ => rfl
  | k + 1, h => by
    rw [← Nat.add_assoc, stTo_no (h k (by omega))]
    exact stTo_skip s p k fun i hi => h i (by omega)
theorem stTo_each (s : ByteArray) : ∀ i, i ≤ s.size → ∀ l ∈ (stTo s i).1, 1 ≤ l.size ∧ l.size ≤ s.size
  | 0, _, l, h => by simp [stTo] at h
  | i + 1, hi, l, h => by
    by_cases hb : gb s i = 10
    · rw [stTo_nl hb] at h
      rcases List.mem_append.1 h with h | h
      · exact stTo_each s i (by omega) l h
      · have := (stTo_le s i).1
        rw [List.mem_singleton.1 h, size_ex _ _ _ hi]; omega
    · rw [stTo_no hb] at h
      exact stTo_each s i (by omega) l h
theorem cutAll_each (s : ByteArray) : ∀ l ∈ cutAll s, 1 ≤ l.size ∧ l.size ≤ s.size := by
  intro l h
  unfold cutAll at h
  split at h
  · rcases List.mem_append.1 h with h | h
    · exact stTo_each s _ (Nat.le_refl _) l h
    · rw [List.mem_singleton.1 h, size_ex _ _ _ (Nat.le_refl _)]; omega
  · exact stTo_each s _ (Nat.le_refl _) l h
theorem cutAll_len (s : ByteArray) : (cutAll s).length ≤ s.size := by
  have h1 := stTo_room s s.size
  have h2 := stTo_le s s.size
  unfold cutAll
  split
  · simp only [List.length_append, List.length_cons, List.length_nil]; omega
  · exact h2.2
theorem dec_at_low (s : ByteArray) (p : Nat) (h : p < s.size) (hl : gb s p < 128) : Utf8.decode s p = (gb s p, 1) := by
  rcases dec_parts s p h with h | h
  · exact h.2
  · omega
theorem dec_not (s : ByteArray) (p c : Nat) (h : p < s.size) (hc : c < 128) (hn : gb s p ≠ c) :
    ∃ r k : Nat, Utf8.decode s p = (r, k) ∧ r ≠ c ∧ 1 ≤ k ∧ p + k ≤ s.size ∧ ∀ i, i < k → gb s (p + i) ≠ c := by
  rcases dec_parts s p h with ⟨h1, h2⟩ | ⟨h1, h2, h3, h4⟩
  · refine ⟨_, _, h2, hn, Nat.le_refl _, h, fun i hi => ?_⟩
    have : i = 0 := by omega
    subst this
    exact hn
  · exact ⟨(Utf8.decode s p).1, (Utf8.decode s p).2, rfl, by omega, width_pos s p h, h3, fun i hi => by have := h4 i hi; omega⟩
end Go.Proofs.YtgdfipmdmgkidaaGreatDoor

/- The contracts of the runes' functions of the statement's own document: how many bytes a rune has, and how many runes a text has. -/
set_option maxHeartbeats 1600000
set_option maxRecDepth 100000
namespace Go.Proofs.YtgdfipmdmgkidaaGreatDoor
open Go.RowKit
theorem hid {p : Prop} (h : p) : RowKit.Hid p := h
theorem ret_bool {a b : Bool} (h : a = b) : Ending.returned (.bool a) = .returned (.bool b) := by rw [h]
theorem ret_int {k : IntKind} {a b : Int} (h : a = b) : Ending.returned (.int k a) = .returned (.int k b) := by rw [h]
theorem follows_any (c k b : Int) (w : World) :
    Calls Tryz.prog 238 #[.int .u8 c, .int .i64 k, .int .u8 b] w fun e w' => e = .returned (.bool (folB c k b)) ∧ w' = w := by
  go_enter Tryz.func238, Tryz.ntmps238
  go_wp2
  all_goals
    go_ret
    refine ⟨ret_bool ?_, rfl⟩
    rw [Bool.eq_iff_iff]
    simp only [folB, decide_eq_true_eq]
    simp_all
    try omega
theorem okTo_one (s : ByteArray) (a : Nat) : okTo s a 1 := fun i h1 h2 => by omega
theorem size_1 (s : ByteArray) (a : Nat) (w : World) (h : a < s.size) (_hs : s.size ≤ maxLen) (h1 : s[a].toNat < 194 ∨ 244 < s[a].toNat) :
    Calls Tryz.prog 201 #[.string s, .int .i64 a] w fun e w' => e = .returned (.int .i64 (Utf8.decode s a).2) ∧ w' = w := by
  have HC : Hid (cls 1 (gb s a)) := by rw [gb_eq s a h] at h1; unfold cls; show _ ∨ _; omega
  rcases h1 with h1 | h1
  all_goals
    go_enter Tryz.func201, Tryz.ntmps201
    go_wp2
    refine wp_loop_rounds 1 ?_
    rw [rounds_succ]
    go_wp2
    go_ret
    exact ⟨ret_int (by rw [dec_ok s a 1 h HC.out (okTo_one s a)]; rfl), rfl⟩
end Go.Proofs.YtgdfipmdmgkidaaGreatDoor
/- The contracts of the program's own counting of runes: whether a text has more of them than it may have, and whether a line is too long. -/
namespace Go.Proofs.YtgdfipmdmgkidaaGreatDoor
open Go.RowKit
theorem over_any (s : ByteArray) (most : Nat) (w : World) (hm : most ≤ 1000000) :
    Calls Tryz.prog 63 #[.string s, .int .i64 most] w fun e w' => e = .returned (.bool (decide (most < rcf s 0))) ∧ ∃ pos, w' = w.iter s pos := by
  go_enter Tryz.func63, Tryz.ntmps63
  go_wp2
  go_loopw [5] (fun n w' => ∃ (pos k : Nat), w' = w.iter s pos ∧ n = .int .i64 k ∧ k ≤ most ∧ k + rcf s pos = rcf s 0) (fun _ w' => s.size - w'.iterPos w.heap.size)
  case atStart => exact ⟨0, 0, rfl, rfl, Nat.zero_le _, by omega⟩
  case round =>
    obtain ⟨pos, k, rfl, rfl, hk, hr⟩ := hrel
    have HR := hid hr
    clear hr
    by_cases hp : pos < s.size
    · have hnx : ∀ ty, (Instr.next (.pointer (some ⟨w.heap.size, 0, none⟩)) true ty).run Tryz.prog (w.iter s pos) = _ := fun ty => run_next_any w s pos ty hp
      have hwd := width_pos s pos hp
      by_cases hlt : most < k + 1
      · go_wp2
        go_ret
        exact ⟨ret_bool (by have := rcf_next s pos hp; have := HR.out; symm; rw [decide_eq_true_eq]; omega), _, rfl⟩
      · go_wp2
        go_roundw
        case rel => exact ⟨pos + (Utf8.decode s pos).2, k + 1, rfl, by go_num, by omega, by have := rcf_next s pos hp; have := HR.out; omega⟩
        case measure => simp; omega
    · have hnx : ∀ ty, (Instr.next (.pointer (some ⟨w.heap.size, 0, none⟩)) true ty).run Tryz.prog (w.iter s pos) = _ := fun ty => run_next_end w s pos ty hp
      go_wp2
      go_ret
      exact ⟨ret_bool (by have := rcf_end s pos (by omega); have := HR.out; symm; rw [decide_eq_false_iff_not]; omega), _, rfl⟩
theorem trim_yes (s : ByteArray) (h1 : 1 ≤ (s.size : Int)) (h : ((s.extract (s.size - 1) s.size).toList == [10]) = true) : s.extract 0 (s.size - 1) = trimNL s := by
  rw [last_list s (by omega), decide_eq_true_eq] at h
  unfold trimNL
  rw [if_pos ⟨by omega, h⟩]
theorem trim_no (s : ByteArray) (h1 : 1 ≤ (s.size : Int)) (h : ((s.extract (s.size - 1) s.size).toList == [10]) = false) : s = trimNL s := by
  rw [last_list s (by omega), decide_eq_false_iff_not] at h
  unfold trimNL
  rw [if_neg (by intro hh; exact h hh.2)]
theorem trim_none (s : ByteArray) (h1 : (s.size : Int) < 1) : s = trimNL s := by
  unfold trimNL
  rw [if_neg (by omega)]
theorem ret_string {a b : ByteArray} (h : a = b) : Ending.returned (.string a) = .returned (.string b) := by rw [h]
theorem trim_any (s : ByteArray) (w : World) (hs : s.size ≤ maxLen) :
    Calls Tryz.prog 172 #[.string s, .string ⟨#[10]⟩] w fun e w' => e = .returned (.string (trimNL s)) ∧ w' = w := by
  unfold maxLen at hs
  go_enter Tryz.func172, Tryz.ntmps172
  go_wp2
  all_goals go_ret
  · exact ⟨ret_string (trim_yes s ‹_› ‹_›), rfl⟩
  · exact ⟨ret_string (trim_no s ‹_› ‹_›), rfl⟩
  · exact ⟨ret_string (trim_none s ‹_›), rfl⟩
theorem isLong_any (s : ByteArray) (w : World) (hs : s.size ≤ maxLen) :
    Calls Tryz.prog 105 #[.string s] w fun e w' => e = .returned (.bool (decide (12 < lineRunes s))) ∧ Below w.heap.size w w' := by
  go_enter Tryz.func105, Tryz.ntmps105
  go_wp2_with (first
    | (go_at_call 172; refine (trim_any _ _ hs).mono ?_; rintro e w' ⟨rfl, rfl⟩)
    | (go_at_call 63; refine (over_any _ 12 _ (by omega)).mono ?_; rintro e w' ⟨rfl, pos, rfl⟩))
  go_ret
  exact ⟨rfl, (Below.refl _ _).alloc (Nat.le_refl _) _⟩
end Go.Proofs.YtgdfipmdmgkidaaGreatDoor
/- The contracts of the two ways to cut a text into its lines: the program's by runes, the document's by bytes. -/
namespace Go.Proofs.YtgdfipmdmgkidaaGreatDoor
open Go.RowKit
theorem Tryz.info9 : (Tryz.prog.info? 9).map (fun i => (i.zero, i.size, i.bytes)) = some (some (.string ⟨#[]⟩), 1, 16) := by kernel_rfl
abbrev strs (L : List ByteArray) : List Value := L.map Value.string
theorem strs_one (L : List ByteArray) : ∀ u ∈ strs L, u.oneCell' = true := by
  intro u hu
  obtain ⟨_, _, rfl⟩ := List.mem_map.1 hu
  rfl
theorem strs_length (L : List ByteArray) : (strs L).length = L.length := by simp
theorem strs_snoc (L : List ByteArray) (x : ByteArray) : strs L ++ [.string x] = strs (L ++ [x]) := by simp
theorem new_one (w : World) (v : Value) (t : TypeId) : ∀ j u, [v][j]? = some u → (w.alloc (.cells #[v] t)).cell? ((⟨w.heap.size, 0, none⟩ : Addr).add j) = some u := by
  intro j u hj
  match j, hj with
  | 0, hj => simp at hj; subst hj; simp [Addr.add]
  | j + 1, hj => simp at hj
theorem step_own {B B' : Nat} {w wr w1 : World} {v v' : Value} {L : List ByteArray} {x : ByteArray} {o : Obj} (hB : B ≤ B') (hown : wr.ownsRow B' 9 1 v L.length (strs L)) (hbw : Below B w wr) (hsz : B ≤ wr.heap.size)
    (hown' : w1.ownsRow B' 9 1 v' (L.length + 1) (strs L ++ [.string x])) (hg : (wr.alloc o).grownBy w1 v.ownBlock) :
    w1.ownsRow B' 9 1 v' (L ++ [x]).length (strs (L ++ [x])) ∧ Below B w w1 ∧ (∀ k, k < B' → k < wr.heap.size → w1.heap[k]? = wr.heap[k]?) := by
  have hlt := hown.lt
  refine ⟨by rw [strs_snoc] at hown'; simpa using hown', (hbw.alloc hsz o).grown hg (by simp; omega) (fun k hk => by have := hlt k hk; omega), fun k h1 h2 => ?_⟩
  rw [hg.block k (by simp; omega) (fun e => by have := hlt k e.symm; omega)]
  exact Below.heap_alloc _ _ _ h2
theorem cut_end {s : ByteArray} {L : List ByteArray} {q : Nat} (h : stTo s s.size = (L, q)) (hq : q < s.size) : cutAll s = L ++ [s.extract q s.size] := by
  unfold cutAll; rw [h]; exact if_pos hq
theorem cut_end0 {s : ByteArray} {L : List ByteArray} {q : Nat} (h : stTo s s.size = (L, q)) (hq : ¬ q < s.size) : cutAll s = L := by
  unfold cutAll; rw [h]; exact if_neg hq
theorem cut22_any (s : ByteArray) (w : World) (hs : s.size ≤ 100000) :
    Calls Tryz.prog 162 #[.string s] w fun e w' => ∃ v, e = .returned v ∧ w'.ownsRow w.heap.size 9 1 v (cutAll s).length (strs (cutAll s)) ∧ Below w.heap.size w w' := by
  obtain ⟨i0, hi, hz0, hz1, hz2⟩ := info_parts Tryz.info9
  go_enter Tryz.func162, Tryz.ntmps162
  go_wp2
  go_loopw [3, 4, 5] (fun v st i wr => ∃ (p q : Nat) (L : List ByteArray), p ≤ s.size ∧ i = .int .i64 p ∧ st = .int .i64 q ∧ Hid (stTo s p = (L, q)) ∧ wr.ownsRow w.heap.size 9 1 v L.length (strs L) ∧ Below w.heap.size w wr) (fun _ _ i _ => s.size - (intOf i).toNat)
  case atStart => exact ⟨0, 0, [], Nat.zero_le _, rfl, rfl, rfl, World.ownsRow_nil _ _ _ _, Below.refl _ _⟩
  case round =>
    obtain ⟨p, q, L, hp, rfl, rfl, HS, hown, hbw⟩ := hrel
    have hq : q ≤ p := by have := (stTo_le s p).1; rw [HS.out] at this; exact this
    have hLq : L.length ≤ p := by have := (stTo_le s p).2; rw [HS.out] at this; exact this
    have hsz : w.heap.size ≤ wr.heap.size := hbw.size
    by_cases hlt : p < s.size
    · by_cases h10 : s[p].toNat = 10
      · have hb : (((s[p].toNat : Nat) : Int) == 10) = true := by rw [h10]; rfl
        have HB : Hid (gb s p = 10) := by rw [← gb_eq s p hlt]; exact h10
        clear h10
        go_wp2_with (at_builtin; refine wpList_append_own _ rfl _ _ 35 rfl w.heap.size 9 i0 (.string ⟨#[]⟩) 1 16 Tryz.underlying35 hi hz0 hz1 hz2 rfl (by decide) _ _ _ rfl (hown.alloc _) ⟨wr.heap.size, 0, none⟩ 1 1 [.string (s.extract q (p + 1))] rfl rfl ?c1 ?c2 ?c3 ?c4 ?c5 ?_)
        case c1 => exact new_one _ _ _
        case c2 => exact strs_one [_]
        case c3 => unfold maxLen; omega
        case c4 => omega
        case c5 => simp; omega
        intro v' w1 hown' hg _
        have R := step_own (Nat.le_refl _) hown hbw hsz hown' hg
        clear hown' hg hown hbw
        go_wp2
        go_roundw
        case rel => exact ⟨p + 1, p + 1, L ++ [s.extract q (p + 1)], by omega, by go_num, by go_num, by show _ = _; rw [stTo_nl HB.out, HS.out], R.1, R.2.1⟩
        case measure => simp [intOf]; omega
      · have hb : (((s[p].toNat : Nat) : Int) == 10) = false := by rw [beq_eq_false_iff_ne]; omega
        have HB : Hid (gb s p ≠ 10) := by rw [← gb_eq s p hlt]; exact h10
        clear h10
        go_wp2
        go_roundw
        case rel => exact ⟨p + 1, q, L, by omega, by go_num, rfl, by show _ = _; rw [stTo_no HB.out, HS.out], hown, hbw⟩
        case measure => simp [intOf]; omega
    · have hps : Hid (p = s.size) := by show _ = _; omega
      by_cases hql : q < s.size
      · go_wp2_with (at_builtin; refine wpList_append_own _ rfl _ _ 35 rfl w.heap.size 9 i0 (.string ⟨#[]⟩) 1 16 Tryz.underlying35 hi hz0 hz1 hz2 rfl (by decide) _ _ _ rfl (hown.alloc _) ⟨wr.heap.size, 0, none⟩ 1 1 [.string (s.extract q s.size)] rfl rfl ?d1 ?d2 ?d3 ?d4 ?d5 ?_)
        case d1 => exact new_one _ _ _
        case d2 => exact strs_one [_]
        case d3 => unfold maxLen; omega
        case d4 => omega
        case d5 => simp; omega
        intro v' w1 hown' hg _
        have R := step_own (Nat.le_refl _) hown hbw hsz hown' hg
        clear hown' hg hown hbw
        go_wp2
        go_ret
        have e := HS.out
        rw [hps.out] at e
        rw [cut_end e hql]
        exact ⟨_, rfl, R.1, R.2.1⟩
      · go_wp2
        go_ret
        have e := HS.out
        rw [hps.out] at e
        rw [cut_end0 e hql]
        exact ⟨_, rfl, hown, hbw⟩
theorem ownsRow_mono {w : World} {B B' : Nat} {e : TypeId} {size : Nat} {v : Value} {n : Nat} {xs : List Value} (h : w.ownsRow B' e size v n xs) (hB : B ≤ B') : w.ownsRow B e size v n xs := by
  refine ⟨h.1, ?_⟩
  rcases h.2 with h2 | ⟨g, cap, cur, a, b, c⟩
  · exact .inl h2
  · exact .inr ⟨g, cap, cur, a, by omega, c⟩
theorem cut19_any (s : ByteArray) (w : World) (hs : s.size ≤ 100000) :
    Calls Tryz.prog 103 #[.string s] w fun e w' => ∃ v, e = .returned v ∧ w'.ownsRow w.heap.size 9 1 v (cutAll s).length (strs (cutAll s)) ∧ Below w.heap.size w w' := by
  obtain ⟨i0, hi, hz0, hz1, hz2⟩ := info_parts Tryz.info9
  go_enter Tryz.func103, Tryz.ntmps103
  go_wp2
  go_loopw [3, 4] (fun v st wr => ∃ (p q : Nat) (L : List ByteArray), p ≤ s.size ∧ st = .int .i64 q ∧ Hid (stTo s p = (L, q)) ∧ wr.ownsRow (w.heap.size + 1) 9 1 v L.length (strs L) ∧ Below w.heap.size w wr ∧ wr.heap[w.heap.size]? = some (.stringIter s p)) (fun _ _ wr => s.size - wr.iterPos w.heap.size)
  case atStart => exact ⟨0, 0, [], Nat.zero_le _, rfl, rfl, World.ownsRow_nil _ _ _ _, (Below.refl _ _).alloc (Nat.le_refl _) _, World.iter_heap w s 0⟩
  case round =>
    obtain ⟨p, q, L, hp, rfl, HS, hown, hbw, hit⟩ := hrel
    have hq : q ≤ p := by have := (stTo_le s p).1; rw [HS.out] at this; exact this
    have hLq : L.length ≤ p := by have := (stTo_le s p).2; rw [HS.out] at this; exact this
    have hsz : w.heap.size < wr.heap.size := (Array.getElem?_eq_some_iff.1 hit).1
    by_cases hlt : p < s.size
    · by_cases h10 : gb s p = 10
      · have hnx : ∀ ty, (Instr.next (.pointer (some ⟨w.heap.size, 0, none⟩)) true ty).run Tryz.prog wr = .ok (.tuple #[.bool true, .int .i64 p, .int .i32 10]) (wr.iterAt w.heap.size s (p + 1)) := fun ty => by
          rw [Lib.run_next_any_at wr w.heap.size s p ty hit hlt, dec_at_low s p hlt (by omega), h10]; rfl
        have HB := hid h10
        clear h10
        have hown1 := ownsRow_iterAt hown (k := w.heap.size) (by omega) s (p + 1)
        have hbw1 := Lib.below_iterAt hbw (k := w.heap.size) (Nat.le_refl _) s (p + 1)
        have hit1 := Lib.iterAt_heap wr w.heap.size s p (p + 1) hit
        have hsz1 : w.heap.size < (wr.iterAt w.heap.size s (p + 1)).heap.size := by rw [Lib.iterAt_size]; exact hsz
        have HM := hid (iterPos_of hit)
        clear hit hown hbw
        obtain ⟨wq, hwq⟩ : ∃ wq, wr.iterAt w.heap.size s (p + 1) = wq := ⟨_, rfl⟩
        rw [hwq] at hown1 hbw1 hit1 hsz1 hnx
        clear hwq
        go_wp2_with (at_builtin; refine wpList_append_own _ rfl _ _ 35 rfl (w.heap.size + 1) 9 i0 (.string ⟨#[]⟩) 1 16 Tryz.underlying35 hi hz0 hz1 hz2 rfl (by decide) _ _ _ rfl (hown1.alloc _) ⟨wq.heap.size, 0, none⟩ 1 1 [.string (s.extract q (p + 1))] rfl rfl ?c1 ?c2 ?c3 ?c4 ?c5 ?_)
        case c1 => exact new_one _ _ _
        case c2 => exact strs_one [_]
        case c3 => unfold maxLen; omega
        case c4 => omega
        case c5 => simp; omega
        intro v' w1 hown' hg _
        have R := step_own (Nat.le_succ _) hown1 hbw1 (by omega) hown' hg
        clear hown' hg hown1 hbw1 hnx
        have hit2 := (R.2.2 w.heap.size (by omega) hsz1).trans hit1
        go_wp2
        go_roundw
        case rel => exact ⟨p + 1, p + 1, L ++ [s.extract q (p + 1)], by omega, by go_num, by show _ = _; rw [stTo_nl HB.out, HS.out], R.1, R.2.1, hit2⟩
        case measure => rw [iterPos_of hit2, HM.out]; omega
      · obtain ⟨r, k, hdec, hr, hk, hin, hall⟩ := dec_not s p 10 hlt (by omega) h10
        have hnx : ∀ ty, (Instr.next (.pointer (some ⟨w.heap.size, 0, none⟩)) true ty).run Tryz.prog wr = .ok (.tuple #[.bool true, .int .i64 p, .int .i32 r]) (wr.iterAt w.heap.size s (p + k)) := fun ty => by
          rw [Lib.run_next_any_at wr w.heap.size s p ty hit hlt, hdec]
        have hb : ((r : Int) == 10) = false := by rw [beq_eq_false_iff_ne]; omega
        have HB := hid (stTo_skip s p k hall)
        clear h10 hdec hall
        have hown1 := ownsRow_iterAt hown (k := w.heap.size) (by omega) s (p + k)
        have hbw1 := Lib.below_iterAt hbw (k := w.heap.size) (Nat.le_refl _) s (p + k)
        have hit1 := Lib.iterAt_heap wr w.heap.size s p (p + k) hit
        have HM := hid (iterPos_of hit)
        clear hit hown hbw
        obtain ⟨wq, hwq⟩ : ∃ wq, wr.iterAt w.heap.size s (p + k) = wq := ⟨_, rfl⟩
        rw [hwq] at hown1 hbw1 hit1 hnx
        clear hwq
        go_wp2
        go_roundw
        case rel => exact ⟨p + k, q, L, hin, rfl, by show _ = _; rw [HB.out, HS.out], hown1, hbw1, hit1⟩
        case measure => rw [iterPos_of hit1, HM.out]; omega
    · have hnx : ∀ ty, (Instr.next (.pointer (some ⟨w.heap.size, 0, none⟩)) true ty).run Tryz.prog wr = .ok (.tuple #[.bool false]) wr := fun ty => Lib.run_next_end_at wr w.heap.size s p ty hit hlt
      have hps : Hid (p = s.size) := by show _ = _; omega
      by_cases hql : q < s.size
      · go_wp2_with (at_builtin; refine wpList_append_own _ rfl _ _ 35 rfl (w.heap.size + 1) 9 i0 (.string ⟨#[]⟩) 1 16 Tryz.underlying35 hi hz0 hz1 hz2 rfl (by decide) _ _ _ rfl (hown.alloc _) ⟨wr.heap.size, 0, none⟩ 1 1 [.string (s.extract q s.size)] rfl rfl ?d1 ?d2 ?d3 ?d4 ?d5 ?_)
        case d1 => exact new_one _ _ _
        case d2 => exact strs_one [_]
        case d3 => unfold maxLen; omega
        case d4 => omega
        case d5 => simp; omega
        intro v' w1 hown' hg _
        have R := step_own (Nat.le_succ _) hown hbw (by omega) hown' hg
        clear hown' hg hown hbw
        go_wp2
        go_ret
        have e := HS.out
        rw [hps.out] at e
        rw [cut_end e hql]
        exact ⟨_, rfl, ownsRow_mono R.1 (by omega), R.2.1⟩
      · go_wp2
        go_ret
        have e := HS.out
        rw [hps.out] at e
        rw [cut_end0 e hql]
        exact ⟨_, rfl, ownsRow_mono hown (by omega), hbw⟩
end Go.Proofs.YtgdfipmdmgkidaaGreatDoor
/- The contracts of the program's Lines and of the document's: the same lines, and the same error. -/
namespace Go.Proofs.YtgdfipmdmgkidaaGreatDoor
open Go.RowKit
def anyLong (L : List ByteArray) : Bool := L.any fun l => decide (12 < lineRunes l)
theorem row_cell {w : World} {B g n cap : Nat} {L : List ByteArray} (h : w.ownsRow B 9 1 (.slice (some ⟨g, 0, none⟩) n cap) n (strs L)) (k : Nat) (hk : k < L.length) : w.cell? ⟨g, k, none⟩ = some (.string (L.getD k ByteArray.empty)) := by
  have hn : n = L.length := by have := h.1; simp at this; omega
  rw [h.cellAt k (by omega)]
  simp [hk]
theorem own_shape {w : World} {B n size : Nat} {e : TypeId} {v : Value} {xs : List Value} (h : w.ownsRow B e size v n xs) : ∃ ao cap, v = .slice ao n cap := by
  rcases h.2 with ⟨rfl, rfl⟩ | ⟨g, cap, cur, rfl, _⟩
  · exact ⟨_, _, rfl⟩
  · exact ⟨_, _, rfl⟩
theorem own_at {w : World} {B n cap size : Nat} {e : TypeId} {ao : Option Addr} {xs : List Value} (h : w.ownsRow B e size (.slice ao n cap) n xs) (hn : 0 < n) : ∃ g, ao = some ⟨g, 0, none⟩ ∧ B ≤ g ∧ g < w.heap.size := by
  rcases h.2 with ⟨h1, rfl⟩ | ⟨g, cap, cur, h1, h2, h3, _⟩
  · omega
  · cases h1
    exact ⟨g, rfl, h2, (Array.getElem?_eq_some_iff.1 h3).1⟩
theorem own_below {w w1 : World} {B B' n size : Nat} {e : TypeId} {v : Value} {xs : List Value} (h : w.ownsRow B e size v n xs) (hb : Below B' w w1) (hB : w.heap.size ≤ B') : w1.ownsRow B e size v n xs := by
  refine ⟨h.1, ?_⟩
  rcases h.2 with h2 | ⟨g, cap, cur, a, b, c, d⟩
  · exact .inl h2
  · exact .inr ⟨g, cap, cur, a, b, by rw [hb.block g (by have := (Array.getElem?_eq_some_iff.1 c).1; omega)]; exact c, d⟩
theorem anyLong_yes {L : List ByteArray} {k : Nat} (hk : k < L.length) (h : decide (12 < lineRunes (L.getD k ByteArray.empty)) = true) : anyLong L = true := by
  unfold anyLong
  rw [List.any_eq_true]
  refine ⟨L[k], List.getElem_mem hk, ?_⟩
  rw [List.getD_eq_getElem?_getD, List.getElem?_eq_getElem hk] at h
  exact h
theorem anyLong_next {L : List ByteArray} {k : Nat} (hk : k < L.length) (h0 : anyLong (L.take k) = false) (h : decide (12 < lineRunes (L.getD k ByteArray.empty)) = false) : anyLong (L.take (k + 1)) = false := by
  unfold anyLong at *
  rw [List.take_succ_eq_append_getElem hk, List.any_append, h0]
  rw [List.getD_eq_getElem?_getD, List.getElem?_eq_getElem hk] at h
  simpa using h
theorem index29_any (L : List ByteArray) (ao : Option Addr) (cap B : Nat) (w : World) (hown : w.ownsRow B 9 1 (.slice ao L.length cap) L.length (strs L)) (hlen : L.length ≤ 1000000) (hsz : ∀ l ∈ L, l.size ≤ maxLen) :
    Calls Tryz.prog 171 #[.slice ao L.length cap, .func (.func 105) #[] #[]] w fun e w' => ∃ r : Int, e = .returned (.int .i64 r) ∧ (0 ≤ r ↔ anyLong L = true) ∧ Below w.heap.size w w' := by
  go_enter Tryz.func171, Tryz.ntmps171
  go_wp2
  go_loopw [8] (fun i wr => ∃ k : Nat, k ≤ L.length ∧ i = .int .i64 k ∧ anyLong (L.take k) = false ∧ Below w.heap.size w wr) (fun i _ => L.length - (intOf i).toNat)
  case atStart => exact ⟨0, Nat.zero_le _, rfl, rfl, Below.refl _ _⟩
  case round =>
    obtain ⟨k, hk, rfl, hno, hbw⟩ := hrel
    have HN := hid hno
    clear hno
    by_cases hlt : k < L.length
    · obtain ⟨g, hao, hgB, hgs⟩ := own_at hown (by omega)
      subst hao
      obtain ⟨s, hs⟩ : ∃ s, s = L.getD k ByteArray.empty := ⟨_, rfl⟩
      have hcell : wr.cell? ⟨g, k, none⟩ = some (.string s) := by rw [hs]; exact (hbw.cell (p := ⟨g, k, none⟩) hgs).trans (row_cell hown k hlt)
      have hss : s.size ≤ maxLen := by
        rw [hs, List.getD_eq_getElem?_getD, List.getElem?_eq_getElem hlt]
        exact hsz _ (List.getElem_mem hlt)
      have HS := hid hs
      clear hs
      have hsz1 := hbw.size
      cases hl : decide (12 < lineRunes s)
      · have HL : Hid (decide (12 < lineRunes s) = false) := hl
        clear hl
        go_wp2_with (go_at_call 105; refine (isLong_any s _ hss).mono ?_; rw [HL.out]; rintro e w' ⟨rfl, hb2⟩)
        go_roundw
        case rel => exact ⟨k + 1, by omega, by go_num, anyLong_next hlt HN.out (by rw [← HS.out]; exact HL.out), hbw.trans (hb2.mono (by omega))⟩
        case measure => simp [intOf]; omega
      · have HL : Hid (decide (12 < lineRunes s) = true) := hl
        clear hl
        go_wp2_with (go_at_call 105; refine (isLong_any s _ hss).mono ?_; rw [HL.out]; rintro e w' ⟨rfl, hb2⟩)
        go_ret
        exact ⟨k, rfl, iff_of_true (by omega) (anyLong_yes hlt (by rw [← HS.out]; exact HL.out)), hbw.trans (hb2.mono (by omega))⟩
    · go_wp2
      go_ret
      have e : k = L.length := by omega
      have hn := HN.out
      rw [e, List.take_length] at hn
      exact ⟨-1, rfl, by rw [hn]; simp, hbw⟩
theorem contains20_any (L : List ByteArray) (ao : Option Addr) (cap B : Nat) (w : World) (hown : w.ownsRow B 9 1 (.slice ao L.length cap) L.length (strs L)) (hlen : L.length ≤ 1000000) (hsz : ∀ l ∈ L, l.size ≤ maxLen) :
    Calls Tryz.prog 104 #[.slice ao L.length cap, .func (.func 105) #[] #[]] w fun e w' => e = .returned (.bool (anyLong L)) ∧ Below w.heap.size w w' := by
  go_enter Tryz.func104, Tryz.ntmps104
  go_wp2_with fail
  refine (index29_any L ao cap B w hown hlen hsz).mono ?_
  rintro e w' ⟨r, rfl, hr, hb⟩
  have HR := hid hr
  clear hr
  go_wp2
  go_ret
  exact ⟨ret_bool (by rw [Bool.eq_iff_iff, decide_eq_true_eq]; exact HR.out), hb⟩
def linesOk (s : ByteArray) : Bool := decide (s.size ≤ 240) && decide ((cutAll s).length ≤ 16) && !anyLong (cutAll s)
def linesOf (s : ByteArray) : List ByteArray := if linesOk s = true then cutAll s else []
def linesErr (s : ByteArray) : Int := if linesOk s = true then 0 else 3
theorem lines_no {s : ByteArray} (h : linesOk s = false) : linesOf s = [] ∧ linesErr s = 3 := by unfold linesOf linesErr; rw [h]; simp
theorem lines_yes {s : ByteArray} (h : linesOk s = true) : linesOf s = cutAll s ∧ linesErr s = 0 := by unfold linesOf linesErr; rw [h]; simp
theorem lines12_any (s : ByteArray) (w : World) :
    Calls Tryz.prog 62 #[.string s] w fun e w' => ∃ v, e = .returned (.tuple #[v, .bool (linesOk s)]) ∧ w'.ownsRow w.heap.size 9 1 v (linesOf s).length (strs (linesOf s)) ∧ Below w.heap.size w w' := by
  by_cases h240 : 240 < s.size
  · have hno : linesOk s = false := by unfold linesOk; simp; omega
    rw [(lines_no hno).1, hno]
    clear hno
    go_enter Tryz.func62, Tryz.ntmps62
    go_wp2
    go_ret2
    exact ⟨_, rfl, World.ownsRow_nil _ _ _ _, Below.refl _ _⟩
  · have hsm : ∀ l ∈ cutAll s, l.size ≤ maxLen := fun l hl => by have := (cutAll_each s l hl).2; unfold maxLen; omega
    have hlm := cutAll_len s
    by_cases h16 : 16 < (cutAll s).length
    · have hno : linesOk s = false := by unfold linesOk; simp; omega
      rw [(lines_no hno).1, hno]
      clear hno
      go_enter Tryz.func62, Tryz.ntmps62
      go_wp2_with fail
      refine (cut19_any s w (by omega)).mono ?_
      rintro e w1 ⟨v, rfl, hown, hbw⟩
      obtain ⟨ao, cap, rfl⟩ := own_shape hown
      go_wp2
      go_ret2
      exact ⟨_, rfl, World.ownsRow_nil _ _ _ _, hbw⟩
    · cases hl : anyLong (cutAll s)
      · have hok : linesOk s = true := by unfold linesOk; rw [hl]; simp; omega
        rw [(lines_yes hok).1, hok]
        clear hok
        have HL := hid hl
        clear hl
        go_enter Tryz.func62, Tryz.ntmps62
        go_wp2_with fail
        refine (cut19_any s w (by omega)).mono ?_
        rintro e w1 ⟨v, rfl, hown, hbw⟩
        obtain ⟨ao, cap, rfl⟩ := own_shape hown
        have hsz1 := hbw.size
        go_wp2_with (go_at_call 104; refine (contains20_any _ _ _ _ _ hown (by omega) hsm).mono ?_; rw [HL.out]; rintro e w' ⟨rfl, hb2⟩)
        go_ret2
        exact ⟨_, rfl, own_below hown hb2 (Nat.le_refl _), hbw.trans (hb2.mono hsz1)⟩
      · have hno : linesOk s = false := by unfold linesOk; rw [hl]; simp
        rw [(lines_no hno).1, hno]
        clear hno
        have HL := hid hl
        clear hl
        go_enter Tryz.func62, Tryz.ntmps62
        go_wp2_with fail
        refine (cut19_any s w (by omega)).mono ?_
        rintro e w1 ⟨v, rfl, hown, hbw⟩
        obtain ⟨ao, cap, rfl⟩ := own_shape hown
        have hsz1 := hbw.size
        go_wp2_with (go_at_call 104; refine (contains20_any _ _ _ _ _ hown (by omega) hsm).mono ?_; rw [HL.out]; rintro e w' ⟨rfl, hb2⟩)
        go_ret2
        exact ⟨_, rfl, World.ownsRow_nil _ _ _ _, hbw.trans (hb2.mono hsz1)⟩
end Go.Proofs.YtgdfipmdmgkidaaGreatDoor
