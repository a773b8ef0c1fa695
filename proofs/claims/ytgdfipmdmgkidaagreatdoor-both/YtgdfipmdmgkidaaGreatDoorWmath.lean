/- Plain facts on words: what stands between spaces, ids, names, repositories, and which words are a command. -/
import Derived.Test.YtgdfipmdmgkidaaGreatDoorRunes
import Derived.Deep.QuietTactic
import Derived.BigQuiet
namespace Go.Proofs.YtgdfipmdmgkidaaGreatDoor
/-! ### words -/
def addWord (L : List ByteArray) (s : ByteArray) (p q : Nat) : List ByteArray := if p < q then L ++ [s.extract p q] else L
def wTo (s : ByteArray) : Nat → List ByteArray × Nat
  | 0 => ([], 0)
  | i + 1 => if gb s i = 32 then (addWord (wTo s i).1 s (wTo s i).2 i, i + 1) else wTo s i
def splitAll (s : ByteArray) : List ByteArray := addWord (wTo s s.size).1 s (wTo s s.size).2 s.size
theorem wTo_sp {s : ByteArray} {i : Nat} (h : gb s i = 32) : wTo s (i + 1) = (addWord (wTo s i).1 s (wTo s i).2 i, i + 1) := by rw [wTo, if_pos h]
theorem wTo_no {s : ByteArray} {i : Nat} (h : gb s i ≠ 32) : wTo s (i + 1) = wTo s i := by rw [wTo, if_neg h]
theorem addWord_len (L : List ByteArray) (s : ByteArray) (p q : Nat) : (addWord L s p q).length ≤ L.length + 1 := by
  unfold addWord; split <;> simp
theorem wTo_le (s : ByteArray) : ∀ i, (wTo s i).2 ≤ i ∧ (wTo s i).1.length ≤ (wTo s i).2
  | 0 => ⟨Nat.le_refl _, Nat.le_refl _⟩
  | i + 1 => by
    have ih := wTo_le s i
    by_cases h : gb s i = 32
    · rw [wTo_sp h]
      have := addWord_len (wTo s i).1 s (wTo s i).2 i
      simp only
      omega
    · rw [wTo_no h]; omega
theorem wTo_skip (s : ByteArray) (p : Nat) : ∀ k, (∀ i, i < k → gb s (p + i) ≠ 32) → wTo s (p + k) = wTo s p
  | 0, _ => rfl
  | k + 1, h => by
    rw [← Nat.add_assoc, wTo_no (h k (by omega))]
    exact wTo_skip s p k fun i hi => h i (by omega)
theorem splitAll_len (s : ByteArray) : (splitAll s).length ≤ s.size + 1 := by
  have h := wTo_le s s.size
  have := addWord_len (wTo s s.size).1 s (wTo s s.size).2 s.size
  unfold splitAll
  omega
/-! ### at most four bytes a rune -/
theorem width_four (s : ByteArray) (a : Nat) (h : a < s.size) : (Utf8.decode s a).2 ≤ 4 := by
  rw [dec_gb]
  have b0 := gb_lt s a
  by_cases hl : gb s a < 128
  · rw [dec_low _ _ _ _ _ hl]; simp only; omega
  by_cases hb : gb s a < 194 ∨ 244 < gb s a
  · rw [dec_bad _ _ _ _ _ b0 (by omega)]; simp only; omega
  obtain ⟨sz, lo, hi, h2, hcz, hlo, hhi, hf, he⟩ := dec_multi (s.size - a) (gb s a) (gb s (a + 1)) (gb s (a + 2)) (gb s (a + 3)) (by omega) (gb_lt _ _) (gb_lt _ _) (gb_lt _ _) (by omega)
  rw [he]
  unfold Lib.slowN
  repeat' split
  all_goals (simp only; omega)
theorem size_runes (s : ByteArray) : ∀ f pos, s.size - pos ≤ f → s.size - pos ≤ 4 * rcf s pos
  | 0, pos, h => by omega
  | f + 1, pos, h => by
    by_cases hp : pos < s.size
    · have h1 := width_pos s pos hp
      have h4 := width_four s pos hp
      have ih := size_runes s f (pos + (Utf8.decode s pos).2) (by omega)
      rw [rcf_next s pos hp]
      omega
    · omega
/-! ### ids -/
def hexB (c : Int) : Bool := decide ((48 ≤ c ∧ c ≤ 57) ∨ (97 ≤ c ∧ c ≤ 102))
def hexTo (s : ByteArray) (n : Nat) : Prop := ∀ i, i < n → hexB (gb s i) = true
def idB (s : ByteArray) : Bool := decide (s.size = 4) && (List.range s.size).all fun i => hexB (gb s i)
theorem hexTo_next {s : ByteArray} {n : Nat} (h : hexTo s n) (h1 : hexB (gb s n) = true) : hexTo s (n + 1) := by
  intro i hi
  by_cases e : i = n
  · subst e; exact h1
  · exact h i (by omega)
theorem id_yes {s : ByteArray} (h4 : s.size = 4) (h : hexTo s s.size) : idB s = true := by
  unfold idB
  simp only [Bool.and_eq_true, decide_eq_true_eq, List.all_eq_true, List.mem_range]
  exact ⟨h4, h⟩
theorem id_no {s : ByteArray} {i : Nat} (hi : i < s.size) (h : hexB (gb s i) = false) : idB s = false := by
  unfold idB
  rw [Bool.and_eq_false_iff]
  right
  rw [List.all_eq_false]
  exact ⟨i, List.mem_range.2 hi, by rw [h]; simp⟩
theorem id_len {s : ByteArray} (h4 : s.size ≠ 4) : idB s = false := by
  unfold idB
  simp [h4]
theorem hex_rune (s : ByteArray) (p : Nat) (h : p < s.size) : hexB ((Utf8.decode s p).1 : Nat) = hexB (gb s p) ∧ (hexB (gb s p) = true → (Utf8.decode s p).2 = 1) := by
  rcases dec_parts s p h with ⟨h1, h2⟩ | ⟨h1, h2, _, _⟩
  · rw [h2]; exact ⟨rfl, fun _ => rfl⟩
  · have a : hexB (gb s p) = false := by unfold hexB; rw [decide_eq_false_iff_not]; omega
    have b : hexB ((Utf8.decode s p).1 : Nat) = false := by unfold hexB; rw [decide_eq_false_iff_not]; omega
    rw [a, b]
    exact ⟨rfl, fun h => by cases h⟩
/-! ### names -/
def letB (r : Int) : Bool := decide ((97 ≤ r ∧ r ≤ 122) ∨ (945 ≤ r ∧ r ≤ 969))
def letF (s : ByteArray) : Nat → Nat → Bool
  | 0, _ => true
  | f + 1, pos => if pos < s.size then letB ((Utf8.decode s pos).1 : Nat) && letF s f (pos + (Utf8.decode s pos).2) else true
theorem letF_end (s : ByteArray) (f pos : Nat) (h : s.size ≤ pos) : letF s f pos = true := by
  cases f with
  | zero => rfl
  | succ f => rw [letF, if_neg (by omega)]
theorem letF_stable (s : ByteArray) : ∀ f g pos, s.size - pos ≤ f → s.size - pos ≤ g → letF s f pos = letF s g pos
  | 0, g, pos, hf, _ => by rw [letF_end s 0 pos (by omega), letF_end s g pos (by omega)]
  | f + 1, 0, pos, _, hg => by rw [letF_end s _ pos (by omega), letF_end s 0 pos (by omega)]
  | f + 1, g + 1, pos, hf, hg => by
    unfold letF
    by_cases h : pos < s.size
    · rw [if_pos h, if_pos h]
      have := width_pos s pos h
      rw [letF_stable s f g _ (by omega) (by omega)]
    · rw [if_neg h, if_neg h]
def lets (s : ByteArray) (pos : Nat) : Bool := letF s s.size pos
theorem lets_end (s : ByteArray) (pos : Nat) (h : s.size ≤ pos) : lets s pos = true := letF_end s _ pos h
theorem lets_next (s : ByteArray) (pos : Nat) (h : pos < s.size) : lets s pos = (letB ((Utf8.decode s pos).1 : Nat) && lets s (pos + (Utf8.decode s pos).2)) := by
  unfold lets
  have hw := width_pos s pos h
  obtain ⟨n, hn⟩ : ∃ n, s.size = n + 1 := ⟨s.size - 1, by omega⟩
  rw [hn]
  conv => lhs; unfold letF
  rw [if_pos h, letF_stable s n (n + 1) _ (by omega) (by omega)]
def nameB (s : ByteArray) : Bool := decide (1 ≤ s.size) && decide (rcf s 0 ≤ 8) && lets s 0
/-! ### repositories -/
def repoB (s : ByteArray) : Bool := decide (s.size = 1 ∧ 48 ≤ gb s 0 ∧ gb s 0 ≤ 50)
end Go.Proofs.YtgdfipmdmgkidaaGreatDoor

/- The contracts of the program's and the document's tests of single words: ids, names, repositories. -/
set_option maxHeartbeats 800000
set_option maxRecDepth 100000
namespace Go.Proofs.YtgdfipmdmgkidaaGreatDoor
open Go.RowKit
theorem idRune41_any (r : Int) (w : World) : Calls Tryz.prog 173 #[.int .i32 r] w fun e w' => e = .returned (.bool (hexB r)) ∧ w' = w := by
  go_enter Tryz.func173, Tryz.ntmps173
  go_wp2
  all_goals
    go_ret
    refine ⟨ret_bool ?_, rfl⟩
    rw [Bool.eq_iff_iff]
    simp only [hexB, decide_eq_true_eq]
    simp_all
    try omega
theorem letter45_any (r : Int) (w : World) : Calls Tryz.prog 102 #[.int .i32 r] w fun e w' => e = .returned (.bool (letB r)) ∧ w' = w := by
  go_enter Tryz.func102, Tryz.ntmps102
  go_wp2
  all_goals
    go_ret
    refine ⟨ret_bool ?_, rfl⟩
    rw [Bool.eq_iff_iff]
    simp only [letB, decide_eq_true_eq]
    simp_all
    try omega
theorem isId33_any (s : ByteArray) (w : World) : Calls Tryz.prog 107 #[.string s] w fun e w' => e = .returned (.bool (idB s)) ∧ Below w.heap.size w w' := by
  by_cases h4 : s.size = 4
  · have hne : (((s.size : Nat) : Int) != 4) = false := by rw [h4]; rfl
    have H4 := hid h4
    clear h4
    go_enter Tryz.func107, Tryz.ntmps107
    go_wp2
    go_loopw [] (fun w' => ∃ (pos : Nat), w' = w.iter s pos ∧ pos ≤ s.size ∧ hexTo s pos) (fun w' => s.size - w'.iterPos w.heap.size)
    case atStart => exact ⟨0, rfl, Nat.zero_le _, fun i hi => by omega⟩
    case round =>
      obtain ⟨pos, rfl, hle, hx⟩ := hrel
      by_cases hp : pos < s.size
      · have hnx : ∀ ty, (Instr.next (.pointer (some ⟨w.heap.size, 0, none⟩)) true ty).run Tryz.prog (w.iter s pos) = _ := fun ty => run_next_any w s pos ty hp
        obtain ⟨hr1, hr2⟩ := hex_rune s pos hp
        cases hh : hexB (gb s pos)
        · rw [hh] at hr1
          have HH := hid hh
          have HR := hid hr1
          clear hh hr1 hr2
          go_wp2_with (go_at_call 173; refine (idRune41_any _ _).mono ?_; rw [HR.out]; rintro e w' ⟨rfl, rfl⟩)
          go_ret
          exact ⟨ret_bool (id_no hp HH.out).symm, (Below.refl _ _).alloc (Nat.le_refl _) _⟩
        · rw [hh] at hr1
          have HH := hid hh
          have HR := hid hr1
          have HW := hid (hr2 hh)
          clear hh hr1 hr2
          go_wp2_with (go_at_call 173; refine (idRune41_any _ _).mono ?_; rw [HR.out]; rintro e w' ⟨rfl, rfl⟩)
          go_roundw
          case rel => exact ⟨pos + 1, by rw [HW.out], by omega, hexTo_next hx HH.out⟩
          case measure => rw [HW.out]; simp; omega
      · have hnx : ∀ ty, (Instr.next (.pointer (some ⟨w.heap.size, 0, none⟩)) true ty).run Tryz.prog (w.iter s pos) = _ := fun ty => run_next_end w s pos ty hp
        go_wp2
        go_ret
        have e : pos = s.size := by omega
        rw [e] at hx
        exact ⟨ret_bool (id_yes H4.out hx).symm, (Below.refl _ _).alloc (Nat.le_refl _) _⟩
  · have hne : (((s.size : Nat) : Int) != 4) = true := by rw [bne_iff_ne]; omega
    have H4 := hid h4
    clear h4
    go_enter Tryz.func107, Tryz.ntmps107
    go_wp2
    go_ret
    exact ⟨ret_bool (id_len H4.out).symm, Below.refl _ _⟩
end Go.Proofs.YtgdfipmdmgkidaaGreatDoor
/- The contracts of the program's and the document's tests of names and of repositories. -/
namespace Go.Proofs.YtgdfipmdmgkidaaGreatDoor
open Go.RowKit
theorem empty_yes (s : ByteArray) (h : s.size = 0) : (s.toList == []) = true := by
  rw [toList_data]
  have : s.data.toList = [] := List.eq_nil_of_length_eq_zero (by rw [Array.length_toList]; exact h)
  rw [this]; rfl
theorem empty_no (s : ByteArray) (h : 1 ≤ s.size) : (s.toList == []) = false := by
  rw [toList_data, beq_eq_false_iff_ne]
  intro e
  have := congrArg List.length e
  rw [Array.length_toList] at this
  have h2 : s.data.size = s.size := rfl
  simp only [List.length_nil] at this
  omega
theorem name_empty {s : ByteArray} (h : s.size = 0) : nameB s = false := by unfold nameB; simp [h]
theorem name_over {s : ByteArray} (h : 8 < rcf s 0) : nameB s = false := by
  unfold nameB
  have : decide (rcf s 0 ≤ 8) = false := by simpa using h
  rw [this]; simp
theorem name_lets {s : ByteArray} (h : lets s 0 = false) : nameB s = false := by unfold nameB; rw [h]; simp
theorem name_yes {s : ByteArray} (h1 : 1 ≤ s.size) (h2 : rcf s 0 ≤ 8) (h3 : lets s 0 = true) : nameB s = true := by
  unfold nameB
  rw [h3]
  simp [h1, h2]
theorem isName42_any (s : ByteArray) (w : World) : Calls Tryz.prog 61 #[.string s] w fun e w' => e = .returned (.bool (nameB s)) ∧ Below w.heap.size w w' := by
  by_cases h0 : s.size = 0
  · have he := empty_yes s h0
    have HN := hid (name_empty h0)
    clear h0
    go_enter Tryz.func61, Tryz.ntmps61
    go_wp2
    go_ret
    exact ⟨ret_bool HN.out.symm, Below.refl _ _⟩
  · have he := empty_no s (by omega)
    by_cases h8 : 8 < rcf s 0
    · have HN : Hid (nameB s = false) := name_over h8
      have HO : Hid (decide (8 < rcf s 0) = true) := by show _ = _; simpa using h8
      clear h8 h0
      go_enter Tryz.func61, Tryz.ntmps61
      go_wp2_with (go_at_call 63; refine (over_any _ 8 _ (by omega)).mono ?_; rw [HO.out]; rintro e w' ⟨rfl, q, rfl⟩)
      go_ret
      exact ⟨ret_bool HN.out.symm, (Below.refl _ _).alloc (Nat.le_refl _) _⟩
    · have HS : Hid (1 ≤ s.size ∧ rcf s 0 ≤ 8) := ⟨by omega, by omega⟩
      have HO : Hid (decide (8 < rcf s 0) = false) := by show _ = _; simpa using h8
      clear h8 h0
      go_enter Tryz.func61, Tryz.ntmps61
      go_wp2_with (go_at_call 63; refine (over_any _ 8 _ (by omega)).mono ?_; rw [HO.out]; rintro e w' ⟨rfl, q, rfl⟩)
      have hw1 : Below w.heap.size w (w.iter s q) := (Below.refl _ _).alloc (Nat.le_refl _) _
      have hs1 : w.heap.size ≤ (w.iter s q).heap.size := hw1.size
      generalize w.iter s q = w1 at *
      go_wp2
      go_loopw [] (fun w' => ∃ (pos : Nat), w' = w1.iter s pos ∧ Hid (lets s 0 = lets s pos)) (fun w' => s.size - w'.iterPos w1.heap.size)
      case atStart => exact ⟨0, rfl, rfl⟩
      case round =>
        obtain ⟨pos, rfl, HL⟩ := hrel
        by_cases hp : pos < s.size
        · have hnx : ∀ ty, (Instr.next (.pointer (some ⟨w1.heap.size, 0, none⟩)) true ty).run Tryz.prog (w1.iter s pos) = _ := fun ty => run_next_any w1 s pos ty hp
          have hwd := width_pos s pos hp
          cases hh : letB (((Utf8.decode s pos).1 : Nat) : Int)
          · have HH : Hid (letB (((Utf8.decode s pos).1 : Nat) : Int) = false) := hh
            clear hh
            go_wp2_with (go_at_call 102; refine (letter45_any _ _).mono ?_; rw [HH.out]; rintro e w' ⟨rfl, rfl⟩)
            go_ret
            exact ⟨ret_bool (name_lets (by rw [HL.out, lets_next s pos hp, HH.out]; rfl)).symm, hw1.trans ((Below.refl _ _).alloc hs1 _)⟩
          · have HH : Hid (letB (((Utf8.decode s pos).1 : Nat) : Int) = true) := hh
            clear hh
            go_wp2_with (go_at_call 102; refine (letter45_any _ _).mono ?_; rw [HH.out]; rintro e w' ⟨rfl, rfl⟩)
            go_roundw
            case rel => exact ⟨pos + (Utf8.decode s pos).2, rfl, by show _ = _; rw [HL.out, lets_next s pos hp, HH.out]; rfl⟩
            case measure => simp; omega
        · have hnx : ∀ ty, (Instr.next (.pointer (some ⟨w1.heap.size, 0, none⟩)) true ty).run Tryz.prog (w1.iter s pos) = _ := fun ty => run_next_end w1 s pos ty hp
          go_wp2
          go_ret
          exact ⟨ret_bool (name_yes HS.out.1 HS.out.2 (by rw [HL.out, lets_end s pos (by omega)])).symm, hw1.trans ((Below.refl _ _).alloc hs1 _)⟩
theorem repo_list (s : ByteArray) (c : UInt8) : (s.toList == [c]) = decide (s.size = 1 ∧ gb s 0 = c.toNat) := by
  rw [toList_data, Bool.eq_iff_iff, beq_iff_eq, decide_eq_true_eq]
  constructor
  · intro e
    have hs : s = ⟨#[c]⟩ := by
      cases s with
      | mk d => simp only at e; congr 1; apply Array.ext'; exact e
    subst hs
    exact ⟨rfl, rfl⟩
  · rintro ⟨h1, h2⟩
    have hs : s = ⟨#[c]⟩ := by
      apply ext_gb
      · rw [h1]; rfl
      · intro i hi
        have : i = 0 := by omega
        subst this
        rw [h2]; rfl
    rw [hs]
theorem isRepo43_any (s : ByteArray) (w : World) : Calls Tryz.prog 174 #[.string s] w fun e w' => e = .returned (.bool (repoB s)) ∧ w' = w := by
  have h0 := repo_list s 48
  have h1 := repo_list s 49
  have h2 := repo_list s 50
  have HH : Hid (repoB s = ((s.toList == [48]) || (s.toList == [49]) || (s.toList == [50]))) := by
    show _ = _
    rw [h0, h1, h2, Bool.eq_iff_iff]
    unfold repoB
    simp only [Bool.or_eq_true, decide_eq_true_eq]
    have e0 : (48 : UInt8).toNat = 48 := rfl
    have e1 : (49 : UInt8).toNat = 49 := rfl
    have e2 : (50 : UInt8).toNat = 50 := rfl
    rw [e0, e1, e2]
    omega
  clear h0 h1 h2
  cases c0 : (s.toList == [48]) <;> cases c1 : (s.toList == [49]) <;> cases c2 : (s.toList == [50])
  all_goals
    go_enter Tryz.func174, Tryz.ntmps174
    go_wp2
    go_ret
    exact ⟨ret_bool (by rw [HH.out, c0, c1, c2]; rfl), rfl⟩
end Go.Proofs.YtgdfipmdmgkidaaGreatDoor
/- The contract of the document's own test of names. -/

/- The contracts of the two ways to part a command into its words: the program's by runes, the document's by bytes. -/
set_option maxHeartbeats 1600000
set_option maxRecDepth 100000
namespace Go.Proofs.YtgdfipmdmgkidaaGreatDoor
open Go.RowKit
def oneMore (L : List ByteArray) (x : ByteArray) : List ByteArray := if 1 ≤ x.size then L ++ [x] else L
theorem append32_any (L : List ByteArray) (x : ByteArray) (v : Value) (B C : Nat) (w : World) (hown : w.ownsRow C 9 1 v L.length (strs L)) (hC : C ≤ w.heap.size) (hBC : B ≤ C) (hL : L.length ≤ 1000000) :
    Calls Tryz.prog 106 #[v, .string x] w fun e w' => ∃ v', e = .returned v' ∧ w'.ownsRow C 9 1 v' (oneMore L x).length (strs (oneMore L x)) ∧ Below B w w' ∧ (∀ k, k < C → k < w.heap.size → w'.heap[k]? = w.heap[k]?) ∧ w.heap.size ≤ w'.heap.size := by
  obtain ⟨i0, hi, hz0, hz1, hz2⟩ := info_parts Tryz.info9
  by_cases h1 : 1 ≤ x.size
  · have he := empty_no x h1
    have e : oneMore L x = L ++ [x] := by unfold oneMore; rw [if_pos h1]
    rw [e]
    clear e
    go_enter Tryz.func106, Tryz.ntmps106
    go_wp2_with (at_builtin; refine wpList_append_own _ rfl _ _ 35 rfl C 9 i0 (.string ⟨#[]⟩) 1 16 Tryz.underlying35 hi hz0 hz1 hz2 rfl (by decide) _ _ _ rfl (hown.alloc _) ⟨w.heap.size, 0, none⟩ 1 1 [.string x] rfl rfl (new_one _ _ _) (strs_one [_]) (by unfold maxLen; omega) (by omega) (by simp; omega) ?_)
    intro v' w1 hown' hg _
    have R := step_own hBC hown (Below.refl B w) (by omega) hown' hg
    have hsz : w.heap.size ≤ w1.heap.size := by have := hg.size; simp at this; omega
    clear hown' hg hown
    go_wp2
    go_ret
    exact ⟨_, rfl, R.1, R.2.1, R.2.2, hsz⟩
  · have he := empty_yes x (by omega)
    have e : oneMore L x = L := by unfold oneMore; rw [if_neg h1]
    rw [e]
    clear e
    go_enter Tryz.func106, Tryz.ntmps106
    go_wp2
    go_ret
    exact ⟨_, rfl, hown, Below.refl _ _, fun _ _ _ => rfl, Nat.le_refl _⟩
theorem oneMore_add (L : List ByteArray) (s : ByteArray) (p q : Nat) (hq : q ≤ s.size) : oneMore L (s.extract p q) = addWord L s p q := by
  unfold oneMore addWord
  rw [size_ex _ _ _ hq]
  by_cases h : p < q
  · rw [if_pos (by omega), if_pos h]
  · rw [if_neg (by omega), if_neg h]
theorem split25_any (s : ByteArray) (w : World) (hs : s.size ≤ 100000) :
    Calls Tryz.prog 64 #[.string s] w fun e w' => ∃ v, e = .returned v ∧ w'.ownsRow w.heap.size 9 1 v (splitAll s).length (strs (splitAll s)) ∧ Below w.heap.size w w' := by
  go_enter Tryz.func64, Tryz.ntmps64
  go_wp2
  go_loopw [3, 4] (fun v st wr => ∃ (p q : Nat) (L : List ByteArray), p ≤ s.size ∧ st = .int .i64 q ∧ Hid (wTo s p = (L, q)) ∧ wr.ownsRow (w.heap.size + 1) 9 1 v L.length (strs L) ∧ Below w.heap.size w wr ∧ wr.heap[w.heap.size]? = some (.stringIter s p)) (fun _ _ wr => s.size - wr.iterPos w.heap.size)
  case atStart => exact ⟨0, 0, [], Nat.zero_le _, rfl, rfl, World.ownsRow_nil _ _ _ _, (Below.refl _ _).alloc (Nat.le_refl _) _, World.iter_heap w s 0⟩
  case round =>
    obtain ⟨p, q, L, hp, rfl, HS, hown, hbw, hit⟩ := hrel
    have hq : q ≤ p := by have := (wTo_le s p).1; rw [HS.out] at this; exact this
    have hLq : L.length ≤ q := by have := (wTo_le s p).2; rw [HS.out] at this; exact this
    have hsz : w.heap.size < wr.heap.size := (Array.getElem?_eq_some_iff.1 hit).1
    by_cases hlt : p < s.size
    · by_cases h32 : gb s p = 32
      · have hnx : ∀ ty, (Instr.next (.pointer (some ⟨w.heap.size, 0, none⟩)) true ty).run Tryz.prog wr = .ok (.tuple #[.bool true, .int .i64 p, .int .i32 32]) (wr.iterAt w.heap.size s (p + 1)) := fun ty => by
          rw [Lib.run_next_any_at wr w.heap.size s p ty hit hlt, dec_at_low s p hlt (by omega), h32]; rfl
        have HB := hid h32
        clear h32
        have hown1 := ownsRow_iterAt hown (k := w.heap.size) (by omega) s (p + 1)
        have hbw1 := Lib.below_iterAt hbw (k := w.heap.size) (Nat.le_refl _) s (p + 1)
        have hit1 := Lib.iterAt_heap wr w.heap.size s p (p + 1) hit
        have hsz1 : w.heap.size < (wr.iterAt w.heap.size s (p + 1)).heap.size := by rw [Lib.iterAt_size]; exact hsz
        have HM := hid (iterPos_of hit)
        clear hit hown hbw
        obtain ⟨wq, hwq⟩ : ∃ wq, wr.iterAt w.heap.size s (p + 1) = wq := ⟨_, rfl⟩
        rw [hwq] at hown1 hbw1 hit1 hsz1 hnx
        clear hwq
        go_wp2_with fail
        refine (append32_any L _ _ w.heap.size (w.heap.size + 1) wq hown1 (by omega) (by omega) (by omega)).mono ?_
        rintro e w1 ⟨v', rfl, hown', hb', hk', hs'⟩
        rw [oneMore_add L s q p (by omega)] at hown'
        have hit2 := (hk' w.heap.size (by omega) hsz1).trans hit1
        clear hown1 hnx hk'
        go_wp2
        go_roundw
        case rel => exact ⟨p + 1, p + 1, addWord L s q p, by omega, by go_num, by show _ = _; rw [wTo_sp HB.out, HS.out], hown', hbw1.trans hb', hit2⟩
        case measure => rw [iterPos_of hit2, HM.out]; omega
      · obtain ⟨r, k, hdec, hr, hk, hin, hall⟩ := dec_not s p 32 hlt (by omega) h32
        have hnx : ∀ ty, (Instr.next (.pointer (some ⟨w.heap.size, 0, none⟩)) true ty).run Tryz.prog wr = .ok (.tuple #[.bool true, .int .i64 p, .int .i32 r]) (wr.iterAt w.heap.size s (p + k)) := fun ty => by
          rw [Lib.run_next_any_at wr w.heap.size s p ty hit hlt, hdec]
        have hb : ((r : Int) == 32) = false := by rw [beq_eq_false_iff_ne]; omega
        have HB := hid (wTo_skip s p k hall)
        clear h32 hdec hall
        have hown1 := ownsRow_iterAt hown (k := w.heap.size) (by omega) s (p + k)
        have hbw1 := Lib.below_iterAt hbw (k := w.heap.size) (Nat.le_refl _) s (p + k)
        have hit1 := Lib.iterAt_heap wr w.heap.size s p (p + k) hit
        have HM := hid (iterPos_of hit)
        clear hit hown hbw
        obtain ⟨wq, hwq⟩ : ∃ wq, wr.iterAt w.heap.size s (p + k) = wq := ⟨_, rfl⟩
        rw [hwq] at hown1 hbw1 hit1 hnx
        clear hwq
        go_wp2
        go_roundw
        case rel => exact ⟨p + k, q, L, hin, rfl, by show _ = _; rw [HB.out, HS.out], hown1, hbw1, hit1⟩
        case measure => rw [iterPos_of hit1, HM.out]; omega
    · have hnx : ∀ ty, (Instr.next (.pointer (some ⟨w.heap.size, 0, none⟩)) true ty).run Tryz.prog wr = .ok (.tuple #[.bool false]) wr := fun ty => Lib.run_next_end_at wr w.heap.size s p ty hit hlt
      have hps : Hid (p = s.size) := by show _ = _; omega
      have hqs : q ≤ s.size := by omega
      go_wp2_with fail
      refine (append32_any L _ _ w.heap.size (w.heap.size + 1) wr hown (by omega) (by omega) (by omega)).mono ?_
      rintro e w1 ⟨v', rfl, hown', hb', hk', hs'⟩
      rw [oneMore_add L s q s.size (Nat.le_refl _)] at hown'
      have e : splitAll s = addWord L s q s.size := by
        have e := HS.out
        rw [hps.out] at e
        unfold splitAll
        rw [e]
      rw [← e] at hown'
      clear e
      go_wp2
      go_ret
      exact ⟨_, rfl, ownsRow_mono hown' (by omega), hbw.trans hb'⟩
end Go.Proofs.YtgdfipmdmgkidaaGreatDoor
/- The contract of the program's test whether words are a command. -/
namespace Go.Proofs.YtgdfipmdmgkidaaGreatDoor
open Go.RowKit
def View (w : World) (ao : Option Addr) (L : List ByteArray) : Prop := L.length = 0 ∨ ∃ b o, ao = some ⟨b, o, none⟩ ∧ b < w.heap.size ∧ ∀ k, k < L.length → w.cell? ⟨b, o + k, none⟩ = some (.string (L.getD k ByteArray.empty))
theorem View.below {w w' : World} {ao : Option Addr} {L : List ByteArray} (h : View w ao L) (hb : Below w.heap.size w w') : View w' ao L := by
  rcases h with h | ⟨b, o, rfl, hlt, hc⟩
  · exact .inl h
  · exact .inr ⟨b, o, rfl, by have := hb.size; omega, fun k hk => (hb.cell (p := ⟨b, o + k, none⟩) hlt).trans (hc k hk)⟩
theorem View.own {w : World} {B cap : Nat} {ao : Option Addr} {L : List ByteArray} (h : w.ownsRow B 9 1 (.slice ao L.length cap) L.length (strs L)) : View w ao L := by
  by_cases h0 : L.length = 0
  · exact .inl h0
  · obtain ⟨g, rfl, _, hg⟩ := own_at h (by omega)
    exact .inr ⟨g, 0, rfl, hg, fun k hk => by rw [Nat.zero_add]; exact row_cell h k hk⟩
abbrev wRecord : ByteArray := ⟨#[114, 101, 99, 111, 114, 100]⟩
abbrev wUnrecord : ByteArray := ⟨#[117, 110, 114, 101, 99, 111, 114, 100]⟩
abbrev wObliterate : ByteArray := ⟨#[111, 98, 108, 105, 116, 101, 114, 97, 116, 101]⟩
abbrev wShow : ByteArray := ⟨#[115, 104, 111, 119]⟩
abbrev wSwap : ByteArray := ⟨#[115, 119, 97, 112]⟩
abbrev wPull : ByteArray := ⟨#[112, 117, 108, 108]⟩
abbrev wRevert : ByteArray := ⟨#[114, 101, 118, 101, 114, 116]⟩
abbrev wNew : ByteArray := ⟨#[110, 101, 119]⟩
abbrev wLog : ByteArray := ⟨#[108, 111, 103]⟩
abbrev wOrder : ByteArray := ⟨#[111, 114, 100, 101, 114]⟩
def recB : List ByteArray → Bool
  | [] => false
  | a :: T => idB a && T.all nameB
def oneB : List ByteArray → Bool
  | [a] => idB a
  | _ => false
def pullB : List ByteArray → Bool
  | [a] => repoB a
  | [a, b] => repoB a && idB b
  | _ => false
def oneW (t : ByteArray) : Prop := t = wUnrecord ∨ t = wObliterate ∨ t = wShow ∨ t = wSwap
def noneW (t : ByteArray) : Prop := t = wRevert ∨ t = wNew ∨ t = wLog ∨ t = wOrder
theorem areNames34_any (L : List ByteArray) (ao : Option Addr) (cap : Nat) (w : World) (hv : View w ao L) (hlen : L.length ≤ 1000000) :
    Calls Tryz.prog 108 #[.slice ao L.length cap] w fun e w' => e = .returned (.bool (L.all nameB)) ∧ Below w.heap.size w w' := by
  go_enter Tryz.func108, Tryz.ntmps108
  go_wp2
  go_loopw [7] (fun i wr => ∃ k : Nat, k ≤ L.length ∧ i = .int .i64 k ∧ Hid ((L.take k).all nameB = true) ∧ Below w.heap.size w wr) (fun i _ => L.length - (intOf i).toNat)
  case atStart => exact ⟨0, Nat.zero_le _, rfl, rfl, Below.refl _ _⟩
  case round =>
    obtain ⟨k, hk, rfl, HN, hbw⟩ := hrel
    by_cases hlt : k < L.length
    · rcases hv with h | ⟨b, o, rfl, hb, hc⟩
      · omega
      obtain ⟨t, ht⟩ : ∃ t, t = L.getD k ByteArray.empty := ⟨_, rfl⟩
      have hcell : wr.cell? ⟨b, o + k, none⟩ = some (.string t) := by rw [ht]; exact (hbw.cell (p := ⟨b, o + k, none⟩) hb).trans (hc k hlt)
      have HT : Hid (t = L[k]) := by rw [ht, List.getD_eq_getElem?_getD, List.getElem?_eq_getElem hlt]; rfl
      clear ht hc
      have hsz1 := hbw.size
      cases hl : nameB t
      · have HL : Hid (nameB t = false) := hl
        clear hl
        go_wp2_with (go_at_call 61; refine (isName42_any t _).mono ?_; rw [HL.out]; rintro e w' ⟨rfl, hb2⟩)
        go_ret
        have hno : L.all nameB = false := by rw [List.all_eq_false]; exact ⟨L[k], List.getElem_mem hlt, by rw [← HT.out, HL.out]; simp⟩
        exact ⟨ret_bool hno.symm, hbw.trans (hb2.mono (by omega))⟩
      · have HL : Hid (nameB t = true) := hl
        clear hl
        go_wp2_with (go_at_call 61; refine (isName42_any t _).mono ?_; rw [HL.out]; rintro e w' ⟨rfl, hb2⟩)
        go_roundw
        case rel => exact ⟨k + 1, by omega, by go_num, by show _ = _; rw [List.take_succ_eq_append_getElem hlt, List.all_append, HN.out, ← HT.out]; simp [HL.out], hbw.trans (hb2.mono (by omega))⟩
        case measure => simp [intOf]; omega
    · go_wp2
      go_ret
      have e : k = L.length := by omega
      have hn := HN.out
      rw [e, List.take_length] at hn
      exact ⟨ret_bool hn.symm, hbw⟩
theorem isPull35_any (L : List ByteArray) (ao : Option Addr) (cap : Nat) (w : World) (hv : View w ao L) (hlen : L.length ≤ 1000000) :
    Calls Tryz.prog 109 #[.slice ao L.length cap] w fun e w' => e = .returned (.bool (pullB L)) ∧ Below w.heap.size w w' := by
  match L, hv, hlen with
  | [], hv, _ =>
    have h1 : (((([] : List ByteArray).length : Nat) : Int) == 1) = false := rfl
    have h2 : (((([] : List ByteArray).length : Nat) : Int) == 2) = false := rfl
    go_enter Tryz.func109, Tryz.ntmps109
    go_wp2
    go_ret
    exact ⟨rfl, Below.refl _ _⟩
  | [a], hv, _ =>
    rcases hv with h | ⟨b, o, rfl, hb, hc⟩
    · simp at h
    have hc0 : w.cell? ⟨b, o, none⟩ = some (.string a) := hc 0 (by simp)
    go_enter Tryz.func109, Tryz.ntmps109
    go_wp2_with (go_at_call 174; refine (isRepo43_any _ _).mono ?_; rintro e w' ⟨rfl, rfl⟩)
    go_ret
    exact ⟨rfl, Below.refl _ _⟩
  | [a, c], hv, _ =>
    rcases hv with h | ⟨b, o, rfl, hb, hc⟩
    · simp at h
    have hc0 : w.cell? ⟨b, o, none⟩ = some (.string a) := hc 0 (by simp)
    have hc1 : w.cell? ⟨b, o + 1, none⟩ = some (.string c) := hc 1 (by simp)
    cases hr : repoB a
    · have HR : Hid (repoB a = false) := hr
      clear hr
      go_enter Tryz.func109, Tryz.ntmps109
      go_wp2_with (go_at_call 174; refine (isRepo43_any _ _).mono ?_; rw [HR.out]; rintro e w' ⟨rfl, rfl⟩)
      go_ret
      exact ⟨ret_bool (by simp only [pullB, HR.out]; rfl), Below.refl _ _⟩
    · have HR : Hid (repoB a = true) := hr
      clear hr
      go_enter Tryz.func109, Tryz.ntmps109
      go_wp2_with (first | (go_at_call 174; refine (isRepo43_any _ _).mono ?_; rw [HR.out]; rintro e w' ⟨rfl, rfl⟩) | (go_at_call 107; refine (isId33_any _ _).mono ?_; rintro e w' ⟨rfl, hb2⟩))
      go_ret
      exact ⟨ret_bool (by simp only [pullB, HR.out]; simp), ‹_›⟩
  | a :: c :: d :: T, hv, hlen =>
    have h1 : ((((a :: c :: d :: T).length : Nat) : Int) == 1) = false := by rw [beq_eq_false_iff_ne]; simp; omega
    have h2 : ((((a :: c :: d :: T).length : Nat) : Int) == 2) = false := by rw [beq_eq_false_iff_ne]; simp; omega
    have e : pullB (a :: c :: d :: T) = false := rfl
    rw [e]
    clear hv e
    generalize (a :: c :: d :: T).length = n at *
    go_enter Tryz.func109, Tryz.ntmps109
    go_wp2
    go_ret
    exact ⟨rfl, Below.refl _ _⟩
theorem word_ne {t l : ByteArray} (h : t ≠ l) : (t.toList == l.toList) = false := by
  rw [beq_eq_false_iff_ne]
  intro e
  rw [toList_data, toList_data] at e
  apply h
  cases t with
  | mk a => cases l with
    | mk b => congr 1; exact Array.ext' e
theorem cmd26_none (t : ByteArray) (ht : noneW t) (R : List ByteArray) (b o cap : Nat) (w : World) (hc0 : w.cell? ⟨b, o, none⟩ = some (.string t)) (hcap : R.length + 1 ≤ cap) (hlen : R.length ≤ 1000000) :
    Calls Tryz.prog 65 #[.slice (some ⟨b, o, none⟩) (R.length + 1) cap] w fun e w' => e = .returned (.bool R.isEmpty) ∧ Below w.heap.size w w' := by
  have hl : (((R.length + 1 : Nat) : Int) == 0) = false := by rw [beq_eq_false_iff_ne]; omega
  have HE : Hid (R.isEmpty = (((R.length : Nat) : Int) == 0)) := by cases R with | nil => rfl | cons a T => (show _ = _; symm; rw [List.isEmpty_cons, beq_eq_false_iff_ne, List.length_cons]; omega)
  generalize R.length = n at *
  rcases ht with rfl | rfl | rfl | rfl
  all_goals
    by_cases hc1 : cap = 1
    all_goals
      go_enter Tryz.func65, Tryz.ntmps65
      go_wp2
      go_ret
      exact ⟨ret_bool HE.out.symm, Below.refl _ _⟩
theorem view_rest {w : World} {b o : Nat} {R : List ByteArray} (hb : b < w.heap.size) (hcR : ∀ k, k < R.length → w.cell? ⟨b, o + 1 + k, none⟩ = some (.string (R.getD k ByteArray.empty))) : View w (some ⟨b, o + 1, none⟩) R := .inr ⟨b, o + 1, rfl, hb, hcR⟩
theorem cmd26_one (t : ByteArray) (ht : oneW t) (R : List ByteArray) (b o cap : Nat) (w : World) (hc0 : w.cell? ⟨b, o, none⟩ = some (.string t)) (hcR : ∀ k, k < R.length → w.cell? ⟨b, o + 1 + k, none⟩ = some (.string (R.getD k ByteArray.empty))) (hcap : R.length + 1 ≤ cap) (hlen : R.length ≤ 1000000) :
    Calls Tryz.prog 65 #[.slice (some ⟨b, o, none⟩) (R.length + 1) cap] w fun e w' => e = .returned (.bool (oneB R)) ∧ Below w.heap.size w w' := by
  have hl : (((R.length + 1 : Nat) : Int) == 0) = false := by rw [beq_eq_false_iff_ne]; omega
  by_cases h1 : R.length = 1
  · obtain ⟨a, rfl⟩ := List.length_eq_one_iff.1 h1
    have hc1 : w.cell? ⟨b, o + 1, none⟩ = some (.string a) := hcR 0 (by simp)
    have hcc : ¬ cap = 1 := by simp at hcap; omega
    clear hcR h1 hl
    rcases ht with rfl | rfl | rfl | rfl
    all_goals
      go_enter Tryz.func65, Tryz.ntmps65
      go_wp2_with (go_at_call 107; refine (isId33_any _ _).mono ?_; rintro e w' ⟨rfl, hb2⟩)
      go_ret
      exact ⟨rfl, ‹_›⟩
  · have hno : oneB R = false := by
      match R, h1 with
      | [], _ => rfl
      | [_], h => simp at h
      | _ :: _ :: _, _ => rfl
    have hl1 : (((R.length : Nat) : Int) == 1) = false := by rw [beq_eq_false_iff_ne]; omega
    rw [hno]
    clear hcR hno h1
    generalize R.length = n at *
    rcases ht with rfl | rfl | rfl | rfl
    all_goals
      by_cases hc1 : cap = 1
      all_goals
        go_enter Tryz.func65, Tryz.ntmps65
        go_wp2
        go_ret
        exact ⟨rfl, Below.refl _ _⟩
theorem cmd26_pull (R : List ByteArray) (b o cap : Nat) (w : World) (hb : b < w.heap.size) (hc0 : w.cell? ⟨b, o, none⟩ = some (.string wPull)) (hcR : ∀ k, k < R.length → w.cell? ⟨b, o + 1 + k, none⟩ = some (.string (R.getD k ByteArray.empty))) (hcap : R.length + 1 ≤ cap) (hlen : R.length ≤ 1000000) :
    Calls Tryz.prog 65 #[.slice (some ⟨b, o, none⟩) (R.length + 1) cap] w fun e w' => e = .returned (.bool (pullB R)) ∧ Below w.heap.size w w' := by
  have hl : (((R.length + 1 : Nat) : Int) == 0) = false := by rw [beq_eq_false_iff_ne]; omega
  by_cases hc1 : cap = 1
  · have h0 : R.length = 0 := by omega
    have hR : R = [] := List.eq_nil_of_length_eq_zero h0
    subst hR
    subst hc1
    clear hl h0 hcR
    go_enter Tryz.func65, Tryz.ntmps65
    go_wp2_with fail
    refine (isPull35_any [] _ _ _ (.inl rfl) (by simp)).mono ?_
    rintro e w' ⟨rfl, hb2⟩
    go_wp2
    go_ret
    exact ⟨rfl, hb2⟩
  · have hv := view_rest hb hcR
    clear hcR
    go_enter Tryz.func65, Tryz.ntmps65
    go_wp2_with fail
    refine (isPull35_any R _ _ _ hv hlen).mono ?_
    rintro e w' ⟨rfl, hb2⟩
    go_wp2
    go_ret
    exact ⟨rfl, hb2⟩
theorem cmd26_record (R : List ByteArray) (b o cap : Nat) (w : World) (hb : b < w.heap.size) (hc0 : w.cell? ⟨b, o, none⟩ = some (.string wRecord)) (hcR : ∀ k, k < R.length → w.cell? ⟨b, o + 1 + k, none⟩ = some (.string (R.getD k ByteArray.empty))) (hcap : R.length + 1 ≤ cap) (hlen : R.length ≤ 1000000) :
    Calls Tryz.prog 65 #[.slice (some ⟨b, o, none⟩) (R.length + 1) cap] w fun e w' => e = .returned (.bool (recB R)) ∧ Below w.heap.size w w' := by
  match R, hcR, hcap, hlen with
  | [], _, hcap, _ =>
    by_cases hc1 : cap = 1
    all_goals
      go_enter Tryz.func65, Tryz.ntmps65
      go_wp2
      go_ret
      exact ⟨rfl, Below.refl _ _⟩
  | a :: T, hcR, hcap, hlen =>
    have hc1 : w.cell? ⟨b, o + 1, none⟩ = some (.string a) := hcR 0 (by simp)
    have hcc : ¬ cap = 1 := by simp at hcap; omega
    have hcT : ∀ k, k < T.length → w.cell? ⟨b, o + 1 + 1 + k, none⟩ = some (.string (T.getD k ByteArray.empty)) := fun k hk => by
      have := hcR (k + 1) (by simpa using hk)
      rw [show o + 1 + 1 + k = o + 1 + (k + 1) by omega]
      simpa using this
    simp only [List.length_cons] at hcap hlen ⊢
    clear hcR
    have hl : (((T.length + 1 + 1 : Nat) : Int) == 0) = false := by rw [beq_eq_false_iff_ne]; omega
    cases hid : idB a
    · have HI : Hid (idB a = false) := hid
      have e : recB (a :: T) = false := by show (idB a && T.all nameB) = _; rw [hid]; rfl
      rw [e]
      clear hid e hcT
      generalize T.length = n at *
      go_enter Tryz.func65, Tryz.ntmps65
      go_wp2_with (go_at_call 107; refine (isId33_any _ _).mono ?_; rw [HI.out]; rintro e w' ⟨rfl, hb2⟩)
      go_ret
      exact ⟨rfl, ‹_›⟩
    · have HI : Hid (idB a = true) := hid
      have e : recB (a :: T) = T.all nameB := by show (idB a && T.all nameB) = _; rw [hid]; rfl
      rw [e]
      clear hid e
      by_cases hc2 : cap = 2
      · have h0 : T.length = 0 := by omega
        have hT : T = [] := List.eq_nil_of_length_eq_zero h0
        subst hT
        subst hc2
        clear hl h0 hcT
        go_enter Tryz.func65, Tryz.ntmps65
        go_wp2_with fail
        refine (isId33_any _ _).mono ?_
        rw [HI.out]
        rintro e w' ⟨rfl, hb2⟩
        go_wp2_with fail
        refine (areNames34_any [] _ _ _ (.inl rfl) (by simp)).mono ?_
        rintro e w2 ⟨rfl, hb3⟩
        go_wp2
        go_ret
        exact ⟨rfl, hb2.trans (hb3.mono hb2.size)⟩
      · have hv : View w (some ⟨b, o + 1 + 1, none⟩) T := .inr ⟨b, _, rfl, hb, hcT⟩
        clear hcT
        go_enter Tryz.func65, Tryz.ntmps65
        go_wp2_with fail
        refine (isId33_any _ _).mono ?_
        rw [HI.out]
        rintro e w' ⟨rfl, hb2⟩
        go_wp2_with fail
        refine (areNames34_any T _ _ _ (hv.below hb2) (by omega)).mono ?_
        rintro e w2 ⟨rfl, hb3⟩
        go_wp2
        go_ret
        exact ⟨rfl, hb2.trans (hb3.mono hb2.size)⟩
structure otherW (t : ByteArray) : Prop where
  a : (t.toList == [114, 101, 99, 111, 114, 100]) = false
  b : (t.toList == [117, 110, 114, 101, 99, 111, 114, 100]) = false
  c : (t.toList == [111, 98, 108, 105, 116, 101, 114, 97, 116, 101]) = false
  d : (t.toList == [115, 104, 111, 119]) = false
  e : (t.toList == [115, 119, 97, 112]) = false
  f : (t.toList == [112, 117, 108, 108]) = false
  g : (t.toList == [114, 101, 118, 101, 114, 116]) = false
  h : (t.toList == [110, 101, 119]) = false
  i : (t.toList == [108, 111, 103]) = false
  j : (t.toList == [111, 114, 100, 101, 114]) = false
theorem words_all (t : ByteArray) : t = wRecord ∨ oneW t ∨ t = wPull ∨ noneW t ∨ otherW t := by
  by_cases h1 : t = wRecord
  · exact .inl h1
  by_cases h2 : oneW t
  · exact .inr (.inl h2)
  by_cases h3 : t = wPull
  · exact .inr (.inr (.inl h3))
  by_cases h4 : noneW t
  · exact .inr (.inr (.inr (.inl h4)))
  unfold oneW at h2
  unfold noneW at h4
  simp only [not_or] at h2 h4
  have k : ∀ {l : List UInt8}, t ≠ ⟨l.toArray⟩ → (t.toList == l) = false := by
    intro l h
    have := word_ne h
    rw [toList_data ⟨l.toArray⟩] at this
    exact this
  exact .inr (.inr (.inr (.inr ⟨k h1, k h2.1, k h2.2.1, k h2.2.2.1, k h2.2.2.2, k h3, k h4.1, k h4.2.1, k h4.2.2.1, k h4.2.2.2⟩)))
theorem cmd26_other (t : ByteArray) (ht : otherW t) (n : Nat) (b o cap : Nat) (w : World) (hc0 : w.cell? ⟨b, o, none⟩ = some (.string t)) (hcap : n + 1 ≤ cap) (hlen : n ≤ 1000000) :
    Calls Tryz.prog 65 #[.slice (some ⟨b, o, none⟩) (n + 1) cap] w fun e w' => e = .returned (.bool false) ∧ Below w.heap.size w w' := by
  have hl : (((n + 1 : Nat) : Int) == 0) = false := by rw [beq_eq_false_iff_ne]; omega
  obtain ⟨ha, hb, hc, hd, he, hf, hg, hh, hi, hj⟩ := ht
  by_cases hc1 : cap = 1
  all_goals
    go_enter Tryz.func65, Tryz.ntmps65
    go_wp2
    go_ret
    exact ⟨rfl, Below.refl _ _⟩
theorem cmd26_empty (ao : Option Addr) (cap : Nat) (w : World) : Calls Tryz.prog 65 #[.slice ao 0 cap] w fun e w' => e = .returned (.bool false) ∧ Below w.heap.size w w' := by
  go_enter Tryz.func65, Tryz.ntmps65
  go_wp2
  go_ret
  exact ⟨rfl, Below.refl _ _⟩
end Go.Proofs.YtgdfipmdmgkidaaGreatDoor
