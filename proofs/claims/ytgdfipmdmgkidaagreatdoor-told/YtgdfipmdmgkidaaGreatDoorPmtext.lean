/- Mathematics: the lines of a text that is made of lines. -/
import Derived.Test.YtgdfipmdmgkidaaGreatDoorPkeep
import Derived.Test.YtgdfipmdmgkidaaGreatDoorPeq
namespace Go.Proofs.YtgdfipmdmgkidaaGreatDoor
open Go.RowKit

theorem catB_nil : catB [] = ⟨#[]⟩ := rfl
theorem catB_app (A B : List ByteArray) : catB (A ++ B) = catB A ++ catB B := by
  apply ByteArray.ext
  apply Array.toList_inj.1
  simp [catB, ByteArray.data_append]
theorem catB_one (l : ByteArray) : catB [l] = l := by
  apply ByteArray.ext
  apply Array.toList_inj.1
  simp [catB]
theorem catB_cons (l : ByteArray) (B : List ByteArray) : catB (l :: B) = l ++ catB B := by
  rw [show l :: B = [l] ++ B from rfl, catB_app, catB_one]
theorem gb_left {a b : ByteArray} {i : Nat} (h : i < a.size) : gb (a ++ b) i = gb a i := by
  rw [← gb_eq _ i (by rw [ByteArray.size_append]; omega), ← gb_eq _ i h, ByteArray.getElem_append_left h]
theorem gb_right {a b : ByteArray} (i : Nat) : gb (a ++ b) (a.size + i) = gb b i := by
  by_cases h : i < b.size
  · rw [← gb_eq _ _ (by rw [ByteArray.size_append]; omega), ← gb_eq _ i h, ByteArray.getElem_append_right (by omega)]
    simp
  · rw [gb_out _ _ (by rw [ByteArray.size_append]; omega), gb_out _ _ (by omega)]
theorem ext_mid (a l b : ByteArray) : (a ++ (l ++ b)).extract a.size (a.size + l.size) = l := by
  have hsz : a.size + l.size ≤ (a ++ (l ++ b)).size := by rw [ByteArray.size_append, ByteArray.size_append]; omega
  refine ext_gb (by rw [size_ex _ _ _ hsz]; omega) fun i hi => ?_
  rw [size_ex _ _ _ hsz] at hi
  rw [gb_ex _ _ _ _ hsz (by omega), gb_right, gb_left (by omega)]
/-- A line with its newline. -/
def LineB (l : ByteArray) : Prop := 1 ≤ l.size ∧ gb l (l.size - 1) = 10 ∧ ∀ i, i + 1 < l.size → gb l i ≠ 10
theorem stTo_line {a l b : ByteArray} {A : List ByteArray} (h : stTo (a ++ (l ++ b)) a.size = (A, a.size)) (hl : LineB l) : stTo (a ++ (l ++ b)) (a.size + l.size) = (A ++ [l], a.size + l.size) := by
  obtain ⟨h1, h2, h3⟩ := hl
  have e1 : stTo (a ++ (l ++ b)) (a.size + (l.size - 1)) = (A, a.size) := by
    rw [stTo_skip _ _ _ (fun i hi => ?_), h]
    rw [gb_right, gb_left (by omega)]
    exact h3 i (by omega)
  have e2 : gb (a ++ (l ++ b)) (a.size + (l.size - 1)) = 10 := by rw [gb_right, gb_left (by omega)]; exact h2
  have e3 := stTo_nl e2
  rw [e1, show a.size + (l.size - 1) + 1 = a.size + l.size by omega, ext_mid] at e3
  exact e3
theorem app_assoc (a b c : ByteArray) : a ++ b ++ c = a ++ (b ++ c) := by
  apply ByteArray.ext
  simp [ByteArray.data_append, Array.append_assoc]
theorem stTo_cat (t : ByteArray) : ∀ (L A : List ByteArray), (∀ l ∈ L, LineB l) → stTo (catB (A ++ L) ++ t) (catB A).size = (A, (catB A).size) → stTo (catB (A ++ L) ++ t) (catB (A ++ L)).size = (A ++ L, (catB (A ++ L)).size)
  | [], A, _, h => by simpa using h
  | l :: L, A, hL, h => by
    have e : A ++ l :: L = (A ++ [l]) ++ L := by simp
    rw [e] at h ⊢
    refine stTo_cat t L (A ++ [l]) (fun x hx => hL x (by simp [hx])) ?_
    have e2 : catB (A ++ [l] ++ L) ++ t = catB A ++ (l ++ (catB L ++ t)) := by rw [catB_app, catB_app, catB_one, app_assoc, app_assoc]
    rw [e2] at h ⊢
    have := stTo_line h (hL l (by simp))
    rw [catB_app, catB_one, ByteArray.size_append]
    exact this
theorem cut_cat (L : List ByteArray) (t : ByteArray) (hL : ∀ l ∈ L, LineB l) (ht : ∀ i, i < t.size → gb t i ≠ 10) : cutAll (catB L ++ t) = if t.size = 0 then L else L ++ [t] := by
  have h := stTo_cat t L [] hL rfl
  rw [List.nil_append] at h
  have h2 : stTo (catB L ++ t) ((catB L).size + t.size) = (L, (catB L).size) := by
    rw [stTo_skip _ _ _ (fun i hi => by rw [gb_right]; exact ht i hi), h]
  unfold cutAll
  rw [ByteArray.size_append, h2]
  simp only
  by_cases h0 : t.size = 0
  · rw [if_pos h0, if_neg (by omega)]
  · rw [if_neg h0, if_pos (by omega)]
    have : (catB L ++ t).extract (catB L).size ((catB L).size + t.size) = t := by
      have := ext_mid (catB L) t ⟨#[]⟩
      rwa [show t ++ (⟨#[]⟩ : ByteArray) = t from by apply ByteArray.ext; simp [ByteArray.data_append]] at this
    rw [this]
theorem cut_lines (L : List ByteArray) (hL : ∀ l ∈ L, LineB l) : cutAll (catB L) = L := by
  have := cut_cat L ⟨#[]⟩ hL (fun i hi => by simp [ByteArray.size] at hi)
  rw [show catB L ++ (⟨#[]⟩ : ByteArray) = catB L from by apply ByteArray.ext; simp [ByteArray.data_append]] at this
  rw [this]
  rfl
/-- The lines that a text of the statement may have. -/
def nineLines : List ByteArray := fiveLines ++ [⟨#[112]⟩, ⟨#[113]⟩, ⟨#[207, 137, 32, 207, 137]⟩, ⟨#[116, 119, 101, 108, 118, 101, 32, 114, 117, 110, 101, 115]⟩]
theorem five_line {l : ByteArray} (h : l ∈ fiveLines) : LineB l := by
  simp only [fiveLines, List.mem_cons, List.not_mem_nil, or_false] at h
  rcases h with rfl | rfl | rfl | rfl | rfl <;> refine ⟨by decide, by decide, ?_⟩ <;> intro i hi <;> simp [ByteArray.size] at hi
  · obtain rfl : i = 0 := by omega
    decide
  · obtain rfl : i = 0 := by omega
    decide
  · obtain rfl | rfl | rfl | rfl | rfl : i = 0 ∨ i = 1 ∨ i = 2 ∨ i = 3 ∨ i = 4 := by omega
    all_goals decide
  · obtain rfl | rfl | rfl | rfl | rfl | rfl | rfl | rfl | rfl | rfl | rfl | rfl : i = 0 ∨ i = 1 ∨ i = 2 ∨ i = 3 ∨ i = 4 ∨ i = 5 ∨ i = 6 ∨ i = 7 ∨ i = 8 ∨ i = 9 ∨ i = 10 ∨ i = 11 := by omega
    all_goals decide
theorem joinTo_cat (L : List ByteArray) : ∀ k, k ≤ L.length → joinTo L k = catB (L.take k)
  | 0, _ => rfl
  | k + 1, hk => by
    rw [joinTo, joinTo_cat L k (by omega), List.take_succ_eq_append_getElem (by omega), catB_app, catB_one, List.getD_eq_getElem?_getD, List.getElem?_eq_getElem (by omega)]
    rfl
theorem joinTo_all (L : List ByteArray) : joinTo L L.length = catB L := by rw [joinTo_cat L _ (Nat.le_refl _), List.take_length]
theorem cat_size (L : List ByteArray) (m : Nat) (h : ∀ l ∈ L, l.size ≤ m) : (catB L).size ≤ L.length * m := by
  induction L with
  | nil => simp [catB, ByteArray.size]
  | cons l L ih =>
    rw [catB_cons, ByteArray.size_append, List.length_cons, Nat.add_mul]
    have := h l (by simp)
    have := ih (fun x hx => h x (by simp [hx]))
    omega
/-- A text of the statement, by its lines. -/
theorem text_lines (L : List ByteArray) (op : Bool) (hL : ∀ l ∈ L, l ∈ fiveLines) (h16 : L.length ≤ 16) : ∃ C : List ByteArray, cutAll (joinedB L op) = C ∧ catB C = joinedB L op ∧ (∀ l ∈ C, l ∈ nineLines) ∧ C.length ≤ 16 ∧ (joinedB L op).size ≤ 208 := by
  have hLB : ∀ l ∈ L, LineB l := fun l hl => five_line (hL l hl)
  have h13 : ∀ l ∈ L, l.size ≤ 13 := fun l hl => by
    have := hL l hl
    simp only [fiveLines, List.mem_cons, List.not_mem_nil, or_false] at this
    rcases this with rfl | rfl | rfl | rfl | rfl <;> decide
  have hsz := cat_size L 13 h13
  have hplain : ∃ C : List ByteArray, cutAll (catB L) = C ∧ catB C = catB L ∧ (∀ l ∈ C, l ∈ nineLines) ∧ C.length ≤ 16 ∧ (catB L).size ≤ 208 :=
    ⟨L, cut_lines L hLB, rfl, fun l hl => List.mem_append.2 (.inl (hL l hl)), h16, by omega⟩
  unfold joinedB
  rw [joinTo_all]
  split
  · rename_i hop
    have hne : L ≠ [] := by
      rintro rfl
      simp [catB, ByteArray.size] at hop
    obtain ⟨A, l, rfl⟩ : ∃ A l, L = A ++ [l] := ⟨_, _, (List.dropLast_concat_getLast hne).symm⟩
    have hA : ∀ x ∈ A, x ∈ fiveLines := fun x hx => hL x (by simp [hx])
    have hAB : ∀ x ∈ A, LineB x := fun x hx => five_line (hA x hx)
    have hl5 := hL l (by simp)
    have hls : 1 ≤ l.size := (five_line hl5).1
    have hcut : (catB (A ++ [l])).extract 0 ((catB (A ++ [l])).size - 1) = catB A ++ l.extract 0 (l.size - 1) := by
      rw [catB_app, catB_one, ByteArray.size_append]
      have h1 : (catB A).size + l.size - 1 ≤ (catB A ++ l).size := by rw [ByteArray.size_append]; omega
      refine ext_gb (by rw [size_ex _ _ _ h1, ByteArray.size_append, size_ex _ _ _ (by omega)]; omega) fun i hi => ?_
      rw [size_ex _ _ _ h1] at hi
      rw [gb_ex _ _ _ _ h1 hi, Nat.zero_add]
      by_cases hlt : i < (catB A).size
      · rw [gb_left hlt, gb_left hlt]
      · obtain ⟨j, rfl⟩ : ∃ j, i = (catB A).size + j := ⟨i - (catB A).size, by omega⟩
        rw [gb_right, gb_right, gb_ex _ _ _ _ (by omega) (by omega), Nat.zero_add]
    rw [hcut]
    have ht : ∀ i, i < (l.extract 0 (l.size - 1)).size → gb (l.extract 0 (l.size - 1)) i ≠ 10 := fun i hi => by
      rw [size_ex _ _ _ (by omega)] at hi
      rw [gb_ex _ _ _ _ (by omega) hi, Nat.zero_add]
      exact (five_line hl5).2.2 i (by omega)
    have hc := cut_cat A _ hAB ht
    have hAl : A.length + 1 ≤ 16 := by simpa using h16
    have hsA := cat_size A 13 (fun x hx => h13 x (by simp [hx]))
    have hl13 := h13 l (by simp)
    have hsz2 : (catB A ++ l.extract 0 (l.size - 1)).size ≤ 208 := by rw [ByteArray.size_append, size_ex _ _ _ (by omega)]; omega
    by_cases h0 : (l.extract 0 (l.size - 1)).size = 0
    · rw [if_pos h0] at hc
      refine ⟨A, hc, ?_, fun x hx => List.mem_append.2 (.inl (hA x hx)), by omega, hsz2⟩
      refine ext_gb (by rw [ByteArray.size_append, h0]; rfl) fun i hi => by rw [gb_left hi]
    · rw [if_neg h0] at hc
      refine ⟨A ++ [l.extract 0 (l.size - 1)], hc, by rw [catB_app, catB_one], fun x hx => ?_, by simpa using hAl, hsz2⟩
      rcases List.mem_append.1 hx with hx | hx
      · exact List.mem_append.2 (.inl (hA x hx))
      · have hx' := List.mem_singleton.1 hx
        subst hx'
        refine List.mem_append.2 (.inr ?_)
        simp only [fiveLines, List.mem_cons, List.not_mem_nil, or_false] at hl5
        rcases hl5 with rfl | rfl | rfl | rfl | rfl
        · exact List.mem_cons.2 (.inl (by decide))
        · exact List.mem_cons.2 (.inr (List.mem_cons.2 (.inl (by decide))))
        · exact List.mem_cons.2 (.inr (List.mem_cons.2 (.inr (List.mem_cons.2 (.inl (by decide))))))
        · exact absurd (by decide) h0
        · exact List.mem_cons.2 (.inr (List.mem_cons.2 (.inr (List.mem_cons.2 (.inr (List.mem_cons.2 (.inl (by decide))))))))
  · exact hplain
end Go.Proofs.YtgdfipmdmgkidaaGreatDoor
