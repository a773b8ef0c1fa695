/- The contract of the program's test whether words are a command. -/
import Derived.Test.YtgdfipmdmgkidaaWsplit
namespace Go.Proofs.Ytgdfipmdmgkidaa
open Go.RowKit

/-- What a slice of texts reads as, wherever it begins. -/
def View (w : World) (ao : Option Addr) (L : List ByteArray) : Prop := L.length = 0 ∨ ∃ b o, ao = some ⟨b, o, none⟩ ∧ b < w.heap.size ∧ ∀ k, k < L.length → w.cell? ⟨b, o + k, none⟩ = some (.string (L.getD k ByteArray.empty))

theorem View.below {w w' : World} {ao : Option Addr} {L : List ByteArray} (h : View w ao L) (hb : Below w.heap.size w w') : View w' ao L := by
  rcases h with h | ⟨b, o, rfl, hlt, hc⟩
  · exact .inl h
  · exact .inr ⟨b, o, rfl, by have := hb.size; omega, fun k hk => (hb.cell (p := ⟨b, o + k, none⟩) hlt).trans (hc k hk)⟩
theorem View.own {w : World} {B cap : Nat} {ao : Option Addr} {L : List ByteArray} (h : w.ownsRow B 9 1 (.slice ao L.length cap) L.length (strs L)) : View w ao L := by
  by_cases h0 : L.length = 0
  · exact .inl h0
  · obtain ⟨g, rfl, _, hg⟩ := own_at h (by omega)
    exact .inr ⟨g, 0, rfl, hg, fun k hk => by rw [Nat.zero_add]; exact row_cell h k hk⟩

abbrev wRecord : ByteArray := ⟨#[114, 101, 99, 111, 114, 100]⟩
abbrev wUnrecord : ByteArray := ⟨#[117, 110, 114, 101, 99, 111, 114, 100]⟩
abbrev wObliterate : ByteArray := ⟨#[111, 98, 108, 105, 116, 101, 114, 97, 116, 101]⟩
abbrev wShow : ByteArray := ⟨#[115, 104, 111, 119]⟩
abbrev wSwap : ByteArray := ⟨#[115, 119, 97, 112]⟩
abbrev wPull : ByteArray := ⟨#[112, 117, 108, 108]⟩
abbrev wRevert : ByteArray := ⟨#[114, 101, 118, 101, 114, 116]⟩
abbrev wNew : ByteArray := ⟨#[110, 101, 119]⟩
abbrev wLog : ByteArray := ⟨#[108, 111, 103]⟩
abbrev wOrder : ByteArray := ⟨#[111, 114, 100, 101, 114]⟩

def recB : List ByteArray → Bool
  | [] => false
  | a :: T => idB a && T.all nameB
def oneB : List ByteArray → Bool
  | [a] => idB a
  | _ => false
def pullB : List ByteArray → Bool
  | [a] => repoB a
  | [a, b] => repoB a && idB b
  | _ => false
def oneW (t : ByteArray) : Prop := t = wUnrecord ∨ t = wObliterate ∨ t = wShow ∨ t = wSwap
def noneW (t : ByteArray) : Prop := t = wRevert ∨ t = wNew ∨ t = wLog ∨ t = wOrder

set_option maxHeartbeats 800000 in
theorem areNames34_any (L : List ByteArray) (ao : Option Addr) (cap : Nat) (w : World) (hv : View w ao L) (hlen : L.length ≤ 1000000) :
    Calls Try.prog 34 #[.slice ao L.length cap] w fun e w' => e = .returned (.bool (L.all nameB)) ∧ Below w.heap.size w w' := by
  go_enter Try.func34, Try.ntmps34
  go_wp2
  go_loopw [7] (fun i wr => ∃ k : Nat, k ≤ L.length ∧ i = .int .i64 k ∧ Hid ((L.take k).all nameB = true) ∧ Below w.heap.size w wr) (fun i _ => L.length - (intOf i).toNat)
  case atStart => exact ⟨0, Nat.zero_le _, rfl, rfl, Below.refl _ _⟩
  case round =>
    obtain ⟨k, hk, rfl, HN, hbw⟩ := hrel
    by_cases hlt : k < L.length
    · rcases hv with h | ⟨b, o, rfl, hb, hc⟩
      · omega
      obtain ⟨t, ht⟩ : ∃ t, t = L.getD k ByteArray.empty := ⟨_, rfl⟩
      have hcell : wr.cell? ⟨b, o + k, none⟩ = some (.string t) := by rw [ht]; exact (hbw.cell (p := ⟨b, o + k, none⟩) hb).trans (hc k hlt)
      have HT : Hid (t = L[k]) := by rw [ht, List.getD_eq_getElem?_getD, List.getElem?_eq_getElem hlt]; rfl
      clear ht hc
      have hsz1 := hbw.size
      cases hl : nameB t
      · have HL : Hid (nameB t = false) := hl
        clear hl
        go_wp2_with (go_at_call 42; refine (isName42_any t _).mono ?_; rw [HL.out]; rintro e w' ⟨rfl, hb2⟩)
        go_ret
        have hno : L.all nameB = false := by rw [List.all_eq_false]; exact ⟨L[k], List.getElem_mem hlt, by rw [← HT.out, HL.out]; simp⟩
        exact ⟨ret_bool hno.symm, hbw.trans (hb2.mono (by omega))⟩
      · have HL : Hid (nameB t = true) := hl
        clear hl
        go_wp2_with (go_at_call 42; refine (isName42_any t _).mono ?_; rw [HL.out]; rintro e w' ⟨rfl, hb2⟩)
        go_roundw
        case rel => exact ⟨k + 1, by omega, by go_num, by show _ = _; rw [List.take_succ_eq_append_getElem hlt, List.all_append, HN.out, ← HT.out]; simp [HL.out], hbw.trans (hb2.mono (by omega))⟩
        case measure => simp [intOf]; omega
    · go_wp2
      go_ret
      have e : k = L.length := by omega
      have hn := HN.out
      rw [e, List.take_length] at hn
      exact ⟨ret_bool hn.symm, hbw⟩

set_option maxHeartbeats 800000 in
theorem isPull35_any (L : List ByteArray) (ao : Option Addr) (cap : Nat) (w : World) (hv : View w ao L) (hlen : L.length ≤ 1000000) :
    Calls Try.prog 35 #[.slice ao L.length cap] w fun e w' => e = .returned (.bool (pullB L)) ∧ Below w.heap.size w w' := by
  match L, hv, hlen with
  | [], hv, _ =>
    have h1 : (((([] : List ByteArray).length : Nat) : Int) == 1) = false := rfl
    have h2 : (((([] : List ByteArray).length : Nat) : Int) == 2) = false := rfl
    go_enter Try.func35, Try.ntmps35
    go_wp2
    go_ret
    exact ⟨rfl, Below.refl _ _⟩
  | [a], hv, _ =>
    rcases hv with h | ⟨b, o, rfl, hb, hc⟩
    · simp at h
    have hc0 : w.cell? ⟨b, o, none⟩ = some (.string a) := hc 0 (by simp)
    go_enter Try.func35, Try.ntmps35
    go_wp2_with (go_at_call 43; refine (isRepo43_any _ _).mono ?_; rintro e w' ⟨rfl, rfl⟩)
    go_ret
    exact ⟨rfl, Below.refl _ _⟩
  | [a, c], hv, _ =>
    rcases hv with h | ⟨b, o, rfl, hb, hc⟩
    · simp at h
    have hc0 : w.cell? ⟨b, o, none⟩ = some (.string a) := hc 0 (by simp)
    have hc1 : w.cell? ⟨b, o + 1, none⟩ = some (.string c) := hc 1 (by simp)
    cases hr : repoB a
    · have HR : Hid (repoB a = false) := hr
      clear hr
      go_enter Try.func35, Try.ntmps35
      go_wp2_with (go_at_call 43; refine (isRepo43_any _ _).mono ?_; rw [HR.out]; rintro e w' ⟨rfl, rfl⟩)
      go_ret
      exact ⟨ret_bool (by simp only [pullB, HR.out]; rfl), Below.refl _ _⟩
    · have HR : Hid (repoB a = true) := hr
      clear hr
      go_enter Try.func35, Try.ntmps35
      go_wp2_with (first | (go_at_call 43; refine (isRepo43_any _ _).mono ?_; rw [HR.out]; rintro e w' ⟨rfl, rfl⟩) | (go_at_call 33; refine (isId33_any _ _).mono ?_; rintro e w' ⟨rfl, hb2⟩))
      go_ret
      exact ⟨ret_bool (by simp only [pullB, HR.out]; simp), ‹_›⟩
  | a :: c :: d :: T, hv, hlen =>
    have h1 : ((((a :: c :: d :: T).length : Nat) : Int) == 1) = false := by rw [beq_eq_false_iff_ne]; simp; omega
    have h2 : ((((a :: c :: d :: T).length : Nat) : Int) == 2) = false := by rw [beq_eq_false_iff_ne]; simp; omega
    have e : pullB (a :: c :: d :: T) = false := rfl
    rw [e]
    clear hv e
    generalize (a :: c :: d :: T).length = n at *
    go_enter Try.func35, Try.ntmps35
    go_wp2
    go_ret
    exact ⟨rfl, Below.refl _ _⟩

theorem word_ne {t l : ByteArray} (h : t ≠ l) : (t.toList == l.toList) = false := by
  rw [beq_eq_false_iff_ne]
  intro e
  rw [toList_data, toList_data] at e
  apply h
  cases t with
  | mk a => cases l with
    | mk b => congr 1; exact Array.ext' e

set_option maxHeartbeats 1600000 in
theorem cmd26_none (t : ByteArray) (ht : noneW t) (R : List ByteArray) (b o cap : Nat) (w : World) (hc0 : w.cell? ⟨b, o, none⟩ = some (.string t)) (hcap : R.length + 1 ≤ cap) (hlen : R.length ≤ 1000000) :
    Calls Try.prog 26 #[.slice (some ⟨b, o, none⟩) (R.length + 1) cap] w fun e w' => e = .returned (.bool R.isEmpty) ∧ Below w.heap.size w w' := by
  have hl : (((R.length + 1 : Nat) : Int) == 0) = false := by rw [beq_eq_false_iff_ne]; omega
  have HE : Hid (R.isEmpty = (((R.length : Nat) : Int) == 0)) := by cases R with | nil => rfl | cons a T => (show _ = _; symm; rw [List.isEmpty_cons, beq_eq_false_iff_ne, List.length_cons]; omega)
  generalize R.length = n at *
  rcases ht with rfl | rfl | rfl | rfl
  all_goals
    by_cases hc1 : cap = 1
    all_goals
      go_enter Try.func26, Try.ntmps26
      go_wp2
      go_ret
      exact ⟨ret_bool HE.out.symm, Below.refl _ _⟩

theorem view_rest {w : World} {b o : Nat} {R : List ByteArray} (hb : b < w.heap.size) (hcR : ∀ k, k < R.length → w.cell? ⟨b, o + 1 + k, none⟩ = some (.string (R.getD k ByteArray.empty))) : View w (some ⟨b, o + 1, none⟩) R := .inr ⟨b, o + 1, rfl, hb, hcR⟩

set_option maxHeartbeats 1600000 in
theorem cmd26_one (t : ByteArray) (ht : oneW t) (R : List ByteArray) (b o cap : Nat) (w : World) (hc0 : w.cell? ⟨b, o, none⟩ = some (.string t)) (hcR : ∀ k, k < R.length → w.cell? ⟨b, o + 1 + k, none⟩ = some (.string (R.getD k ByteArray.empty))) (hcap : R.length + 1 ≤ cap) (hlen : R.length ≤ 1000000) :
    Calls Try.prog 26 #[.slice (some ⟨b, o, none⟩) (R.length + 1) cap] w fun e w' => e = .returned (.bool (oneB R)) ∧ Below w.heap.size w w' := by
  have hl : (((R.length + 1 : Nat) : Int) == 0) = false := by rw [beq_eq_false_iff_ne]; omega
  by_cases h1 : R.length = 1
  · obtain ⟨a, rfl⟩ := List.length_eq_one_iff.1 h1
    have hc1 : w.cell? ⟨b, o + 1, none⟩ = some (.string a) := hcR 0 (by simp)
    have hcc : ¬ cap = 1 := by simp at hcap; omega
    clear hcR h1 hl
    rcases ht with rfl | rfl | rfl | rfl
    all_goals
      go_enter Try.func26, Try.ntmps26
      go_wp2_with (go_at_call 33; refine (isId33_any _ _).mono ?_; rintro e w' ⟨rfl, hb2⟩)
      go_ret
      exact ⟨rfl, ‹_›⟩
  · have hno : oneB R = false := by
      match R, h1 with
      | [], _ => rfl
      | [_], h => simp at h
      | _ :: _ :: _, _ => rfl
    have hl1 : (((R.length : Nat) : Int) == 1) = false := by rw [beq_eq_false_iff_ne]; omega
    rw [hno]
    clear hcR hno h1
    generalize R.length = n at *
    rcases ht with rfl | rfl | rfl | rfl
    all_goals
      by_cases hc1 : cap = 1
      all_goals
        go_enter Try.func26, Try.ntmps26
        go_wp2
        go_ret
        exact ⟨rfl, Below.refl _ _⟩

set_option maxHeartbeats 1600000 in
theorem cmd26_pull (R : List ByteArray) (b o cap : Nat) (w : World) (hb : b < w.heap.size) (hc0 : w.cell? ⟨b, o, none⟩ = some (.string wPull)) (hcR : ∀ k, k < R.length → w.cell? ⟨b, o + 1 + k, none⟩ = some (.string (R.getD k ByteArray.empty))) (hcap : R.length + 1 ≤ cap) (hlen : R.length ≤ 1000000) :
    Calls Try.prog 26 #[.slice (some ⟨b, o, none⟩) (R.length + 1) cap] w fun e w' => e = .returned (.bool (pullB R)) ∧ Below w.heap.size w w' := by
  have hl : (((R.length + 1 : Nat) : Int) == 0) = false := by rw [beq_eq_false_iff_ne]; omega
  by_cases hc1 : cap = 1
  · have h0 : R.length = 0 := by omega
    have hR : R = [] := List.eq_nil_of_length_eq_zero h0
    subst hR
    subst hc1
    clear hl h0 hcR
    go_enter Try.func26, Try.ntmps26
    go_wp2_with fail
    refine (isPull35_any [] _ _ _ (.inl rfl) (by simp)).mono ?_
    rintro e w' ⟨rfl, hb2⟩
    go_wp2
    go_ret
    exact ⟨rfl, hb2⟩
  · have hv := view_rest hb hcR
    clear hcR
    go_enter Try.func26, Try.ntmps26
    go_wp2_with fail
    refine (isPull35_any R _ _ _ hv hlen).mono ?_
    rintro e w' ⟨rfl, hb2⟩
    go_wp2
    go_ret
    exact ⟨rfl, hb2⟩

set_option maxHeartbeats 1600000 in
theorem cmd26_record (R : List ByteArray) (b o cap : Nat) (w : World) (hb : b < w.heap.size) (hc0 : w.cell? ⟨b, o, none⟩ = some (.string wRecord)) (hcR : ∀ k, k < R.length → w.cell? ⟨b, o + 1 + k, none⟩ = some (.string (R.getD k ByteArray.empty))) (hcap : R.length + 1 ≤ cap) (hlen : R.length ≤ 1000000) :
    Calls Try.prog 26 #[.slice (some ⟨b, o, none⟩) (R.length + 1) cap] w fun e w' => e = .returned (.bool (recB R)) ∧ Below w.heap.size w w' := by
  match R, hcR, hcap, hlen with
  | [], _, hcap, _ =>
    by_cases hc1 : cap = 1
    all_goals
      go_enter Try.func26, Try.ntmps26
      go_wp2
      go_ret
      exact ⟨rfl, Below.refl _ _⟩
  | a :: T, hcR, hcap, hlen =>
    have hc1 : w.cell? ⟨b, o + 1, none⟩ = some (.string a) := hcR 0 (by simp)
    have hcc : ¬ cap = 1 := by simp at hcap; omega
    have hcT : ∀ k, k < T.length → w.cell? ⟨b, o + 1 + 1 + k, none⟩ = some (.string (T.getD k ByteArray.empty)) := fun k hk => by
      have := hcR (k + 1) (by simpa using hk)
      rw [show o + 1 + 1 + k = o + 1 + (k + 1) by omega]
      simpa using this
    simp only [List.length_cons] at hcap hlen ⊢
    clear hcR
    have hl : (((T.length + 1 + 1 : Nat) : Int) == 0) = false := by rw [beq_eq_false_iff_ne]; omega
    cases hid : idB a
    · have HI : Hid (idB a = false) := hid
      have e : recB (a :: T) = false := by show (idB a && T.all nameB) = _; rw [hid]; rfl
      rw [e]
      clear hid e hcT
      generalize T.length = n at *
      go_enter Try.func26, Try.ntmps26
      go_wp2_with (go_at_call 33; refine (isId33_any _ _).mono ?_; rw [HI.out]; rintro e w' ⟨rfl, hb2⟩)
      go_ret
      exact ⟨rfl, ‹_›⟩
    · have HI : Hid (idB a = true) := hid
      have e : recB (a :: T) = T.all nameB := by show (idB a && T.all nameB) = _; rw [hid]; rfl
      rw [e]
      clear hid e
      by_cases hc2 : cap = 2
      · have h0 : T.length = 0 := by omega
        have hT : T = [] := List.eq_nil_of_length_eq_zero h0
        subst hT
        subst hc2
        clear hl h0 hcT
        go_enter Try.func26, Try.ntmps26
        go_wp2_with fail
        refine (isId33_any _ _).mono ?_
        rw [HI.out]
        rintro e w' ⟨rfl, hb2⟩
        go_wp2_with fail
        refine (areNames34_any [] _ _ _ (.inl rfl) (by simp)).mono ?_
        rintro e w2 ⟨rfl, hb3⟩
        go_wp2
        go_ret
        exact ⟨rfl, hb2.trans (hb3.mono hb2.size)⟩
      · have hv : View w (some ⟨b, o + 1 + 1, none⟩) T := .inr ⟨b, _, rfl, hb, hcT⟩
        clear hcT
        go_enter Try.func26, Try.ntmps26
        go_wp2_with fail
        refine (isId33_any _ _).mono ?_
        rw [HI.out]
        rintro e w' ⟨rfl, hb2⟩
        go_wp2_with fail
        refine (areNames34_any T _ _ _ (hv.below hb2) (by omega)).mono ?_
        rintro e w2 ⟨rfl, hb3⟩
        go_wp2
        go_ret
        exact ⟨rfl, hb2.trans (hb3.mono hb2.size)⟩

structure otherW (t : ByteArray) : Prop where
  a : (t.toList == [114, 101, 99, 111, 114, 100]) = false
  b : (t.toList == [117, 110, 114, 101, 99, 111, 114, 100]) = false
  c : (t.toList == [111, 98, 108, 105, 116, 101, 114, 97, 116, 101]) = false
  d : (t.toList == [115, 104, 111, 119]) = false
  e : (t.toList == [115, 119, 97, 112]) = false
  f : (t.toList == [112, 117, 108, 108]) = false
  g : (t.toList == [114, 101, 118, 101, 114, 116]) = false
  h : (t.toList == [110, 101, 119]) = false
  i : (t.toList == [108, 111, 103]) = false
  j : (t.toList == [111, 114, 100, 101, 114]) = false

theorem words_all (t : ByteArray) : t = wRecord ∨ oneW t ∨ t = wPull ∨ noneW t ∨ otherW t := by
  by_cases h1 : t = wRecord
  · exact .inl h1
  by_cases h2 : oneW t
  · exact .inr (.inl h2)
  by_cases h3 : t = wPull
  · exact .inr (.inr (.inl h3))
  by_cases h4 : noneW t
  · exact .inr (.inr (.inr (.inl h4)))
  unfold oneW at h2
  unfold noneW at h4
  simp only [not_or] at h2 h4
  have k : ∀ {l : List UInt8}, t ≠ ⟨l.toArray⟩ → (t.toList == l) = false := by
    intro l h
    have := word_ne h
    rw [toList_data ⟨l.toArray⟩] at this
    exact this
  exact .inr (.inr (.inr (.inr ⟨k h1, k h2.1, k h2.2.1, k h2.2.2.1, k h2.2.2.2, k h3, k h4.1, k h4.2.1, k h4.2.2.1, k h4.2.2.2⟩)))

set_option maxHeartbeats 1600000 in
theorem cmd26_other (t : ByteArray) (ht : otherW t) (n : Nat) (b o cap : Nat) (w : World) (hc0 : w.cell? ⟨b, o, none⟩ = some (.string t)) (hcap : n + 1 ≤ cap) (hlen : n ≤ 1000000) :
    Calls Try.prog 26 #[.slice (some ⟨b, o, none⟩) (n + 1) cap] w fun e w' => e = .returned (.bool false) ∧ Below w.heap.size w w' := by
  have hl : (((n + 1 : Nat) : Int) == 0) = false := by rw [beq_eq_false_iff_ne]; omega
  obtain ⟨ha, hb, hc, hd, he, hf, hg, hh, hi, hj⟩ := ht
  by_cases hc1 : cap = 1
  all_goals
    go_enter Try.func26, Try.ntmps26
    go_wp2
    go_ret
    exact ⟨rfl, Below.refl _ _⟩

set_option maxHeartbeats 400000 in
theorem cmd26_empty (ao : Option Addr) (cap : Nat) (w : World) : Calls Try.prog 26 #[.slice ao 0 cap] w fun e w' => e = .returned (.bool false) ∧ Below w.heap.size w w' := by
  go_enter Try.func26, Try.ntmps26
  go_wp2
  go_ret
  exact ⟨rfl, Below.refl _ _⟩

end Go.Proofs.Ytgdfipmdmgkidaa
