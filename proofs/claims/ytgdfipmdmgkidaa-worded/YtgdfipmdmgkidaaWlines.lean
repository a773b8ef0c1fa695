/- The contracts of the program's Lines and of the document's: the same lines, and the same error. -/
import Derived.Test.YtgdfipmdmgkidaaWover
import Derived.Test.YtgdfipmdmgkidaaWcut
namespace Go.Proofs.Ytgdfipmdmgkidaa
open Go.RowKit

def anyLong (L : List ByteArray) : Bool := L.any fun l => decide (12 < lineRunes l)

/-- The cell of a row of texts. -/
theorem row_cell {w : World} {B g n cap : Nat} {L : List ByteArray} (h : w.ownsRow B 9 1 (.slice (some ⟨g, 0, none⟩) n cap) n (strs L)) (k : Nat) (hk : k < L.length) : w.cell? ⟨g, k, none⟩ = some (.string (L.getD k ByteArray.empty)) := by
  have hn : n = L.length := by have := h.1; simp at this; omega
  rw [h.cellAt k (by omega)]
  simp [hk]
theorem own_shape {w : World} {B n size : Nat} {e : TypeId} {v : Value} {xs : List Value} (h : w.ownsRow B e size v n xs) : ∃ ao cap, v = .slice ao n cap := by
  rcases h.2 with ⟨rfl, rfl⟩ | ⟨g, cap, cur, rfl, _⟩
  · exact ⟨_, _, rfl⟩
  · exact ⟨_, _, rfl⟩
theorem own_at {w : World} {B n cap size : Nat} {e : TypeId} {ao : Option Addr} {xs : List Value} (h : w.ownsRow B e size (.slice ao n cap) n xs) (hn : 0 < n) : ∃ g, ao = some ⟨g, 0, none⟩ ∧ B ≤ g ∧ g < w.heap.size := by
  rcases h.2 with ⟨h1, rfl⟩ | ⟨g, cap, cur, h1, h2, h3, _⟩
  · omega
  · cases h1
    exact ⟨g, rfl, h2, (Array.getElem?_eq_some_iff.1 h3).1⟩

theorem own_below {w w1 : World} {B B' n size : Nat} {e : TypeId} {v : Value} {xs : List Value} (h : w.ownsRow B e size v n xs) (hb : Below B' w w1) (hB : w.heap.size ≤ B') : w1.ownsRow B e size v n xs := by
  refine ⟨h.1, ?_⟩
  rcases h.2 with h2 | ⟨g, cap, cur, a, b, c, d⟩
  · exact .inl h2
  · exact .inr ⟨g, cap, cur, a, b, by rw [hb.block g (by have := (Array.getElem?_eq_some_iff.1 c).1; omega)]; exact c, d⟩

theorem anyLong_yes {L : List ByteArray} {k : Nat} (hk : k < L.length) (h : decide (12 < lineRunes (L.getD k ByteArray.empty)) = true) : anyLong L = true := by
  unfold anyLong
  rw [List.any_eq_true]
  refine ⟨L[k], List.getElem_mem hk, ?_⟩
  rw [List.getD_eq_getElem?_getD, List.getElem?_eq_getElem hk] at h
  exact h
theorem anyLong_next {L : List ByteArray} {k : Nat} (hk : k < L.length) (h0 : anyLong (L.take k) = false) (h : decide (12 < lineRunes (L.getD k ByteArray.empty)) = false) : anyLong (L.take (k + 1)) = false := by
  unfold anyLong at *
  rw [List.take_succ_eq_append_getElem hk, List.any_append, h0]
  rw [List.getD_eq_getElem?_getD, List.getElem?_eq_getElem hk] at h
  simpa using h

set_option maxHeartbeats 800000 in
theorem index29_any (L : List ByteArray) (ao : Option Addr) (cap B : Nat) (w : World) (hown : w.ownsRow B 9 1 (.slice ao L.length cap) L.length (strs L)) (hlen : L.length ≤ 1000000) (hsz : ∀ l ∈ L, l.size ≤ maxLen) :
    Calls Try.prog 29 #[.slice ao L.length cap, .func (.func 21) #[] #[]] w fun e w' => ∃ r : Int, e = .returned (.int .i64 r) ∧ (0 ≤ r ↔ anyLong L = true) ∧ Below w.heap.size w w' := by
  go_enter Try.func29, Try.ntmps29
  go_wp2
  go_loopw [8] (fun i wr => ∃ k : Nat, k ≤ L.length ∧ i = .int .i64 k ∧ anyLong (L.take k) = false ∧ Below w.heap.size w wr) (fun i _ => L.length - (intOf i).toNat)
  case atStart => exact ⟨0, Nat.zero_le _, rfl, rfl, Below.refl _ _⟩
  case round =>
    obtain ⟨k, hk, rfl, hno, hbw⟩ := hrel
    have HN : Hid (anyLong (L.take k) = false) := hno
    clear hno
    by_cases hlt : k < L.length
    · obtain ⟨g, hao, hgB, hgs⟩ := own_at hown (by omega)
      subst hao
      obtain ⟨s, hs⟩ : ∃ s, s = L.getD k ByteArray.empty := ⟨_, rfl⟩
      have hcell : wr.cell? ⟨g, k, none⟩ = some (.string s) := by rw [hs]; exact (hbw.cell (p := ⟨g, k, none⟩) hgs).trans (row_cell hown k hlt)
      have hss : s.size ≤ maxLen := by
        rw [hs, List.getD_eq_getElem?_getD, List.getElem?_eq_getElem hlt]
        exact hsz _ (List.getElem_mem hlt)
      have HS : Hid (s = L.getD k ByteArray.empty) := hs
      clear hs
      have hsz1 := hbw.size
      cases hl : decide (12 < lineRunes s)
      · have HL : Hid (decide (12 < lineRunes s) = false) := hl
        clear hl
        go_wp2_with (go_at_call 21; refine (isLong_any s _ hss).mono ?_; rw [HL.out]; rintro e w' ⟨rfl, hb2⟩)
        go_roundw
        case rel => exact ⟨k + 1, by omega, by go_num, anyLong_next hlt HN.out (by rw [← HS.out]; exact HL.out), hbw.trans (hb2.mono (by omega))⟩
        case measure => simp [intOf]; omega
      · have HL : Hid (decide (12 < lineRunes s) = true) := hl
        clear hl
        go_wp2_with (go_at_call 21; refine (isLong_any s _ hss).mono ?_; rw [HL.out]; rintro e w' ⟨rfl, hb2⟩)
        go_ret
        exact ⟨k, rfl, iff_of_true (by omega) (anyLong_yes hlt (by rw [← HS.out]; exact HL.out)), hbw.trans (hb2.mono (by omega))⟩
    · go_wp2
      go_ret
      have e : k = L.length := by omega
      have hn := HN.out
      rw [e, List.take_length] at hn
      exact ⟨-1, rfl, by rw [hn]; simp, hbw⟩

set_option maxHeartbeats 800000 in
theorem contains20_any (L : List ByteArray) (ao : Option Addr) (cap B : Nat) (w : World) (hown : w.ownsRow B 9 1 (.slice ao L.length cap) L.length (strs L)) (hlen : L.length ≤ 1000000) (hsz : ∀ l ∈ L, l.size ≤ maxLen) :
    Calls Try.prog 20 #[.slice ao L.length cap, .func (.func 21) #[] #[]] w fun e w' => e = .returned (.bool (anyLong L)) ∧ Below w.heap.size w w' := by
  go_enter Try.func20, Try.ntmps20
  go_wp2_with fail
  refine (index29_any L ao cap B w hown hlen hsz).mono ?_
  rintro e w' ⟨r, rfl, hr, hb⟩
  have HR : Hid (0 ≤ r ↔ anyLong L = true) := hr
  clear hr
  go_wp2
  go_ret
  exact ⟨ret_bool (by rw [Bool.eq_iff_iff, decide_eq_true_eq]; exact HR.out), hb⟩

def linesOk (s : ByteArray) : Bool := decide (s.size ≤ 240) && decide ((cutAll s).length ≤ 16) && !anyLong (cutAll s)
def linesOf (s : ByteArray) : List ByteArray := if linesOk s = true then cutAll s else []
def linesErr (s : ByteArray) : Int := if linesOk s = true then 0 else 3

theorem lines_no {s : ByteArray} (h : linesOk s = false) : linesOf s = [] ∧ linesErr s = 3 := by unfold linesOf linesErr; rw [h]; simp
theorem lines_yes {s : ByteArray} (h : linesOk s = true) : linesOf s = cutAll s ∧ linesErr s = 0 := by unfold linesOf linesErr; rw [h]; simp

set_option maxHeartbeats 800000 in
theorem lines12_any (s : ByteArray) (w : World) :
    Calls Try.prog 12 #[.string s] w fun e w' => ∃ v, e = .returned (.tuple #[v, .bool (linesOk s)]) ∧ w'.ownsRow w.heap.size 9 1 v (linesOf s).length (strs (linesOf s)) ∧ Below w.heap.size w w' := by
  by_cases h240 : 240 < s.size
  · have hno : linesOk s = false := by unfold linesOk; simp; omega
    rw [(lines_no hno).1, hno]
    clear hno
    go_enter Try.func12, Try.ntmps12
    go_wp2
    go_ret2
    exact ⟨_, rfl, World.ownsRow_nil _ _ _ _, Below.refl _ _⟩
  · have hsm : ∀ l ∈ cutAll s, l.size ≤ maxLen := fun l hl => by have := (cutAll_each s l hl).2; unfold maxLen; omega
    have hlm := cutAll_len s
    by_cases h16 : 16 < (cutAll s).length
    · have hno : linesOk s = false := by unfold linesOk; simp; omega
      rw [(lines_no hno).1, hno]
      clear hno
      go_enter Try.func12, Try.ntmps12
      go_wp2_with fail
      refine (cut19_any s w (by omega)).mono ?_
      rintro e w1 ⟨v, rfl, hown, hbw⟩
      obtain ⟨ao, cap, rfl⟩ := own_shape hown
      go_wp2
      go_ret2
      exact ⟨_, rfl, World.ownsRow_nil _ _ _ _, hbw⟩
    · cases hl : anyLong (cutAll s)
      · have hok : linesOk s = true := by unfold linesOk; rw [hl]; simp; omega
        rw [(lines_yes hok).1, hok]
        clear hok
        have HL : Hid (anyLong (cutAll s) = false) := hl
        clear hl
        go_enter Try.func12, Try.ntmps12
        go_wp2_with fail
        refine (cut19_any s w (by omega)).mono ?_
        rintro e w1 ⟨v, rfl, hown, hbw⟩
        obtain ⟨ao, cap, rfl⟩ := own_shape hown
        have hsz1 := hbw.size
        go_wp2_with (go_at_call 20; refine (contains20_any _ _ _ _ _ hown (by omega) hsm).mono ?_; rw [HL.out]; rintro e w' ⟨rfl, hb2⟩)
        go_ret2
        exact ⟨_, rfl, own_below hown hb2 (Nat.le_refl _), hbw.trans (hb2.mono hsz1)⟩
      · have hno : linesOk s = false := by unfold linesOk; rw [hl]; simp
        rw [(lines_no hno).1, hno]
        clear hno
        have HL : Hid (anyLong (cutAll s) = true) := hl
        clear hl
        go_enter Try.func12, Try.ntmps12
        go_wp2_with fail
        refine (cut19_any s w (by omega)).mono ?_
        rintro e w1 ⟨v, rfl, hown, hbw⟩
        obtain ⟨ao, cap, rfl⟩ := own_shape hown
        have hsz1 := hbw.size
        go_wp2_with (go_at_call 20; refine (contains20_any _ _ _ _ _ hown (by omega) hsm).mono ?_; rw [HL.out]; rintro e w' ⟨rfl, hb2⟩)
        go_ret2
        exact ⟨_, rfl, World.ownsRow_nil _ _ _ _, hbw.trans (hb2.mono hsz1)⟩

set_option maxHeartbeats 800000 in
theorem lines5_any (s : ByteArray) (w : World) :
    Calls Try.prog 5 #[.string s] w fun e w' => ∃ v, e = .returned (.tuple #[v, .int .i64 (linesErr s)]) ∧ w'.ownsRow w.heap.size 9 1 v (linesOf s).length (strs (linesOf s)) ∧ Below w.heap.size w w' := by
  cases hl : linesOk s
  · rw [(lines_no hl).1, (lines_no hl).2]
    go_enter Try.func5, Try.ntmps5
    go_wp2_with fail
    refine (lines12_any s w).mono ?_
    rw [(lines_no hl).1, hl]
    rintro e w1 ⟨v, rfl, hown, hbw⟩
    go_wp2
    go_ret2
    exact ⟨_, rfl, World.ownsRow_nil _ _ _ _, hbw⟩
  · rw [(lines_yes hl).1, (lines_yes hl).2]
    go_enter Try.func5, Try.ntmps5
    go_wp2_with fail
    refine (lines12_any s w).mono ?_
    rw [(lines_yes hl).1, hl]
    rintro e w1 ⟨v, rfl, hown, hbw⟩
    go_wp2
    go_ret2
    exact ⟨_, rfl, hown, hbw⟩
end Go.Proofs.Ytgdfipmdmgkidaa
