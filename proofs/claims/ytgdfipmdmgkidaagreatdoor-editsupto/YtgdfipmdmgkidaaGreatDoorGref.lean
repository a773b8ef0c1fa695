/- The document's world in memory, and the contracts of its calls on files. -/
import Derived.Test.YtgdfipmdmgkidaaGreatDoorGsorted
import Derived.Test.YtgdfipmdmgkidaaGreatDoorWids
import Derived.Test.YtgdfipmdmgkidaaGreatDoorWref
namespace Go.Proofs.YtgdfipmdmgkidaaGreatDoor
open Go.RowKit

/-- The files of a repository: names and texts, in the document's order. -/
abbrev Repo := List (ByteArray × ByteArray)
def nms (F : Repo) : List ByteArray := F.map Prod.fst
def txs (F : Repo) : List ByteArray := F.map Prod.snd
theorem nms_len (F : Repo) : (nms F).length = F.length := by simp [nms]
theorem txs_len (F : Repo) : (txs F).length = F.length := by simp [txs]
def rcells (p : Value × Value) : List Value := [p.1, p.2, .slice none 0 0]

structure RAt (w : World) (B rb sg : Nat) (vs : List (Value × Value)) (Fs : List Repo) : Prop where
  lo : B ≤ rb
  lo2 : B ≤ sg
  cell : w.heap[rb]? = some (.cells #[.slice none 0 0, .slice none 0 0, .slice none 0 0, .slice (some ⟨sg, 0, none⟩) Fs.length Fs.length] 192 (0, 0))
  row : w.heap[sg]? = some (.cells (vs.flatMap rcells).toArray 205 (0, 0))
  len : vs.length = Fs.length
  names : ∀ (j : Nat) (p : Value × Value) (F : Repo), vs[j]? = some p → Fs[j]? = some F → w.ownsRow B 9 1 p.1 (nms F).length (strs (nms F)) ∧ w.ownsRow B 9 1 p.2 (txs F).length (strs (txs F))
  few : ∀ F ∈ Fs, F.length ≤ 5
  n3 : Fs.length ≤ 3

theorem rcell_at {vs : List (Value × Value)} {k : Nat} (hk : k < vs.length) (j : Nat) (hj : j < 3) : (vs.flatMap rcells)[k * 3 + j]? = (rcells vs[k])[j]? := by
  induction vs generalizing k with
  | nil => simp at hk
  | cons a K ih =>
    rw [List.flatMap_cons]
    cases k with
    | zero =>
      rw [List.getElem?_append_left (by simp [rcells]; omega)]
      simp
    | succ k =>
      rw [List.getElem?_append_right (by simp [rcells]; omega)]
      have e : (k + 1) * 3 + j - (rcells a).length = k * 3 + j := by simp [rcells]; omega
      rw [e, ih (by simpa using hk)]
      simp

theorem RAt.cells {w : World} {B rb sg : Nat} {vs : List (Value × Value)} {Fs : List Repo} (h : RAt w B rb sg vs Fs) {j : Nat} {p : Value × Value} (hj : vs[j]? = some p) :
    w.cell? ⟨sg, j * 3, none⟩ = some p.1 ∧ w.cell? ⟨sg, j * 3 + 1, none⟩ = some p.2 ∧ w.cell? ⟨sg, j * 3 + 2, none⟩ = some (.slice none 0 0) ∧ w.cell? ⟨rb, 3, none⟩ = some (.slice (some ⟨sg, 0, none⟩) Fs.length Fs.length) := by
  obtain ⟨hlt, e⟩ := List.getElem?_eq_some_iff.1 hj
  have c : ∀ i, i < 3 → w.cell? ⟨sg, j * 3 + i, none⟩ = (rcells p)[i]? := fun i hi => by
    rw [cell_of_row w sg _ _ 205 (0, 0) h.row]
    have := rcell_at hlt i hi
    rw [e] at this
    simpa using this
  have c0 := c 0 (by omega)
  have c1 := c 1 (by omega)
  have c2 := c 2 (by omega)
  refine ⟨by simpa [rcells] using c0, by simpa [rcells] using c1, by simpa [rcells] using c2, ?_⟩
  simp [World.cell?, h.cell]

theorem RAt.cell3 {w : World} {B rb sg : Nat} {vs : List (Value × Value)} {Fs : List Repo} (h : RAt w B rb sg vs Fs) : w.cell? ⟨rb, 3, none⟩ = some (.slice (some ⟨sg, 0, none⟩) Fs.length Fs.length) := by
  simp [World.cell?, h.cell]
theorem RAt.lt {w : World} {B rb sg : Nat} {vs : List (Value × Value)} {Fs : List Repo} (h : RAt w B rb sg vs Fs) : rb < w.heap.size ∧ sg < w.heap.size := ⟨lt_of_block h.cell, lt_of_block h.row⟩

/-- The document's world stays while nothing that was there turns. -/
theorem RAt.below {w w' : World} {B rb sg : Nat} {vs : List (Value × Value)} {Fs : List Repo} (h : RAt w B rb sg vs Fs) (hb : Below w.heap.size w w') : RAt w' B rb sg vs Fs :=
  ⟨h.lo, h.lo2, by rw [hb.block rb h.lt.1]; exact h.cell, by rw [hb.block sg h.lt.2]; exact h.row, h.len, fun j p F hj hF => ⟨own_below (h.names j p F hj hF).1 hb (Nat.le_refl _), own_below (h.names j p F hj hF).2 hb (Nat.le_refl _)⟩, h.few, h.n3⟩

theorem RAt.get {w : World} {B rb sg : Nat} {vs : List (Value × Value)} {Fs : List Repo} (h : RAt w B rb sg vs Fs) {j : Nat} (hj : j < Fs.length) : ∃ p, vs[j]? = some p ∧ Fs[j]? = some Fs[j] := by
  have : j < vs.length := by rw [h.len]; exact hj
  exact ⟨vs[j], List.getElem?_eq_getElem this, List.getElem?_eq_getElem hj⟩

def hasB (r : Int) (n : Nat) : Bool := decide (0 ≤ r ∧ r < n)

set_option maxRecDepth 100000 in
set_option maxHeartbeats 800000 in
theorem has24_any (r : Int) (B rb sg : Nat) (vs : List (Value × Value)) (Fs : List Repo) (w : World) (h : RAt w B rb sg vs Fs) :
    Calls Tryz.prog 82 #[.pointer (some ⟨rb, 0, none⟩), .int .i64 r] w fun e w' => e = .returned (.bool (hasB r Fs.length)) ∧ w' = w := by
  have hc := h.cell3
  clear h
  go_enter Tryz.func82, Tryz.ntmps82
  go_wp2
  all_goals
    go_ret
    refine ⟨ret_bool ?_, rfl⟩
    rw [Bool.eq_iff_iff]
    simp only [hasB, decide_eq_true_eq]
    simp_all
    try omega

def nerr (r : Int) (n : Nat) (name : ByteArray) : Int := if hasB r n = true then (if nameB name = true then 0 else 2) else 1

set_option maxRecDepth 100000 in
set_option maxHeartbeats 800000 in
theorem named82_any (r : Int) (name : ByteArray) (hname : name.size ≤ 10000000) (B rb sg : Nat) (vs : List (Value × Value)) (Fs : List Repo) (w : World) (h : RAt w B rb sg vs Fs) :
    Calls Tryz.prog 167 #[.pointer (some ⟨rb, 0, none⟩), .int .i64 r, .string name] w fun e w' => e = .returned (.int .i64 (nerr r Fs.length name)) ∧ ∃ q, w' = w.drewN q := by
  have hh := has24_any r B rb sg vs Fs w h
  clear h
  unfold nerr
  cases hr : hasB r Fs.length
  · rw [hr] at hh
    have HH : Hid (Calls Tryz.prog 82 #[.pointer (some ⟨rb, 0, none⟩), .int .i64 r] w fun e w' => e = .returned (.bool false) ∧ w' = w) := hh
    clear hh hr
    go_enter Tryz.func167, Tryz.ntmps167
    go_wp2_with (go_at_call 82; refine HH.out.mono ?_; rintro e w' ⟨rfl, rfl⟩)
    go_ret
    exact ⟨rfl, 0, rfl⟩
  · rw [hr] at hh
    have HH : Hid (Calls Tryz.prog 82 #[.pointer (some ⟨rb, 0, none⟩), .int .i64 r] w fun e w' => e = .returned (.bool true) ∧ w' = w) := hh
    clear hh hr
    cases hn : nameB name
    · have HN : Hid (nameB name = false) := hn
      clear hn
      go_enter Tryz.func167, Tryz.ntmps167
      go_wp2_with (first | (go_at_call 82; refine HH.out.mono ?_; rintro e w' ⟨rfl, rfl⟩) | (go_at_call 164; refine (named37_any name _ hname).mono ?_; rw [HN.out]; rintro e w2 ⟨rfl, q, rfl⟩))
      go_ret
      exact ⟨rfl, _, rfl⟩
    · have HN : Hid (nameB name = true) := hn
      clear hn
      go_enter Tryz.func167, Tryz.ntmps167
      go_wp2_with (first | (go_at_call 82; refine HH.out.mono ?_; rintro e w' ⟨rfl, rfl⟩) | (go_at_call 164; refine (named37_any name _ hname).mono ?_; rw [HN.out]; rintro e w2 ⟨rfl, q, rfl⟩))
      go_ret
      exact ⟨rfl, _, rfl⟩

/-- A file's text. -/
def fileOf (F : Repo) (name : ByteArray) : Option ByteArray := (whr (nms F) name).bind fun k => (txs F)[k]?
theorem fileOf_none {F : Repo} {name : ByteArray} (h : whr (nms F) name = none) : fileOf F name = none := by unfold fileOf; rw [h]; rfl
theorem whr_lt {L : List ByteArray} {s : ByteArray} {k : Nat} (h : whr L s = some k) : k < L.length := by
  unfold whr at h
  rw [List.findIdx?_eq_some_iff_getElem] at h
  exact h.1
theorem fileOf_some {F : Repo} {name : ByteArray} {k : Nat} (h : whr (nms F) name = some k) : ∃ t, (txs F)[k]? = some t ∧ fileOf F name = some t := by
  have hk := whr_lt h
  have hk2 : k < (txs F).length := by rw [txs_len, ← nms_len]; exact hk
  exact ⟨(txs F)[k], List.getElem?_eq_getElem hk2, by unfold fileOf; rw [h]; exact List.getElem?_eq_getElem hk2⟩

set_option maxRecDepth 100000 in
set_option maxHeartbeats 1600000 in
theorem file52_any (j : Nat) (name : ByteArray) (B rb sg : Nat) (vs : List (Value × Value)) (Fs : List Repo) (w : World) (h : RAt w B rb sg vs Fs) (hj : j < Fs.length) :
    Calls Tryz.prog 141 #[.pointer (some ⟨rb, 0, none⟩), .int .i64 j, .string name] w fun e w' => e = .returned (.tuple #[.string ((fileOf Fs[j] name).getD ⟨#[]⟩), .bool (fileOf Fs[j] name).isSome]) ∧ w' = w := by
  obtain ⟨⟨nv, tv⟩, hp, hF⟩ := h.get hj
  obtain ⟨hn, ht⟩ := h.names j _ _ hp hF
  obtain ⟨c0, c1, c2, c3⟩ := h.cells hp
  have hfew := h.few _ (List.getElem_mem hj)
  have hn3 := h.n3
  generalize Fs[j] = F at *
  generalize Fs.length = n at *
  clear h hp hF
  simp only at hn ht c0 c1
  obtain ⟨na, nc, rfl⟩ := own_shape hn
  obtain ⟨ta, tc, rfl⟩ := own_shape ht
  have hw := where79_any (nms F) name na nc w (View.own hn) (by rw [nms_len]; omega)
  cases hk : whr (nms F) name with
  | none =>
    rw [hk] at hw
    rw [fileOf_none hk]
    have HW : Hid (Calls Tryz.prog 165 #[.slice na (nms F).length nc, .string name] w fun e w' => e = .returned (.int .i64 (-1)) ∧ w' = w) := hw
    clear hw hk
    generalize (nms F).length = nl at *
    generalize (txs F).length = tl at *
    go_enter Tryz.func141, Tryz.ntmps141
    go_wp2_with (go_at_call 165; refine HW.out.mono ?_; rintro e w' ⟨rfl, rfl⟩)
    go_ret2
    exact ⟨rfl, rfl⟩
  | some k =>
    rw [hk] at hw
    obtain ⟨t, ht1, ht2⟩ := fileOf_some hk
    rw [ht2]
    have hkl : k < (txs F).length := (List.getElem?_eq_some_iff.1 ht1).1
    obtain ⟨g, hta, hgB, hgs⟩ := own_at ht (by omega)
    subst hta
    have hct : w.cell? ⟨g, k, none⟩ = some (.string t) := by
      have := row_cell ht k hkl
      rw [getD_at hkl, (List.getElem?_eq_some_iff.1 ht1).2] at this
      exact this
    have HW : Hid (Calls Tryz.prog 165 #[.slice na (nms F).length nc, .string name] w fun e w' => e = .returned (.int .i64 (k : Int)) ∧ w' = w) := hw
    clear hw hk ht1 ht2 hn ht
    generalize (nms F).length = nl at *
    generalize (txs F).length = tl at *
    go_enter Tryz.func141, Tryz.ntmps141
    go_wp2_with (go_at_call 165; refine HW.out.mono ?_; rintro e w' ⟨rfl, rfl⟩)
    go_ret2
    exact ⟨rfl, rfl⟩
end Go.Proofs.YtgdfipmdmgkidaaGreatDoor
