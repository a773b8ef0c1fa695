/- The contracts of the document's calls on files: Write, Erase, Files, Text. -/
import Derived.Test.YtgdfipmdmgkidaaGreatDoorGset
namespace Go.Proofs.YtgdfipmdmgkidaaGreatDoor
open Go.RowKit

theorem gone_len {F : Repo} {name : ByteArray} : (goneF F name).length ≤ F.length := by
  unfold goneF
  split
  · exact List.length_eraseIdx_le _ _
  · exact Nat.le_refl _
theorem gone_len_some {F : Repo} {name : ByteArray} {k : Nat} (h : whr (nms F) name = some k) : (goneF F name).length + 1 = F.length := by
  have hk := whr_lt h
  rw [nms_len] at hk
  rw [gone_some h, List.length_eraseIdx_of_lt hk]
  omega

theorem set80_any (j : Nat) (name text : ByteArray) (there : Bool) (B rb sg : Nat) (vs : List (Value × Value)) (Fs : List Repo) (w : World) (h : RAt w B rb sg vs Fs) (F : Repo) (hF : Fs[j]? = some F) (hlim : (setF F name text there).length ≤ 5) :
    Calls Tryz.prog 166 #[.pointer (some ⟨rb, 0, none⟩), .int .i64 j, .string name, .string text, .bool there] w fun e w' => e = .returned (.tuple #[]) ∧ ∃ vs', RAt w' B rb sg vs' (Fs.set j (setF F name text there)) ∧ w.grownBy w' (some sg) := by
  cases hk : whr (nms F) name with
  | none =>
    cases there
    · exact set80_nf j name text B rb sg vs Fs w h F hF hk hlim
    · exact set80_nt j name text B rb sg vs Fs w h F hF hk hlim
  | some k =>
    cases there
    · exact set80_sf j name text B rb sg vs Fs w h F hF k hk hlim
    · exact set80_st j name text B rb sg vs Fs w h F hF k hk hlim

theorem grown_of_below {w w' : World} {row : Option Nat} (h : Below w.heap.size w w') : w.grownBy w' row := ⟨h.os, h.tape, h.output, h.size, fun i hi _ => h.block i hi⟩
theorem grown_tr {a b c : World} {row : Option Nat} (h : a.grownBy b row) (k : b.grownBy c row) : a.grownBy c row :=
  ⟨k.os.trans h.os, k.tape.trans h.tape, k.output.trans h.output, Nat.le_trans h.size k.size, fun i hi hr => (k.block i (Nat.lt_of_lt_of_le hi h.size) hr).trans (h.block i hi hr)⟩

theorem hasB_yes {r : Int} {n : Nat} (h : hasB r n = true) : ∃ j : Nat, r = (j : Int) ∧ j < n := by
  unfold hasB at h
  rw [decide_eq_true_eq] at h
  exact ⟨r.toNat, by omega, by omega⟩

/-- What Write answers, and what is there then. -/
def wCode (F : Repo) (name text : ByteArray) : Int := if nameB name = true then (if linesOk text = true then (if (whr (nms F) name).isNone = true ∧ 5 ≤ F.length then 4 else 0) else 3) else 2
def wNext (Fs : List Repo) (j : Nat) (F : Repo) (name text : ByteArray) : List Repo := if wCode F name text = 0 then Fs.set j (setF F name text true) else Fs

set_option maxRecDepth 100000 in
set_option maxHeartbeats 1600000 in
theorem write39_no (r : Int) (name text : ByteArray) (B rb sg : Nat) (vs : List (Value × Value)) (Fs : List Repo) (w : World) (h : RAt w B rb sg vs Fs) (hr : hasB r Fs.length = false) :
    Calls Tryz.prog 96 #[.pointer (some ⟨rb, 0, none⟩), .int .i64 r, .string name, .string text] w fun e w' => e = .returned (.int .i64 1) ∧ w' = w := by
  have hh := has24_any r B rb sg vs Fs w h
  rw [hr] at hh
  have HH : Hid (Calls Tryz.prog 82 #[.pointer (some ⟨rb, 0, none⟩), .int .i64 r] w fun e w' => e = .returned (.bool false) ∧ w' = w) := hh
  clear hh hr h
  go_enter Tryz.func96, Tryz.ntmps96
  go_wp2_with (go_at_call 82; refine HH.out.mono ?_; rintro e w' ⟨rfl, rfl⟩)
  go_ret
  exact ⟨rfl, rfl⟩

set_option maxRecDepth 100000 in
set_option maxHeartbeats 4000000 in
theorem write39_yes (j : Nat) (name text : ByteArray) (hname : name.size ≤ 10000000) (B rb sg : Nat) (vs : List (Value × Value)) (Fs : List Repo) (w : World) (h : RAt w B rb sg vs Fs) (F : Repo) (hF : Fs[j]? = some F) :
    Calls Tryz.prog 96 #[.pointer (some ⟨rb, 0, none⟩), .int .i64 j, .string name, .string text] w fun e w' => e = .returned (.int .i64 (wCode F name text)) ∧ ∃ vs', RAt w' B rb sg vs' (wNext Fs j F name text) ∧ w.grownBy w' (some sg) := by
  have hj : j < Fs.length := (List.getElem?_eq_some_iff.1 hF).1
  have hh := has24_any j B rb sg vs Fs w h
  rw [show hasB (j : Int) Fs.length = true from by unfold hasB; rw [decide_eq_true_eq]; omega] at hh
  have HH : Hid (Calls Tryz.prog 82 #[.pointer (some ⟨rb, 0, none⟩), .int .i64 (j : Int)] w fun e w' => e = .returned (.bool true) ∧ w' = w) := hh
  clear hh
  have hn3 := h.n3
  have hfew := h.few _ (List.mem_of_getElem? hF)
  cases hn : nameB name
  · have e1 : wCode F name text = 2 := by unfold wCode; rw [hn]; rfl
    have e2 : wNext Fs j F name text = Fs := by unfold wNext; rw [e1]; rfl
    rw [e1, e2]
    have HN : Hid (nameB name = false) := hn
    clear hn e1 e2
    have HR : Hid (RAt w B rb sg vs Fs) := h
    clear h
    go_enter Tryz.func96, Tryz.ntmps96
    go_wp2_with (first | (go_at_call 82; refine HH.out.mono ?_; rintro e w' ⟨rfl, rfl⟩) | (go_at_call 164; refine (named37_any name _ hname).mono ?_; rw [HN.out]; rintro e w2 ⟨rfl, q, rfl⟩))
    go_ret
    exact ⟨rfl, vs, HR.out.below (below_drewN (Below.refl _ _) q), grown_of_below (below_drewN (Below.refl _ _) q)⟩
  · have HN : Hid (nameB name = true) := hn
    cases hl : linesOk text
    · have e1 : wCode F name text = 3 := by unfold wCode; rw [hn, hl]; rfl
      have e2 : wNext Fs j F name text = Fs := by unfold wNext; rw [e1]; rfl
      rw [e1, e2]
      have HE : Hid (linesErr text = 3) := (lines_no hl).2
      clear hn e1 e2 hl
      have HR : Hid (RAt w B rb sg vs Fs) := h
      clear h
      go_enter Tryz.func96, Tryz.ntmps96
      go_wp2_with fail
      refine HH.out.mono ?_
      rintro e w' ⟨rfl, rfl⟩
      go_wp2_with fail
      refine (named37_any name _ hname).mono ?_
      rw [HN.out]
      rintro e w2 ⟨rfl, q, rfl⟩
      go_wp2_with fail
      refine (lines14_any text _).mono ?_
      rw [HE.out]
      rintro e w3 ⟨v, rfl, hown, hb3⟩
      go_wp2
      go_ret
      have hb := (below_drewN (Below.refl w'.heap.size w') q).trans hb3
      exact ⟨rfl, vs, HR.out.below hb, grown_of_below hb⟩
    · have HE : Hid (linesErr text = 0) := (lines_yes hl).2
      obtain ⟨⟨nv, tv⟩, hp, hFx⟩ := h.get hj
      clear hFx
      obtain ⟨hnm, htx⟩ := h.names j _ _ hp hF
      obtain ⟨c0, c1, c2, c3⟩ := h.cells hp
      have HR : Hid (RAt w B rb sg vs Fs) := h
      simp only at hnm c0
      obtain ⟨na, nc, rfl⟩ := own_shape hnm
      have hlt := h.lt
      have hnl1 : (nms F).length ≤ F.length := by rw [nms_len]; exact Nat.le_refl _
      have hnl2 : F.length ≤ (nms F).length := by rw [nms_len]; exact Nat.le_refl _
      have HF : Hid (Fs[j]? = some F) := hF
      cases hk : whr (nms F) name with
      | none =>
        by_cases h5 : 5 ≤ F.length
        · have e1 : wCode F name text = 4 := by unfold wCode; rw [hn, hl, hk]; simp [h5]
          have e2 : wNext Fs j F name text = Fs := by unfold wNext; rw [e1]; rfl
          rw [e1, e2]
          have HK : Hid (whr (nms F) name = none) := hk
          have h5' : 5 ≤ (nms F).length := by omega
          clear hn e1 e2 hl hk h h5 hp hF htx c1 c2
          go_enter Tryz.func96, Tryz.ntmps96
          go_wp2_with fail
          refine HH.out.mono ?_
          rintro e w' ⟨rfl, rfl⟩
          go_wp2_with fail
          refine (named37_any name _ hname).mono ?_
          rw [HN.out]
          rintro e w2 ⟨rfl, q, rfl⟩
          go_wp2_with fail
          refine (lines14_any text _).mono ?_
          rw [HE.out]
          rintro e w3 ⟨v, rfl, hown, hb3⟩
          have hb : Below w'.heap.size w' w3 := (below_drewN (Below.refl w'.heap.size w') q).trans hb3
          have d3 := (hb.cell (p := ⟨rb, 3, none⟩) hlt.1).trans c3
          have d0 := (hb.cell (p := ⟨sg, j * 3, none⟩) hlt.2).trans c0
          have hv3 := View.own (own_below hnm hb (Nat.le_refl _))
          have hw := where79_any (nms F) name na nc w3 hv3 (by omega)
          rw [HK.out] at hw
          have HW : Hid (Calls Tryz.prog 165 #[.slice na (nms F).length nc, .string name] w3 fun e w' => e = .returned (.int .i64 (-1)) ∧ w' = w3) := hw
          clear hw hv3 hown hb3
          go_wp2_with (go_at_call 165; refine HW.out.mono ?_; rintro e w4 ⟨rfl, rfl⟩)
          go_ret
          exact ⟨rfl, vs, HR.out.below hb, grown_of_below hb⟩
        · have e1 : wCode F name text = 0 := by unfold wCode; rw [hn, hl, hk]; simp [h5]
          have e2 : wNext Fs j F name text = Fs.set j (setF F name text true) := by unfold wNext; rw [e1]; rfl
          rw [e1, e2]
          have HK : Hid (whr (nms F) name = none) := hk
          have HL : Hid ((setF F name text true).length ≤ 5) := by show (goneF F name ++ [(name, text)]).length ≤ 5; rw [gone_none hk]; simp; omega
          have h5' : (nms F).length < 5 := by omega
          clear hn e1 e2 hl hk h h5 hp hF htx c1 c2
          go_enter Tryz.func96, Tryz.ntmps96
          go_wp2_with fail
          refine HH.out.mono ?_
          rintro e w' ⟨rfl, rfl⟩
          go_wp2_with fail
          refine (named37_any name _ hname).mono ?_
          rw [HN.out]
          rintro e w2 ⟨rfl, q, rfl⟩
          go_wp2_with fail
          refine (lines14_any text _).mono ?_
          rw [HE.out]
          rintro e w3 ⟨v, rfl, hown, hb3⟩
          have hb : Below w'.heap.size w' w3 := (below_drewN (Below.refl w'.heap.size w') q).trans hb3
          have d3 := (hb.cell (p := ⟨rb, 3, none⟩) hlt.1).trans c3
          have d0 := (hb.cell (p := ⟨sg, j * 3, none⟩) hlt.2).trans c0
          have hv3 := View.own (own_below hnm hb (Nat.le_refl _))
          have hw := where79_any (nms F) name na nc w3 hv3 (by omega)
          rw [HK.out] at hw
          have HW : Hid (Calls Tryz.prog 165 #[.slice na (nms F).length nc, .string name] w3 fun e w' => e = .returned (.int .i64 (-1)) ∧ w' = w3) := hw
          clear hw hv3 hown hb3
          go_wp2_with fail
          refine HW.out.mono ?_
          rintro e w4 ⟨rfl, rfl⟩
          go_wp2_with fail
          refine (set80_any j name text true B rb sg vs Fs _ (HR.out.below hb) F HF.out HL.out).mono ?_
          rintro e w5 ⟨rfl, vs', hR5, hg5⟩
          go_wp2
          go_ret
          exact ⟨rfl, vs', hR5, grown_tr (grown_of_below hb) hg5⟩
      | some k =>
        have e1 : wCode F name text = 0 := by unfold wCode; rw [hn, hl, hk]; simp
        have e2 : wNext Fs j F name text = Fs.set j (setF F name text true) := by unfold wNext; rw [e1]; rfl
        rw [e1, e2]
        have HK : Hid (whr (nms F) name = some k) := hk
        have HL : Hid ((setF F name text true).length ≤ 5) := by show (goneF F name ++ [(name, text)]).length ≤ 5; have := gone_len_some hk; simp; omega
        clear hn e1 e2 hl hk h hp hF htx c1 c2
        go_enter Tryz.func96, Tryz.ntmps96
        go_wp2_with fail
        refine HH.out.mono ?_
        rintro e w' ⟨rfl, rfl⟩
        go_wp2_with fail
        refine (named37_any name _ hname).mono ?_
        rw [HN.out]
        rintro e w2 ⟨rfl, q, rfl⟩
        go_wp2_with fail
        refine (lines14_any text _).mono ?_
        rw [HE.out]
        rintro e w3 ⟨v, rfl, hown, hb3⟩
        have hb : Below w'.heap.size w' w3 := (below_drewN (Below.refl w'.heap.size w') q).trans hb3
        have d3 := (hb.cell (p := ⟨rb, 3, none⟩) hlt.1).trans c3
        have d0 := (hb.cell (p := ⟨sg, j * 3, none⟩) hlt.2).trans c0
        have hv3 := View.own (own_below hnm hb (Nat.le_refl _))
        have hw := where79_any (nms F) name na nc w3 hv3 (by omega)
        rw [HK.out] at hw
        have HW : Hid (Calls Tryz.prog 165 #[.slice na (nms F).length nc, .string name] w3 fun e w' => e = .returned (.int .i64 (k : Int)) ∧ w' = w3) := hw
        clear hw hv3 hown hb3
        have hk0 : ¬ ((k : Int) < 0) := by omega
        go_wp2_with fail
        refine HW.out.mono ?_
        rintro e w4 ⟨rfl, rfl⟩
        go_wp2_with fail
        refine (set80_any j name text true B rb sg vs Fs _ (HR.out.below hb) F HF.out HL.out).mono ?_
        rintro e w5 ⟨rfl, vs', hR5, hg5⟩
        go_wp2
        go_ret
        exact ⟨rfl, vs', hR5, grown_tr (grown_of_below hb) hg5⟩
end Go.Proofs.YtgdfipmdmgkidaaGreatDoor
