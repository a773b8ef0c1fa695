/- The contracts of the document's calls on files, the rest: Erase, Files, Text, New. -/
import Derived.Test.YtgdfipmdmgkidaaGreatDoorGrefw
namespace Go.Proofs.YtgdfipmdmgkidaaGreatDoor
open Go.RowKit

/-- What Erase answers, and what is there then. -/
def eCode (F : Repo) (name : ByteArray) : Int := if nameB name = true then (if (whr (nms F) name).isNone = true then 5 else 0) else 2
def eNext (Fs : List Repo) (j : Nat) (F : Repo) (name : ByteArray) : List Repo := if eCode F name = 0 then Fs.set j (goneF F name) else Fs

theorem nerr_no {r : Int} {n : Nat} {name : ByteArray} (h : hasB r n = false) : nerr r n name = 1 := by unfold nerr; rw [h]; rfl
theorem nerr_bad {r : Int} {n : Nat} {name : ByteArray} (h : hasB r n = true) (hn : nameB name = false) : nerr r n name = 2 := by unfold nerr; rw [h, hn]; rfl
theorem nerr_ok {r : Int} {n : Nat} {name : ByteArray} (h : hasB r n = true) (hn : nameB name = true) : nerr r n name = 0 := by unfold nerr; rw [h, hn]; rfl
theorem hasB_nat {j n : Nat} (h : j < n) : hasB (j : Int) n = true := by unfold hasB; rw [decide_eq_true_eq]; omega

set_option maxRecDepth 100000 in
set_option maxHeartbeats 1600000 in
theorem erase41_no (r : Int) (name : ByteArray) (hname : name.size ≤ 10000000) (B rb sg : Nat) (vs : List (Value × Value)) (Fs : List Repo) (w : World) (h : RAt w B rb sg vs Fs) (hr : hasB r Fs.length = false) :
    Calls Tryz.prog 97 #[.pointer (some ⟨rb, 0, none⟩), .int .i64 r, .string name] w fun e w' => e = .returned (.int .i64 1) ∧ ∃ q, w' = w.drewN q := by
  have hh := named82_any r name hname B rb sg vs Fs w h
  rw [nerr_no hr] at hh
  have HH : Hid (Calls Tryz.prog 167 #[.pointer (some ⟨rb, 0, none⟩), .int .i64 r, .string name] w fun e w' => e = .returned (.int .i64 1) ∧ ∃ q, w' = w.drewN q) := hh
  clear hh hr h
  go_enter Tryz.func97, Tryz.ntmps97
  go_wp2_with (go_at_call 167; refine HH.out.mono ?_; rintro e w' ⟨rfl, q, rfl⟩)
  go_ret
  exact ⟨rfl, _, rfl⟩

set_option maxRecDepth 100000 in
set_option maxHeartbeats 4000000 in
theorem erase41_yes (j : Nat) (name : ByteArray) (hname : name.size ≤ 10000000) (B rb sg : Nat) (vs : List (Value × Value)) (Fs : List Repo) (w : World) (h : RAt w B rb sg vs Fs) (F : Repo) (hF : Fs[j]? = some F) :
    Calls Tryz.prog 97 #[.pointer (some ⟨rb, 0, none⟩), .int .i64 j, .string name] w fun e w' => e = .returned (.int .i64 (eCode F name)) ∧ ∃ vs', RAt w' B rb sg vs' (eNext Fs j F name) ∧ w.grownBy w' (some sg) := by
  have hj : j < Fs.length := (List.getElem?_eq_some_iff.1 hF).1
  have hh := named82_any j name hname B rb sg vs Fs w h
  have hn3 := h.n3
  have hfew := h.few _ (List.mem_of_getElem? hF)
  cases hn : nameB name
  · rw [nerr_bad (hasB_nat hj) hn] at hh
    have HH : Hid (Calls Tryz.prog 167 #[.pointer (some ⟨rb, 0, none⟩), .int .i64 (j : Int), .string name] w fun e w' => e = .returned (.int .i64 2) ∧ ∃ q, w' = w.drewN q) := hh
    have e1 : eCode F name = 2 := by unfold eCode; rw [hn]; rfl
    have e2 : eNext Fs j F name = Fs := by unfold eNext; rw [e1]; rfl
    rw [e1, e2]
    have HR : Hid (RAt w B rb sg vs Fs) := h
    clear hn e1 e2 hh h
    go_enter Tryz.func97, Tryz.ntmps97
    go_wp2_with (go_at_call 167; refine HH.out.mono ?_; rintro e w' ⟨rfl, q, rfl⟩)
    go_ret
    exact ⟨rfl, vs, HR.out.below (below_drewN (Below.refl _ _) q), grown_of_below (below_drewN (Below.refl _ _) q)⟩
  · rw [nerr_ok (hasB_nat hj) hn] at hh
    have HH : Hid (Calls Tryz.prog 167 #[.pointer (some ⟨rb, 0, none⟩), .int .i64 (j : Int), .string name] w fun e w' => e = .returned (.int .i64 0) ∧ ∃ q, w' = w.drewN q) := hh
    clear hh
    obtain ⟨⟨nv, tv⟩, hp, hFx⟩ := h.get hj
    clear hFx
    obtain ⟨hnm, htx⟩ := h.names j _ _ hp hF
    obtain ⟨c0, c1, c2, c3⟩ := h.cells hp
    have HR : Hid (RAt w B rb sg vs Fs) := h
    simp only at hnm c0
    obtain ⟨na, nc, rfl⟩ := own_shape hnm
    have hlt := h.lt
    have hnl1 : (nms F).length ≤ 5 := by rw [nms_len]; exact hfew
    have HF : Hid (Fs[j]? = some F) := hF
    cases hk : whr (nms F) name with
    | none =>
      have e1 : eCode F name = 5 := by unfold eCode; rw [hn, hk]; rfl
      have e2 : eNext Fs j F name = Fs := by unfold eNext; rw [e1]; rfl
      rw [e1, e2]
      have HK : Hid (whr (nms F) name = none) := hk
      clear hn e1 e2 hk h hp hF htx c1 c2
      go_enter Tryz.func97, Tryz.ntmps97
      go_wp2_with fail
      refine HH.out.mono ?_
      rintro e w' ⟨rfl, q, rfl⟩
      have hb : Below w.heap.size w (w.drewN q) := below_drewN (Below.refl w.heap.size w) q
      generalize w.drewN q = w3 at *
      have d3 := (hb.cell (p := ⟨rb, 3, none⟩) hlt.1).trans c3
      have d0 := (hb.cell (p := ⟨sg, j * 3, none⟩) hlt.2).trans c0
      have hv3 := View.own (own_below hnm hb (Nat.le_refl _))
      have hw := where79_any (nms F) name na nc w3 hv3 (by omega)
      rw [HK.out] at hw
      have HW : Hid (Calls Tryz.prog 165 #[.slice na (nms F).length nc, .string name] w3 fun e w' => e = .returned (.int .i64 (-1)) ∧ w' = w3) := hw
      clear hw hv3
      go_wp2_with (go_at_call 165; refine HW.out.mono ?_; rintro e w4 ⟨rfl, rfl⟩)
      go_ret
      exact ⟨rfl, vs, HR.out.below hb, grown_of_below hb⟩
    | some k =>
      have e1 : eCode F name = 0 := by unfold eCode; rw [hn, hk]; rfl
      have e2 : eNext Fs j F name = Fs.set j (setF F name ⟨#[]⟩ false) := by unfold eNext; rw [e1]; rfl
      rw [e1, e2]
      have HK : Hid (whr (nms F) name = some k) := hk
      have HL : Hid ((setF F name ⟨#[]⟩ false).length ≤ 5) := by show (goneF F name).length ≤ 5; have := gone_len_some hk; omega
      clear hn e1 e2 hk h hp hF htx c1 c2
      go_enter Tryz.func97, Tryz.ntmps97
      go_wp2_with fail
      refine HH.out.mono ?_
      rintro e w' ⟨rfl, q, rfl⟩
      have hb : Below w.heap.size w (w.drewN q) := below_drewN (Below.refl w.heap.size w) q
      generalize w.drewN q = w3 at *
      have d3 := (hb.cell (p := ⟨rb, 3, none⟩) hlt.1).trans c3
      have d0 := (hb.cell (p := ⟨sg, j * 3, none⟩) hlt.2).trans c0
      have hv3 := View.own (own_below hnm hb (Nat.le_refl _))
      have hw := where79_any (nms F) name na nc w3 hv3 (by omega)
      rw [HK.out] at hw
      have HW : Hid (Calls Tryz.prog 165 #[.slice na (nms F).length nc, .string name] w3 fun e w' => e = .returned (.int .i64 (k : Int)) ∧ w' = w3) := hw
      clear hw hv3
      have hk0 : ¬ ((k : Int) < 0) := by omega
      go_wp2_with fail
      refine HW.out.mono ?_
      rintro e w4 ⟨rfl, rfl⟩
      go_wp2_with fail
      refine (set80_any j name ⟨#[]⟩ false B rb sg vs Fs _ (HR.out.below hb) F HF.out HL.out).mono ?_
      rintro e w5 ⟨rfl, vs', hR5, hg5⟩
      go_wp2
      go_ret
      exact ⟨rfl, vs', hR5, grown_tr (grown_of_below hb) hg5⟩

set_option maxRecDepth 100000 in
set_option maxHeartbeats 1600000 in
theorem listed43_no (r : Int) (B rb sg : Nat) (vs : List (Value × Value)) (Fs : List Repo) (w : World) (h : RAt w B rb sg vs Fs) (hr : hasB r Fs.length = false) :
    Calls Tryz.prog 99 #[.pointer (some ⟨rb, 0, none⟩), .int .i64 r] w fun e w' => e = .returned (.tuple #[.slice none 0 0, .int .i64 1]) ∧ w' = w := by
  have hh := has24_any r B rb sg vs Fs w h
  rw [hr] at hh
  have HH : Hid (Calls Tryz.prog 82 #[.pointer (some ⟨rb, 0, none⟩), .int .i64 r] w fun e w' => e = .returned (.bool false) ∧ w' = w) := hh
  clear hh hr h
  go_enter Tryz.func99, Tryz.ntmps99
  go_wp2_with (go_at_call 82; refine HH.out.mono ?_; rintro e w' ⟨rfl, rfl⟩)
  go_ret2
  exact ⟨rfl, rfl⟩

set_option maxRecDepth 100000 in
set_option maxHeartbeats 1600000 in
theorem listed43_yes (j : Nat) (B rb sg : Nat) (vs : List (Value × Value)) (Fs : List Repo) (w : World) (h : RAt w B rb sg vs Fs) (F : Repo) (hF : Fs[j]? = some F) :
    Calls Tryz.prog 99 #[.pointer (some ⟨rb, 0, none⟩), .int .i64 j] w fun e w' => ∃ v, e = .returned (.tuple #[v, .int .i64 0]) ∧ w'.ownsRow w.heap.size 9 1 v (srt (nms F)).length (strs (srt (nms F))) ∧ Below w.heap.size w w' := by
  have hj : j < Fs.length := (List.getElem?_eq_some_iff.1 hF).1
  have hh := has24_any j B rb sg vs Fs w h
  rw [hasB_nat hj] at hh
  have HH : Hid (Calls Tryz.prog 82 #[.pointer (some ⟨rb, 0, none⟩), .int .i64 (j : Int)] w fun e w' => e = .returned (.bool true) ∧ w' = w) := hh
  clear hh
  have hn3 := h.n3
  have hfew := h.few _ (List.mem_of_getElem? hF)
  obtain ⟨⟨nv, tv⟩, hp, hFx⟩ := h.get hj
  clear hFx
  obtain ⟨hnm, htx⟩ := h.names j _ _ hp hF
  obtain ⟨c0, c1, c2, c3⟩ := h.cells hp
  simp only at hnm c0
  obtain ⟨na, nc, rfl⟩ := own_shape hnm
  have hnl1 : (nms F).length ≤ 5 := by rw [nms_len]; exact hfew
  have HV : Hid (View w na (nms F)) := View.own hnm
  clear h hp hF htx c1 c2 hnm
  go_enter Tryz.func99, Tryz.ntmps99
  go_wp2_with fail
  refine HH.out.mono ?_
  rintro e w' ⟨rfl, rfl⟩
  go_wp2_with fail
  refine (sorted54_any (nms F) na nc _ HV.out (by omega)).mono ?_
  rintro e w3 ⟨v, rfl, hown, hb3⟩
  obtain ⟨va, vc, rfl⟩ := own_shape hown
  have HO : Hid (w3.ownsRow w'.heap.size 9 1 (.slice va (srt (nms F)).length vc) (srt (nms F)).length (strs (srt (nms F)))) := hown
  clear hown
  go_wp2
  go_ret2
  exact ⟨_, rfl, HO.out, hb3⟩

def tCode (F : Repo) (name : ByteArray) : Int := if nameB name = true then (if (fileOf F name).isSome = true then 0 else 5) else 2
def tText (F : Repo) (name : ByteArray) : ByteArray := if nameB name = true then (fileOf F name).getD ⟨#[]⟩ else ⟨#[]⟩

set_option maxRecDepth 100000 in
set_option maxHeartbeats 1600000 in
theorem text84_no (r : Int) (name : ByteArray) (hname : name.size ≤ 10000000) (B rb sg : Nat) (vs : List (Value × Value)) (Fs : List Repo) (w : World) (h : RAt w B rb sg vs Fs) (hr : hasB r Fs.length = false) :
    Calls Tryz.prog 169 #[.pointer (some ⟨rb, 0, none⟩), .int .i64 r, .string name] w fun e w' => e = .returned (.tuple #[.string ⟨#[]⟩, .int .i64 1]) ∧ ∃ q, w' = w.drewN q := by
  have hh := named82_any r name hname B rb sg vs Fs w h
  rw [nerr_no hr] at hh
  have HH : Hid (Calls Tryz.prog 167 #[.pointer (some ⟨rb, 0, none⟩), .int .i64 r, .string name] w fun e w' => e = .returned (.int .i64 1) ∧ ∃ q, w' = w.drewN q) := hh
  clear hh hr h
  go_enter Tryz.func169, Tryz.ntmps169
  go_wp2_with (go_at_call 167; refine HH.out.mono ?_; rintro e w' ⟨rfl, q, rfl⟩)
  go_ret2
  exact ⟨rfl, _, rfl⟩

set_option maxRecDepth 100000 in
set_option maxHeartbeats 4000000 in
theorem text84_yes (j : Nat) (name : ByteArray) (hname : name.size ≤ 10000000) (B rb sg : Nat) (vs : List (Value × Value)) (Fs : List Repo) (w : World) (h : RAt w B rb sg vs Fs) (F : Repo) (hF : Fs[j]? = some F) :
    Calls Tryz.prog 169 #[.pointer (some ⟨rb, 0, none⟩), .int .i64 j, .string name] w fun e w' => e = .returned (.tuple #[.string (tText F name), .int .i64 (tCode F name)]) ∧ ∃ q, w' = w.drewN q := by
  have hj : j < Fs.length := (List.getElem?_eq_some_iff.1 hF).1
  have hh := named82_any j name hname B rb sg vs Fs w h
  cases hn : nameB name
  · rw [nerr_bad (hasB_nat hj) hn] at hh
    have HH : Hid (Calls Tryz.prog 167 #[.pointer (some ⟨rb, 0, none⟩), .int .i64 (j : Int), .string name] w fun e w' => e = .returned (.int .i64 2) ∧ ∃ q, w' = w.drewN q) := hh
    have e1 : tCode F name = 2 := by unfold tCode; rw [hn]; rfl
    have e2 : tText F name = ⟨#[]⟩ := by unfold tText; rw [hn]; rfl
    rw [e1, e2]
    clear hn e1 e2 hh h
    go_enter Tryz.func169, Tryz.ntmps169
    go_wp2_with (go_at_call 167; refine HH.out.mono ?_; rintro e w' ⟨rfl, q, rfl⟩)
    go_ret2
    exact ⟨rfl, _, rfl⟩
  · rw [nerr_ok (hasB_nat hj) hn] at hh
    have HH : Hid (Calls Tryz.prog 167 #[.pointer (some ⟨rb, 0, none⟩), .int .i64 (j : Int), .string name] w fun e w' => e = .returned (.int .i64 0) ∧ ∃ q, w' = w.drewN q) := hh
    clear hh
    have e0 : Fs[j] = F := (List.getElem?_eq_some_iff.1 hF).2
    have HR : Hid (RAt w B rb sg vs Fs) := h
    cases hf : fileOf F name with
    | none =>
      have e1 : tCode F name = 5 := by unfold tCode; rw [hn, hf]; rfl
      have e2 : tText F name = ⟨#[]⟩ := by unfold tText; rw [hn, hf]; rfl
      rw [e1, e2]
      have HK : Hid (fileOf Fs[j] name = none) := by show _ = _; rw [e0]; exact hf
      clear hn e1 e2 hf h hF e0
      go_enter Tryz.func169, Tryz.ntmps169
      go_wp2_with fail
      refine HH.out.mono ?_
      rintro e w' ⟨rfl, q, rfl⟩
      have hb : Below w.heap.size w (w.drewN q) := below_drewN (Below.refl w.heap.size w) q
      go_wp2_with fail
      refine (file52_any j name B rb sg vs Fs _ (HR.out.below hb) hj).mono ?_
      rw [HK.out]
      rintro e w4 ⟨rfl, rfl⟩
      go_wp2
      go_ret2
      exact ⟨rfl, _, rfl⟩
    | some t =>
      have e1 : tCode F name = 0 := by unfold tCode; rw [hn, hf]; rfl
      have e2 : tText F name = t := by unfold tText; rw [hn, hf]; rfl
      rw [e1, e2]
      have HK : Hid (fileOf Fs[j] name = some t) := by show _ = _; rw [e0]; exact hf
      clear hn e1 e2 hf h hF e0
      go_enter Tryz.func169, Tryz.ntmps169
      go_wp2_with fail
      refine HH.out.mono ?_
      rintro e w' ⟨rfl, q, rfl⟩
      have hb : Below w.heap.size w (w.drewN q) := below_drewN (Below.refl w.heap.size w) q
      go_wp2_with fail
      refine (file52_any j name B rb sg vs Fs _ (HR.out.below hb) hj).mono ?_
      rw [HK.out]
      rintro e w4 ⟨rfl, rfl⟩
      go_wp2
      go_ret2
      exact ⟨rfl, _, rfl⟩
end Go.Proofs.YtgdfipmdmgkidaaGreatDoor
