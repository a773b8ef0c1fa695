/- The program's world in memory, and the contracts of its calls. -/
import Derived.Test.YtgdfipmdmgkidaaGreatDoorGwrite
namespace Go.Proofs.YtgdfipmdmgkidaaGreatDoor
open Go.RowKit

structure XAt (w : World) (B pb rg cap : Nat) (ms : List Nat) (Fs : List Repo) : Prop where
  lo : B ≤ pb
  lo2 : B ≤ rg
  lo3 : ∀ m ∈ ms, B ≤ m
  cell : ∃ gb, w.heap[pb]? = some (.cells #[.slice (some ⟨rg, 0, none⟩) Fs.length cap, .map (some gb)] 83 (0, 0))
  row : ∃ A, w.heap[rg]? = some (.cells A 87 (0, 0)) ∧ ∀ (j m : Nat), ms[j]? = some m → A[j * 2 + 1]? = some (.map (some m))
  nodup : ms.Nodup
  len : ms.length = Fs.length
  maps : ∀ (j m : Nat) (F : Repo), ms[j]? = some m → Fs[j]? = some F → FAt w m F
  few : ∀ F ∈ Fs, F.length ≤ 5
  n3 : Fs.length ≤ 3

theorem XAt.cell0 {w : World} {B pb rg cap : Nat} {ms : List Nat} {Fs : List Repo} (h : XAt w B pb rg cap ms Fs) : w.cell? ⟨pb, 0, none⟩ = some (.slice (some ⟨rg, 0, none⟩) Fs.length cap) := by
  obtain ⟨gb, hc⟩ := h.cell
  simp [World.cell?, hc]
theorem XAt.lt {w : World} {B pb rg cap : Nat} {ms : List Nat} {Fs : List Repo} (h : XAt w B pb rg cap ms Fs) : pb < w.heap.size ∧ rg < w.heap.size := by
  obtain ⟨A, hA, _⟩ := h.row
  obtain ⟨gb, hc⟩ := h.cell
  exact ⟨lt_of_block hc, lt_of_block hA⟩
theorem XAt.map_at {w : World} {B pb rg cap : Nat} {ms : List Nat} {Fs : List Repo} (h : XAt w B pb rg cap ms Fs) {j m : Nat} (hj : ms[j]? = some m) : w.cell? ⟨rg, j * 2 + 1, none⟩ = some (.map (some m)) := by
  obtain ⟨A, hA, hc⟩ := h.row
  have := hc j m hj
  simp [World.cell?, hA, this]
theorem XAt.get {w : World} {B pb rg cap : Nat} {ms : List Nat} {Fs : List Repo} (h : XAt w B pb rg cap ms Fs) {j : Nat} {F : Repo} (hj : Fs[j]? = some F) : ∃ m, ms[j]? = some m ∧ FAt w m F := by
  have h1 := (List.getElem?_eq_some_iff.1 hj).1
  have h2 : j < ms.length := by rw [h.len]; exact h1
  exact ⟨ms[j], List.getElem?_eq_getElem h2, h.maps j _ F (List.getElem?_eq_getElem h2) hj⟩
theorem XAt.below {w w' : World} {B pb rg cap : Nat} {ms : List Nat} {Fs : List Repo} (h : XAt w B pb rg cap ms Fs) (hb : Below w.heap.size w w') : XAt w' B pb rg cap ms Fs := by
  obtain ⟨gb, hcp⟩ := h.cell
  refine ⟨h.lo, h.lo2, h.lo3, ⟨gb, by rw [hb.block pb h.lt.1]; exact hcp⟩, ?_, h.nodup, h.len, fun j m F hj hF => (h.maps j m F hj hF).below hb, h.few, h.n3⟩
  obtain ⟨A, hA, hc⟩ := h.row
  exact ⟨A, by rw [hb.block rg h.lt.2]; exact hA, hc⟩

/-- No block of the world but its maps turns, when one of its maps is written. -/
theorem XAt.put {w w' : World} {B pb rg cap j m : Nat} {ms : List Nat} {Fs : List Repo} {F' : Repo} (h : XAt w B pb rg cap ms Fs) (hj : ms[j]? = some m) (hg : w.grownBy w' (some m)) (hF : FAt w' m F') (h5 : F'.length ≤ 5) : XAt w' B pb rg cap ms (Fs.set j F') := by
  have hjl := (List.getElem?_eq_some_iff.1 hj).1
  have hjF : j < Fs.length := by rw [← h.len]; exact hjl
  obtain ⟨es, ck, hm⟩ := (h.maps j m _ hj (List.getElem?_eq_getElem hjF)).block
  obtain ⟨gb, hcp⟩ := h.cell
  have n1 : some pb ≠ some m := by
    intro e; injection e with e; subst e
    rw [hcp] at hm; cases hm
  obtain ⟨A, hA, hc⟩ := h.row
  have n2 : some rg ≠ some m := by
    intro e; injection e with e; subst e
    rw [hA] at hm; cases hm
  refine ⟨h.lo, h.lo2, h.lo3, ?_, ⟨A, by rw [hg.block rg h.lt.2 n2]; exact hA, hc⟩, h.nodup, by rw [List.length_set]; exact h.len, ?_, ?_, by rw [List.length_set]; exact h.n3⟩
  · exact ⟨gb, by rw [hg.block pb h.lt.1 n1, List.length_set]; exact hcp⟩
  · intro i m2 F2 hi h2
    by_cases e : i = j
    · subst e
      rw [hj] at hi; injection hi with hi; subst hi
      rw [List.getElem?_set_self hjF] at h2; injection h2 with h2; subst h2
      exact hF
    · rw [List.getElem?_set_ne (fun q => e q.symm)] at h2
      refine (h.maps i m2 F2 hi h2).kept hg ?_
      intro q; injection q with q; subst q
      obtain ⟨a1, b1⟩ := List.getElem?_eq_some_iff.1 hi
      obtain ⟨a2, b2⟩ := List.getElem?_eq_some_iff.1 hj
      rcases Nat.lt_or_gt_of_ne e with h1 | h1
      · exact List.pairwise_iff_getElem.1 h.nodup i j a1 a2 h1 (b1.trans b2.symm)
      · exact List.pairwise_iff_getElem.1 h.nodup j i a2 a1 h1 (b2.trans b1.symm)
  · intro G hG
    rcases List.mem_or_eq_of_mem_set hG with h1 | h1
    · exact h.few G h1
    · rw [h1]; exact h5

set_option maxRecDepth 100000 in
set_option maxHeartbeats 800000 in
theorem has22_any (r : Int) (B pb rg cap : Nat) (ms : List Nat) (Fs : List Repo) (w : World) (h : XAt w B pb rg cap ms Fs) :
    Calls Tryz.prog 42 #[.pointer (some ⟨pb, 0, none⟩), .int .i64 r] w fun e w' => e = .returned (.bool (hasB r Fs.length)) ∧ w' = w := by
  have hc := h.cell0
  clear h
  go_enter Tryz.func42, Tryz.ntmps42
  go_wp2
  all_goals
    go_ret
    refine ⟨ret_bool ?_, rfl⟩
    rw [Bool.eq_iff_iff]
    simp only [hasB, decide_eq_true_eq]
    simp_all
    try omega

theorem hasX {r : Int} {B pb rg cap : Nat} {ms : List Nat} {Fs : List Repo} {w : World} (h : XAt w B pb rg cap ms Fs) {b : Bool} (hb : hasB r Fs.length = b) : Hid (Calls Tryz.prog 42 #[.pointer (some ⟨pb, 0, none⟩), .int .i64 r] w fun e w' => e = .returned (.bool b) ∧ w' = w) := by
  have := has22_any r B pb rg cap ms Fs w h
  rw [hb] at this
  exact this

set_option maxRecDepth 100000 in
set_option maxHeartbeats 1600000 in
theorem xwrite38_no (r : Int) (name text : ByteArray) (B pb rg cap : Nat) (ms : List Nat) (Fs : List Repo) (w : World) (h : XAt w B pb rg cap ms Fs) (hr : hasB r Fs.length = false) :
    Calls Tryz.prog 16 #[.pointer (some ⟨pb, 0, none⟩), .int .i64 r, .string name, .string text] w fun e w' => e = .returned (.int .i64 1) ∧ w' = w := by
  have HH := hasX h hr
  clear h hr
  go_enter Tryz.func16, Tryz.ntmps16
  go_wp2_with (go_at_call 42; refine HH.out.mono ?_; rintro e w' ⟨rfl, rfl⟩)
  go_ret
  exact ⟨rfl, rfl⟩

set_option maxRecDepth 100000 in
set_option maxHeartbeats 1600000 in
theorem xerase40_no (r : Int) (name : ByteArray) (B pb rg cap : Nat) (ms : List Nat) (Fs : List Repo) (w : World) (h : XAt w B pb rg cap ms Fs) (hr : hasB r Fs.length = false) :
    Calls Tryz.prog 80 #[.pointer (some ⟨pb, 0, none⟩), .int .i64 r, .string name] w fun e w' => e = .returned (.int .i64 1) ∧ w' = w := by
  have HH := hasX h hr
  clear h hr
  go_enter Tryz.func80, Tryz.ntmps80
  go_wp2_with (go_at_call 42; refine HH.out.mono ?_; rintro e w' ⟨rfl, rfl⟩)
  go_ret
  exact ⟨rfl, rfl⟩

set_option maxRecDepth 100000 in
set_option maxHeartbeats 1600000 in
theorem xtext10_no (r : Int) (name : ByteArray) (B pb rg cap : Nat) (ms : List Nat) (Fs : List Repo) (w : World) (h : XAt w B pb rg cap ms Fs) (hr : hasB r Fs.length = false) :
    Calls Tryz.prog 50 #[.pointer (some ⟨pb, 0, none⟩), .int .i64 r, .string name] w fun e w' => e = .returned (.tuple #[.string ⟨#[]⟩, .int .i64 1]) ∧ w' = w := by
  have HH := hasX h hr
  clear h hr
  go_enter Tryz.func50, Tryz.ntmps50
  go_wp2_with (go_at_call 42; refine HH.out.mono ?_; rintro e w' ⟨rfl, rfl⟩)
  go_ret2
  exact ⟨rfl, rfl⟩

set_option maxRecDepth 100000 in
set_option maxHeartbeats 1600000 in
theorem xfiles42_no (r : Int) (B pb rg cap : Nat) (ms : List Nat) (Fs : List Repo) (w : World) (h : XAt w B pb rg cap ms Fs) (hr : hasB r Fs.length = false) :
    Calls Tryz.prog 98 #[.pointer (some ⟨pb, 0, none⟩), .int .i64 r] w fun e w' => e = .returned (.tuple #[.slice none 0 0, .int .i64 1]) ∧ w' = w := by
  have HH := hasX h hr
  clear h hr
  go_enter Tryz.func98, Tryz.ntmps98
  go_wp2_with (go_at_call 42; refine HH.out.mono ?_; rintro e w' ⟨rfl, rfl⟩)
  go_ret2
  exact ⟨rfl, rfl⟩

theorem set_len5 {F : Repo} {name text : ByteArray} (h5 : F.length ≤ 5) : (wFiles F name text).length ≤ 5 := by
  unfold wFiles
  split
  · rename_i h
    show (goneF F name ++ [(name, text)]).length ≤ 5
    rw [List.length_append, List.length_singleton]
    have hl := gone_len2 (F := F) name
    by_cases hf : (fileOf F name).isSome = true
    · rw [if_pos hf] at hl; omega
    · rw [if_neg hf] at hl
      by_cases h6 : 5 ≤ F.length
      · exfalso
        unfold wCode at h
        have : (whr (nms F) name).isNone = true := by rw [whr_none_iff]; simpa using hf
        rw [this] at h
        simp only [h6] at h
        split at h <;> try split at h
        all_goals simp at h
      · omega
  · exact h5

theorem wNext_set {Fs : List Repo} {j : Nat} {F : Repo} (hF : Fs[j]? = some F) (name text : ByteArray) : wNext Fs j F name text = Fs.set j (wFiles F name text) := by
  unfold wNext wFiles
  split
  · rfl
  · obtain ⟨h1, h2⟩ := List.getElem?_eq_some_iff.1 hF
    rw [← h2, List.set_getElem_self]
theorem eNext_set {Fs : List Repo} {j : Nat} {F : Repo} (hF : Fs[j]? = some F) (name : ByteArray) : eNext Fs j F name = Fs.set j (eFiles F name) := by
  unfold eNext eFiles
  split
  · rfl
  · obtain ⟨h1, h2⟩ := List.getElem?_eq_some_iff.1 hF
    rw [← h2, List.set_getElem_self]
theorem era_len5 {F : Repo} {name : ByteArray} (h5 : F.length ≤ 5) : (eFiles F name).length ≤ 5 := by
  unfold eFiles
  split
  · exact Nat.le_trans gone_len h5
  · exact h5

set_option maxRecDepth 100000 in
set_option maxHeartbeats 1600000 in
theorem xwrite38_yes (j : Nat) (name text : ByteArray) (hs : name.size ≤ 10000000) (B pb rg cap : Nat) (ms : List Nat) (Fs : List Repo) (w : World) (h : XAt w B pb rg cap ms Fs) (F : Repo) (hF : Fs[j]? = some F) (m : Nat) (hm : ms[j]? = some m) :
    Calls Tryz.prog 16 #[.pointer (some ⟨pb, 0, none⟩), .int .i64 j, .string name, .string text] w fun e w' => e = .returned (.int .i64 (wCode F name text)) ∧ XAt w' B pb rg cap ms (wNext Fs j F name text) ∧ w.grownBy w' (some m) := by
  have hj : j < Fs.length := (List.getElem?_eq_some_iff.1 hF).1
  have HH := hasX h (hasB_nat hj)
  have hc := h.cell0
  have hn3 := h.n3
  have HX : Hid (XAt w B pb rg cap ms Fs) := h
  have HM : Hid (ms[j]? = some m) := hm
  have HF : Hid (Fs[j]? = some F) := hF
  clear h hm hF
  go_enter Tryz.func16, Tryz.ntmps16
  go_wp2_with fail
  refine HH.out.mono ?_
  rintro e w' ⟨rfl, rfl⟩
  go_wp2_with fail
  refine (write77_any name text hs rg (j * 2) m F (HX.out.few F (List.mem_of_getElem? HF.out)) _ (HX.out.map_at HM.out) HX.out.lt.2 (HX.out.maps j m F HM.out HF.out)).mono ?_
  rintro e w2 ⟨rfl, hF2, hg2⟩
  go_wp2
  go_ret
  refine ⟨rfl, ?_, hg2⟩
  rw [wNext_set HF.out]
  exact HX.out.put HM.out hg2 hF2 (set_len5 (HX.out.few F (List.mem_of_getElem? HF.out)))

set_option maxRecDepth 100000 in
set_option maxHeartbeats 1600000 in
theorem xerase40_yes (j : Nat) (name : ByteArray) (hs : name.size ≤ 10000000) (B pb rg cap : Nat) (ms : List Nat) (Fs : List Repo) (w : World) (h : XAt w B pb rg cap ms Fs) (F : Repo) (hF : Fs[j]? = some F) (m : Nat) (hm : ms[j]? = some m) :
    Calls Tryz.prog 80 #[.pointer (some ⟨pb, 0, none⟩), .int .i64 j, .string name] w fun e w' => e = .returned (.int .i64 (eCode F name)) ∧ XAt w' B pb rg cap ms (eNext Fs j F name) ∧ w.grownBy w' (some m) := by
  have hj : j < Fs.length := (List.getElem?_eq_some_iff.1 hF).1
  have HH := hasX h (hasB_nat hj)
  have hc := h.cell0
  have hn3 := h.n3
  have HX : Hid (XAt w B pb rg cap ms Fs) := h
  have HM : Hid (ms[j]? = some m) := hm
  have HF : Hid (Fs[j]? = some F) := hF
  clear h hm hF
  go_enter Tryz.func80, Tryz.ntmps80
  go_wp2_with fail
  refine HH.out.mono ?_
  rintro e w' ⟨rfl, rfl⟩
  go_wp2_with fail
  refine (erase81_any name hs rg (j * 2) m F _ (HX.out.map_at HM.out) HX.out.lt.2 (HX.out.maps j m F HM.out HF.out)).mono ?_
  rintro e w2 ⟨rfl, hF2, hg2⟩
  go_wp2
  go_ret
  refine ⟨rfl, ?_, hg2⟩
  rw [eNext_set HF.out]
  exact HX.out.put HM.out hg2 hF2 (era_len5 (HX.out.few F (List.mem_of_getElem? HF.out)))

set_option maxRecDepth 100000 in
set_option maxHeartbeats 1600000 in
theorem xtext10_yes (j : Nat) (name : ByteArray) (hs : name.size ≤ 10000000) (B pb rg cap : Nat) (ms : List Nat) (Fs : List Repo) (w : World) (h : XAt w B pb rg cap ms Fs) (F : Repo) (hF : Fs[j]? = some F) :
    Calls Tryz.prog 50 #[.pointer (some ⟨pb, 0, none⟩), .int .i64 j, .string name] w fun e w' => e = .returned (.tuple #[.string (tText F name), .int .i64 (tCode F name)]) ∧ Below w.heap.size w w' := by
  have hj : j < Fs.length := (List.getElem?_eq_some_iff.1 hF).1
  have HH := hasX h (hasB_nat hj)
  have hc := h.cell0
  have hn3 := h.n3
  have HX : Hid (XAt w B pb rg cap ms Fs) := h
  obtain ⟨m, hm, hFm⟩ := h.get hF
  have HM : Hid (ms[j]? = some m) := hm
  have HFm : Hid (FAt w m F) := hFm
  clear h hm hF hFm
  generalize hT : tText F name = T
  generalize hC : tCode F name = C
  have HT : Hid (tText F name = T) := hT
  have HC : Hid (tCode F name = C) := hC
  clear hT hC
  go_enter Tryz.func50, Tryz.ntmps50
  go_wp2_with fail
  refine HH.out.mono ?_
  rintro e w' ⟨rfl, rfl⟩
  go_wp2_with fail
  refine (text23_any name hs rg (j * 2) m F _ (HX.out.map_at HM.out) HX.out.lt.2 HFm.out).mono ?_
  rw [HT.out, HC.out]
  rintro e w2 ⟨rfl, hb2⟩
  go_wp2
  go_ret2
  exact ⟨rfl, hb2⟩
end Go.Proofs.YtgdfipmdmgkidaaGreatDoor
