/- The statement's step on one twin: Files. -/
import Derived.Test.YtgdfipmdmgkidaaGreatDoorGplay
import Derived.Test.YtgdfipmdmgkidaaGreatDoorGsrt
namespace Go.Proofs.YtgdfipmdmgkidaaGreatDoor
open Go.RowKit

set_option maxRecDepth 100000 in
set_option maxHeartbeats 1600000 in
theorem xfiles42_yes (j : Nat) (B pb rg cap : Nat) (ms : List Nat) (Fs : List Repo) (w : World) (h : XAt w B pb rg cap ms Fs) (F : Repo) (hF : Fs[j]? = some F) :
    Calls Tryz.prog 98 #[.pointer (some ⟨pb, 0, none⟩), .int .i64 j] w fun e w' => ∃ v, e = .returned (.tuple #[v, .int .i64 0]) ∧ w'.ownsRow w.heap.size 9 1 v (srt (nms F)).length (strs (srt (nms F))) ∧ Below w.heap.size w w' := by
  have hj : j < Fs.length := (List.getElem?_eq_some_iff.1 hF).1
  have HH := hasX h (hasB_nat hj)
  have hc := h.cell0
  have hn3 := h.n3
  have HX : Hid (XAt w B pb rg cap ms Fs) := h
  obtain ⟨m, hm, hFm⟩ := h.get hF
  have HM : Hid (ms[j]? = some m) := hm
  have HFm : Hid (FAt w m F) := hFm
  have HF5 : Hid (F.length ≤ 5) := h.few F (List.mem_of_getElem? hF)
  clear h hm hF hFm
  go_enter Tryz.func98, Tryz.ntmps98
  go_wp2_with fail
  refine HH.out.mono ?_
  rintro e w' ⟨rfl, rfl⟩
  go_wp2_with fail
  refine (names83_any rg (j * 2) m F HF5.out _ (HX.out.map_at HM.out) HFm.out).mono ?_
  rintro e w2 ⟨v, rfl, hown, hb2⟩
  obtain ⟨va, vc, rfl⟩ := own_shape hown
  have HO : Hid (w2.ownsRow w'.heap.size 9 1 (.slice va (srt (nms F)).length vc) (srt (nms F)).length (strs (srt (nms F)))) := hown
  clear hown
  go_wp2
  go_ret2
  exact ⟨_, rfl, HO.out, hb2⟩

set_option maxRecDepth 100000 in
set_option maxHeartbeats 3200000 in
theorem world17_files_core (j : Nat) (t : Twin) (on r : Int) (s u : ByteArray) (B bb : Nat) (K : List Ent) (lv kv : Value) (T : List Twin) (w : World) (h : WAt w B bb K lv kv T) (hK : K.length + 1 ≤ 10000000) (_hj : T[j]? = some t)
    (c : Int) (hc0 : 0 ≤ c) (hc1 : c ≤ 1000) (L : List ByteArray) (hL : L.length ≤ 1000)
    (hP : ∀ w0, Below w.heap.size w w0 → Calls Tryz.prog 98 #[.pointer (some ⟨t.pb, 0, none⟩), .int .i64 r] w0 fun e w' => ∃ v, e = .returned (.tuple #[v, .int .i64 c]) ∧ w'.ownsRow w0.heap.size 9 1 v L.length (strs L) ∧ Below w0.heap.size w0 w')
    (hD : ∀ w0, Below w.heap.size w w0 → Calls Tryz.prog 99 #[.pointer (some ⟨t.rb, 0, none⟩), .int .i64 r] w0 fun e w' => ∃ v, e = .returned (.tuple #[v, .int .i64 c]) ∧ w'.ownsRow w0.heap.size 9 1 v L.length (strs L) ∧ Below w0.heap.size w0 w') :
    Calls Tryz.prog 58 #[.pointer (some ⟨bb, 0, none⟩), twV t, opV 6 on r s u] w fun e w' => e = .returned (.bool true) ∧ Stepped w B bb K T w' ∧ Kept w w' bb := by
  unfold twV opV
  obtain ⟨w0, hw0⟩ : ∃ w0, w0 = (w.alloc (.cells #[.pointer (some ⟨t.pb, 0, none⟩), .pointer (some ⟨t.rb, 0, none⟩)] 99)).alloc (.cells #[.int .i64 6, .int .i64 on, .int .i64 r, .string s, .string u] 76) := ⟨_, rfl⟩
  have hb0 : Below w.heap.size w w0 := by rw [hw0]; exact made_below _ _ _
  have hx0 : Boxes w0 w.heap.size t 6 on r s u := by rw [hw0]; exact Boxes.made _ _ _ _ _ _ _
  obtain ⟨d0, d1, d2, d3, d4, d5⟩ := hx0.cells
  have HB : Hid (Below w.heap.size w w0) := hb0
  have HBX : Hid (Boxes w0 w.heap.size t 6 on r s u) := hx0
  have HW : Hid (WAt w B bb K lv kv T) := h
  have HP : Hid (∀ w0, Below w.heap.size w w0 → Calls Tryz.prog 98 #[.pointer (some ⟨t.pb, 0, none⟩), .int .i64 r] w0 fun e w' => ∃ v, e = .returned (.tuple #[v, .int .i64 c]) ∧ w'.ownsRow w0.heap.size 9 1 v L.length (strs L) ∧ Below w0.heap.size w0 w') := hP
  have HD : Hid (∀ w0, Below w.heap.size w w0 → Calls Tryz.prog 99 #[.pointer (some ⟨t.rb, 0, none⟩), .int .i64 r] w0 fun e w' => ∃ v, e = .returned (.tuple #[v, .int .i64 c]) ∧ w'.ownsRow w0.heap.size 9 1 v L.length (strs L) ∧ Below w0.heap.size w0 w') := hD
  clear hb0 hx0 h _hj hP hD
  go_enter Tryz.func58, Tryz.ntmps58
  go_wp2_with fail
  rw [← hw0]
  clear hw0
  refine (HP.out _ HB.out).mono ?_
  rintro e w1 ⟨v, rfl, hown1, hb1⟩
  obtain ⟨va, vc, rfl⟩ := own_shape hown1
  obtain ⟨a0, a1, a2, a3, a4, a5⟩ := (HBX.out.below hb1).cells
  have HBX1 : Hid (Boxes w1 w.heap.size t 6 on r s u) := HBX.out.below hb1
  have HB1 : Hid (Below w.heap.size w w1) := HB.out.trans (hb1.mono HB.out.size)
  have hs01 : w0.heap.size ≤ w1.heap.size := hb1.size
  have HO1 : Hid (w1.ownsRow w0.heap.size 9 1 (.slice va L.length vc) L.length (strs L)) := hown1
  clear hown1 hb1 d0 d1 d2 d3 d4 d5
  go_wp2_with fail
  refine (HD.out _ HB1.out).mono ?_
  rintro e w2 ⟨v, rfl, hown2, hb2⟩
  obtain ⟨ua, uc, rfl⟩ := own_shape hown2
  obtain ⟨b0, b1, b2, b3, b4, b5⟩ := (HBX1.out.below hb2).cells
  have HB2 : Hid (Below w.heap.size w w2) := HB1.out.trans (hb2.mono HB1.out.size)
  have HO2 : Hid (w2.ownsRow w1.heap.size 9 1 (.slice ua L.length uc) L.length (strs L)) := hown2
  have HO1' : Hid (w2.ownsRow w0.heap.size 9 1 (.slice va L.length vc) L.length (strs L)) := own_below HO1.out hb2 (Nat.le_refl _)
  have HBX2 : Hid (Boxes w2 w.heap.size t 6 on r s u) := HBX1.out.below hb2
  have hs2 : w0.heap.size ≤ w2.heap.size := Nat.le_trans hs01 hb2.size
  clear hown2 hb2 a0 a1 a2 a3 a4 a5
  go_wp2_with fail
  refine (same15_any L va ua vc uc _ _ _ HO1'.out HO2.out (by omega)).mono ?_
  rintro e w3 ⟨rfl, q, rfl⟩
  have HB3 : Hid (Below w.heap.size w (w2.drewN q)) := below_drewN HB2.out q
  have HO3 : Hid ((w2.drewN q).ownsRow w0.heap.size 9 1 (.slice va L.length vc) L.length (strs L)) := own_below HO1'.out (below_drewN (Below.refl w2.heap.size w2) q) (Nat.le_refl _)
  have hs3 : w0.heap.size ≤ (w2.drewN q).heap.size := Nat.le_trans hs2 (below_drewN (Below.refl w2.heap.size w2) q).size
  generalize w2.drewN q = w3 at *
  clear b0 b1 b2 b3 b4 b5
  have HBK : Hid (BookAt w3 B (Old w) bb K lv kv) := HW.out.book.same (Same.of_below HB3.out (fun g hg => hg))
  have hlo := HW.out.lo
  have hww : w.heap.size ≤ w0.heap.size := HB.out.size
  go_wp2_with fail
  refine (take7_any L _ w0.heap.size B bb (Old w) K lv kv _ HBK.out (fun g hg => Nat.lt_of_lt_of_le hg HB3.out.size) HO3.out (Nat.le_trans hlo hww) hs3 (fun g hg ho => by have := (HO3.out.lt g hg).1; unfold Old at ho; omega) (by omega) hK).mono ?_
  rintro e w4 ⟨rfl, x, kv', hbk4, hb4, hf4⟩
  have HKP : Hid (Kept w w4 bb) := by
    have hbk := HW.out.book
    have n84 : ∀ g, Kind w (fun t => t = 76 ∨ t = 99) g → some g ≠ kv.ownBlock := fun g hg e => by
      obtain ⟨c', t', q1, q2⟩ := own_kind (S := fun x => x = 142) hbk.row rfl e.symm
      subst q2
      exact hg.ne q1 (by decide) rfl
    refine ⟨fun g hg => (hf4 g (Nat.lt_of_lt_of_le hg.lt HB3.out.size) (hg.ne hbk.cell (by decide)) (n84 g hg) (fun e => by have := (HO3.out.lt g e.symm).1; have := hg.lt; omega)).trans (HB3.out.block g hg.lt), ?_⟩
    rw [(cell_of_two hbk4.cell).1, (cell_of_two hbk.cell).1]
  have HE : Hid (Stepped w B bb K T w4) := by
    have hlo4 : B ≤ w4.heap.size := Nat.le_trans (Nat.le_trans hlo HB3.out.size) hb4.size
    have R := HW.out.booked hbk4 hlo4 (fun g hg n1 n2 => (hf4 g (Nat.lt_of_lt_of_le hg HB3.out.size) n1 n2 (fun e => by have := (HO3.out.lt g e.symm).1; omega)).trans (HB3.out.block g hg))
    exact ⟨_, lv, kv', T, R, by simp, Nat.le_refl _, by omega, (HB3.out.mono hlo).trans hb4⟩
  clear hbk4 hb4 hf4
  go_wp2_with (go_at_call 53; refine (num6_any _ _ (by omega) (by omega)).mono ?_; rintro e w' ⟨rfl, rfl⟩)
  go_ret
  exact ⟨ret_bool (by simp), HE.out, HKP.out⟩

theorem srt_len5 {F : Repo} (h : F.length ≤ 5) : (srt (nms F)).length ≤ 1000 := by
  have := srt_len (nms F) (nms F).length (Nat.le_refl _)
  rw [List.take_length, nms_len] at this
  omega

theorem world17_files (j : Nat) (t : Twin) (on r : Int) (s u : ByteArray) (B bb : Nat) (K : List Ent) (lv kv : Value) (T : List Twin) (w : World) (h : WAt w B bb K lv kv T) (hK : K.length + 1 ≤ 10000000) (hj : T[j]? = some t) :
    Calls Tryz.prog 58 #[.pointer (some ⟨bb, 0, none⟩), twV t, opV 6 on r s u] w fun e w' => e = .returned (.bool true) ∧ Stepped w B bb K T w' ∧ Kept w w' bb := by
  have hX := h.x t (List.mem_of_getElem? hj)
  have hR := h.r t (List.mem_of_getElem? hj)
  cases hr : hasB r t.Fs.length
  · refine world17_files_core j t on r s u B bb K lv kv T w h hK hj 1 (by omega) (by omega) [] (by simp) ?_ ?_
    · intro w0 hb
      refine (xfiles42_no r _ _ _ _ _ _ w0 (hX.below hb) hr).mono ?_
      rintro e w' ⟨rfl, rfl⟩
      exact ⟨_, rfl, World.ownsRow_nil _ _ _ _, Below.refl _ _⟩
    · intro w0 hb
      refine (listed43_no r _ _ _ _ _ w0 (hR.below hb) hr).mono ?_
      rintro e w' ⟨rfl, rfl⟩
      exact ⟨_, rfl, World.ownsRow_nil _ _ _ _, Below.refl _ _⟩
  · obtain ⟨i, rfl, hi⟩ := hasB_yes hr
    have hF : t.Fs[i]? = some t.Fs[i] := List.getElem?_eq_getElem hi
    refine world17_files_core j t on i s u B bb K lv kv T w h hK hj 0 (by omega) (by omega) (srt (nms t.Fs[i])) (srt_len5 (hX.few _ (List.getElem_mem hi))) ?_ ?_
    · exact fun w0 hb => xfiles42_yes i _ _ _ _ _ _ w0 (hX.below hb) _ hF
    · exact fun w0 hb => listed43_yes i _ _ _ _ _ w0 (hR.below hb) _ hF
end Go.Proofs.YtgdfipmdmgkidaaGreatDoor
