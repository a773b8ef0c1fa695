/- The statement's step on one twin: Text. -/
import Derived.Test.YtgdfipmdmgkidaaGreatDoorGplay
namespace Go.Proofs.YtgdfipmdmgkidaaGreatDoor
open Go.RowKit

set_option maxRecDepth 100000 in
set_option maxHeartbeats 3200000 in
theorem asked44_any (t : Twin) (on r : Int) (s u : ByteArray) (hs : s.size ≤ 10000000) (B : Nat) (w : World) (hX : XAt w B t.pb t.rg t.cap t.ms t.Fs) (hR : RAt w B t.rb t.sg t.vs t.Fs) :
    Calls Tryz.prog 100 #[twV t, opV 7 on r s u] w fun e w' => e = .returned (.bool true) ∧ Below w.heap.size w w' := by
  unfold twV opV
  obtain ⟨w0, hw0⟩ : ∃ w0, w0 = (w.alloc (.cells #[.pointer (some ⟨t.pb, 0, none⟩), .pointer (some ⟨t.rb, 0, none⟩)] 99)).alloc (.cells #[.int .i64 7, .int .i64 on, .int .i64 r, .string s, .string u] 76) := ⟨_, rfl⟩
  have hb0 : Below w.heap.size w w0 := by rw [hw0]; exact made_below _ _ _
  have hx0 : Boxes w0 w.heap.size t 7 on r s u := by rw [hw0]; exact Boxes.made _ _ _ _ _ _ _
  obtain ⟨d0, d1, d2, d3, d4, d5⟩ := hx0.cells
  have HX : Hid (XAt w0 B t.pb t.rg t.cap t.ms t.Fs) := hX.below hb0
  have HR : Hid (RAt w0 B t.rb t.sg t.vs t.Fs) := hR.below hb0
  have HB : Hid (Below w.heap.size w w0) := hb0
  have HBX : Hid (Boxes w0 w.heap.size t 7 on r s u) := hx0
  clear hX hR hb0 hx0
  cases hr : hasB r t.Fs.length
  · have HH : Hid (hasB r t.Fs.length = false) := hr
    clear hr
    go_enter Tryz.func100, Tryz.ntmps100
    go_wp2_with fail
    rw [← hw0]
    clear hw0
    refine (xtext10_no r s _ _ _ _ _ _ _ HX.out HH.out).mono ?_
    rintro e w' ⟨rfl, rfl⟩
    go_wp2_with fail
    refine (text84_no r s hs _ _ _ _ _ _ HR.out HH.out).mono ?_
    rintro e w2 ⟨rfl, q, rfl⟩
    have HB2 : Hid (Below w.heap.size w (w'.drewN q)) := below_drewN HB.out q
    generalize w'.drewN q = w3 at *
    clear d0 d1 d2 d3 d4 d5
    go_wp2_with (go_at_call 53; refine (num6_any _ _ (by omega) (by omega)).mono ?_; rintro e w' ⟨rfl, rfl⟩)
    go_ret
    exact ⟨ret_bool (by simp), HB2.out⟩
  · obtain ⟨i, rfl, hi⟩ := hasB_yes hr
    clear hr
    have hF : t.Fs[i]? = some t.Fs[i] := List.getElem?_eq_getElem hi
    generalize t.Fs[i] = F at *
    have hbd := tCode_bd F s
    have HF : Hid (t.Fs[i]? = some F) := hF
    clear hF
    obtain ⟨C, hC⟩ : ∃ C, tCode F s = C := ⟨_, rfl⟩
    obtain ⟨X, hX⟩ : ∃ X, tText F s = X := ⟨_, rfl⟩
    rw [hC] at hbd
    have HC : Hid (tCode F s = C) := hC
    have HT : Hid (tText F s = X) := hX
    clear hC hX
    go_enter Tryz.func100, Tryz.ntmps100
    go_wp2_with fail
    rw [← hw0]
    clear hw0
    refine (xtext10_yes i s hs _ _ _ _ _ _ _ HX.out F HF.out).mono ?_
    rw [HC.out, HT.out]
    rintro e w1 ⟨rfl, hb1⟩
    obtain ⟨a0, a1, a2, a3, a4, a5⟩ := (HBX.out.below hb1).cells
    clear d0 d1 d2 d3 d4 d5
    have HB1 : Hid (Below w.heap.size w w1) := HB.out.trans (hb1.mono HB.out.size)
    have HR1 : Hid (RAt w1 B t.rb t.sg t.vs t.Fs) := HR.out.below hb1
    clear hb1
    go_wp2_with fail
    refine (text84_yes i s hs _ _ _ _ _ _ HR1.out F HF.out).mono ?_
    rw [HC.out, HT.out]
    rintro e w2 ⟨rfl, q, rfl⟩
    have HB2 : Hid (Below w.heap.size w (w1.drewN q)) := below_drewN HB1.out q
    generalize w1.drewN q = w3 at *
    clear a0 a1 a2 a3 a4 a5
    go_wp2_with (go_at_call 53; refine (num6_any _ _ (by omega) (by omega)).mono ?_; rintro e w' ⟨rfl, rfl⟩)
    go_ret
    exact ⟨ret_bool (by simp), HB2.out⟩

set_option maxRecDepth 100000 in
set_option maxHeartbeats 3200000 in
theorem world17_text (j : Nat) (t : Twin) (on r : Int) (s u : ByteArray) (hs : s.size ≤ 10000000) (B bb : Nat) (K : List Ent) (lv kv : Value) (T : List Twin) (w : World) (h : WAt w B bb K lv kv T) (hj : T[j]? = some t) :
    Calls Tryz.prog 58 #[.pointer (some ⟨bb, 0, none⟩), twV t, opV 7 on r s u] w fun e w' => e = .returned (.bool true) ∧ Stepped w B bb K T w' ∧ Kept w w' bb := by
  unfold twV opV
  obtain ⟨w0, hw0⟩ : ∃ w0, w0 = (w.alloc (.cells #[.pointer (some ⟨t.pb, 0, none⟩), .pointer (some ⟨t.rb, 0, none⟩)] 99)).alloc (.cells #[.int .i64 7, .int .i64 on, .int .i64 r, .string s, .string u] 76) := ⟨_, rfl⟩
  have hb0 : Below w.heap.size w w0 := by rw [hw0]; exact made_below _ _ _
  have hx0 : Boxes w0 w.heap.size t 7 on r s u := by rw [hw0]; exact Boxes.made _ _ _ _ _ _ _
  obtain ⟨d0, d1, d2, d3, d4, d5⟩ := hx0.cells
  have d6 : w0.cell? ⟨w.heap.size + 1, 1, none⟩ = some (.int .i64 on) := by simp [World.cell?, hx0.op]
  have HX : Hid (XAt w0 B t.pb t.rg t.cap t.ms t.Fs) := (h.x t (List.mem_of_getElem? hj)).below hb0
  have HR : Hid (RAt w0 B t.rb t.sg t.vs t.Fs) := (h.r t (List.mem_of_getElem? hj)).below hb0
  have HB : Hid (Below w.heap.size w w0) := hb0
  have HW : Hid (WAt w B bb K lv kv T) := h
  clear hb0 hx0 h hj
  go_enter Tryz.func58, Tryz.ntmps58
  go_wp2_with fail
  rw [← hw0]
  clear hw0
  refine (asked44_any t on r s u hs B _ HX.out HR.out).mono ?_
  rintro e w1 ⟨rfl, hb1⟩
  go_wp2
  go_ret
  exact ⟨rfl, Stepped.below HW.out (HB.out.trans (hb1.mono HB.out.size)), Kept.below (HB.out.trans (hb1.mono HB.out.size)) HW.out.bbl⟩
end Go.Proofs.YtgdfipmdmgkidaaGreatDoor
