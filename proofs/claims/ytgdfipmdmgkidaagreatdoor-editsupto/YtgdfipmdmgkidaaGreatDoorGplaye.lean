/- The statement's step on one twin: Erase. -/
import Derived.Test.YtgdfipmdmgkidaaGreatDoorGplay
namespace Go.Proofs.YtgdfipmdmgkidaaGreatDoor
open Go.RowKit

set_option maxRecDepth 100000 in
set_option maxHeartbeats 3200000 in
theorem world17_erase (j : Nat) (t : Twin) (on r : Int) (s u : ByteArray) (hs : s.size ≤ 10000000) (B bb : Nat) (K : List Ent) (lv kv : Value) (T : List Twin) (w : World) (h : WAt w B bb K lv kv T) (hj : T[j]? = some t) :
    Calls Tryz.prog 58 #[.pointer (some ⟨bb, 0, none⟩), twV t, opV 5 on r s u] w fun e w' => e = .returned (.bool true) ∧ Stepped w B bb K T w' ∧ Kept w w' bb := by
  unfold twV opV
  obtain ⟨w0, hw0⟩ : ∃ w0, w0 = (w.alloc (.cells #[.pointer (some ⟨t.pb, 0, none⟩), .pointer (some ⟨t.rb, 0, none⟩)] 99)).alloc (.cells #[.int .i64 5, .int .i64 on, .int .i64 r, .string s, .string u] 76) := ⟨_, rfl⟩
  have hb0 : Below w.heap.size w w0 := by rw [hw0]; exact made_below _ _ _
  have hx0 : Boxes w0 w.heap.size t 5 on r s u := by rw [hw0]; exact Boxes.made _ _ _ _ _ _ _
  have h0 := h.below hb0
  have hX := h0.x t (List.mem_of_getElem? hj)
  have hR := h0.r t (List.mem_of_getElem? hj)
  obtain ⟨d0, d1, d2, d3, d4, d5⟩ := hx0.cells
  cases hr : hasB r t.Fs.length
  · have HX : Hid (XAt w0 B t.pb t.rg t.cap t.ms t.Fs) := hX
    have HR : Hid (RAt w0 B t.rb t.sg t.vs t.Fs) := hR
    have HW : Hid (WAt w B bb K lv kv T) := h
    have HB : Hid (Below w.heap.size w w0) := hb0
    have HH : Hid (hasB r t.Fs.length = false) := hr
    have HBX : Hid (Boxes w0 w.heap.size t 5 on r s u) := hx0
    clear hX hR h hj hr hb0 hx0 h0
    go_enter Tryz.func58, Tryz.ntmps58
    go_wp2_with fail
    rw [← hw0]
    clear hw0
    refine (xerase40_no r s _ _ _ _ _ _ _ HX.out HH.out).mono ?_
    rintro e w' ⟨rfl, rfl⟩
    go_wp2_with fail
    refine (erase41_no r s hs _ _ _ _ _ _ HR.out HH.out).mono ?_
    rintro e w' ⟨rfl, q, rfl⟩
    obtain ⟨a0, a1, a2, a3, a4, a5⟩ := (HBX.out.below (below_drewN (Below.refl _ _) q)).cells
    have HB2 : Hid (Below w.heap.size w (w'.drewN q)) := below_drewN HB.out q
    generalize w'.drewN q = w3 at *
    go_wp2_with (go_at_call 53; refine (num6_any _ _ (by omega) (by omega)).mono ?_; rintro e w' ⟨rfl, rfl⟩)
    go_ret
    exact ⟨rfl, Stepped.below HW.out HB2.out, Kept.below HB2.out HW.out.bbl⟩
  · obtain ⟨i, rfl, hi⟩ := hasB_yes hr
    clear hr
    have hF : t.Fs[i]? = some t.Fs[i] := List.getElem?_eq_getElem hi
    generalize t.Fs[i] = F at *
    obtain ⟨m, hm, _⟩ := hX.get hF
    have hmw : m < w.heap.size := (h.x t (List.mem_of_getElem? hj)).map_block (List.mem_of_getElem? hm) |>.elim fun es ⟨ck, hb⟩ => (Array.getElem?_eq_some_iff.1 hb).1
    have hsw : t.sg < w.heap.size := (h.r t (List.mem_of_getElem? hj)).lt.2
    have hbd := eCode_bd F s
    have HF : Hid (t.Fs[i]? = some F) := hF
    have HM : Hid (t.ms[i]? = some m) := hm
    have HJ : Hid (T[j]? = some t) := hj
    have HX : Hid (XAt w0 B t.pb t.rg t.cap t.ms t.Fs) := hX
    have HW0 : Hid (WAt w0 B bb K lv kv T) := h0
    have HLO : Hid (B ≤ w.heap.size) := h.lo
    have HBB : Hid (bb < w.heap.size) := h.bbl
    have HB : Hid (Below w.heap.size w w0) := hb0
    have HBX : Hid (Boxes w0 w.heap.size t 5 on i s u) := hx0
    clear hX hR h hj hb0 hx0 h0 hF hm
    go_enter Tryz.func58, Tryz.ntmps58
    go_wp2_with fail
    rw [← hw0]
    clear hw0
    refine (xerase40_yes i s hs _ _ _ _ _ _ _ HX.out F HF.out m HM.out).mono ?_
    rintro e w1 ⟨rfl, hX1, hg1⟩
    obtain ⟨q1, q2, q3, q4⟩ := HW0.out.mapped HJ.out (List.mem_of_getElem? HM.out) hg1
    have hx1 := HBX.out.grown hg1 hmw
    obtain ⟨a0, a1, a2, a3, a4, a5⟩ := hx1.cells
    have HQ : Hid (BookAt w1 B (Old w1) bb K lv kv ∧ w1.ownsRow B 99 2 lv T.length (T.flatMap Twin.cells) ∧ (∀ (i : Nat) (u : Twin), i ≠ j → T[i]? = some u → XAt w1 B u.pb u.rg u.cap u.ms u.Fs) ∧ (∀ u ∈ T, RAt w1 B u.rb u.sg u.vs u.Fs)) := ⟨q1, q2, q3, q4⟩
    have HX1 : Hid (XAt w1 B t.pb t.rg t.cap t.ms (eNext t.Fs i F s)) := hX1
    have HG1 : Hid (w0.grownBy w1 (some m)) := hg1
    have HBX1 : Hid (Boxes w1 w.heap.size t 5 on i s u) := hx1
    clear q1 q2 q3 q4 hX1 hg1 hx1 d0 d1 d2 d3 d4 d5
    generalize hC : eCode F s = C at *
    have HC : Hid (eCode F s = C) := hC
    clear hC
    go_wp2_with fail
    refine (erase41_yes i s hs _ _ _ _ _ _ (HQ.out.2.2.2 t (List.mem_of_getElem? HJ.out)) F HF.out).mono ?_
    rw [HC.out]
    rintro e w2 ⟨rfl, vs', hR2, hg2⟩
    obtain ⟨b0, b1, b2, b3, b4, b5⟩ := (HBX1.out.grown hg2 hsw).cells
    clear a0 a1 a2 a3 a4 a5
    have HR2 : Hid (RAt w2 B t.rb t.sg vs' (eNext t.Fs i F s)) := hR2
    have HG2 : Hid (w1.grownBy w2 (some t.sg)) := hg2
    clear hR2 hg2
    go_wp2_with (go_at_call 53; refine (num6_any _ _ (by omega) (by omega)).mono ?_; rintro e w' ⟨rfl, rfl⟩)
    go_ret
    refine ⟨ret_bool (by simp), ?_, (Kept.below HB.out HBB.out).trans ((HX.out.map_block (List.mem_of_getElem? HM.out)).elim fun es ⟨ck, q⟩ => (Kept.map HG1.out q HW0.out.book.cell).trans (Kept.row HG2.out (HQ.out.2.2.2 t (List.mem_of_getElem? HJ.out)).row HQ.out.1.cell))⟩
    have hlo1 : B ≤ w1.heap.size := Nat.le_trans HLO.out (Nat.le_trans HB.out.size HG1.out.size)
    have R := WAt.written HJ.out HQ.out.1 HQ.out.2.1 HQ.out.2.2.1 HX1.out HQ.out.2.2.2 HW0.out.apart HW0.out.few hlo1 HR2.out HG2.out
    refine ⟨K, lv, kv, _, R, by omega, by rw [List.length_set]; exact Nat.le_refl _, by rw [List.length_set]; omega, ?_⟩
    have b1 : Below B w w0 := HB.out.mono HLO.out
    have b2 : Below B w w1 := b1.grown HG1.out (Nat.le_trans HLO.out HB.out.size) (fun q e => by injection e with e; subst e; exact HX.out.lo3 _ (List.mem_of_getElem? HM.out))
    exact b2.grown HG2.out hlo1 (fun q e => by injection e with e; subst e; exact HR2.out.lo2)
end Go.Proofs.YtgdfipmdmgkidaaGreatDoor
