/- The statement's beginning: a world of two repositories, and a file in it. -/
import Derived.Test.YtgdfipmdmgkidaaGreatDoorGcomp
namespace Go.Proofs.YtgdfipmdmgkidaaGreatDoor
open Go.RowKit

set_option maxRecDepth 100000 in
set_option maxHeartbeats 3200000 in
theorem world17_write_to (j : Nat) (t : Twin) (on : Int) (i : Nat) (F : Repo) (hF : t.Fs[i]? = some F) (s u : ByteArray) (hs : s.size ≤ 10000000) (B bb : Nat) (K : List Ent) (lv kv : Value) (T : List Twin) (w : World) (h : WAt w B bb K lv kv T) (hj : T[j]? = some t) :
    Calls Tryz.prog 58 #[.pointer (some ⟨bb, 0, none⟩), twV t, opV 4 on i s u] w fun e w' => e = .returned (.bool true) ∧ (∃ vs', WAt w' B bb K lv kv (T.set j { t with vs := vs', Fs := wNext t.Fs i F s u })) ∧ Below B w w' ∧ Kept w w' bb := by
  unfold twV opV
  obtain ⟨w0, hw0⟩ : ∃ w0, w0 = (w.alloc (.cells #[.pointer (some ⟨t.pb, 0, none⟩), .pointer (some ⟨t.rb, 0, none⟩)] 99)).alloc (.cells #[.int .i64 4, .int .i64 on, .int .i64 i, .string s, .string u] 76) := ⟨_, rfl⟩
  have hb0 : Below w.heap.size w w0 := by rw [hw0]; exact made_below _ _ _
  have hx0 : Boxes w0 w.heap.size t 4 on i s u := by rw [hw0]; exact Boxes.made _ _ _ _ _ _ _
  have h0 := h.below hb0
  have hX := h0.x t (List.mem_of_getElem? hj)
  have hR := h0.r t (List.mem_of_getElem? hj)
  obtain ⟨d0, d1, d2, d3, d4, d5⟩ := hx0.cells
  obtain ⟨m, hm, _⟩ := hX.get hF
  have hmw : m < w.heap.size := (h.x t (List.mem_of_getElem? hj)).map_block (List.mem_of_getElem? hm) |>.elim fun es ⟨ck, hb⟩ => (Array.getElem?_eq_some_iff.1 hb).1
  have hsw : t.sg < w.heap.size := (h.r t (List.mem_of_getElem? hj)).lt.2
  have hbd := wCode_bd F s u
  have HF : Hid (t.Fs[i]? = some F) := hF
  have HM : Hid (t.ms[i]? = some m) := hm
  have HJ : Hid (T[j]? = some t) := hj
  have HX : Hid (XAt w0 B t.pb t.rg t.cap t.ms t.Fs) := hX
  have HW0 : Hid (WAt w0 B bb K lv kv T) := h0
  have HLO : Hid (B ≤ w.heap.size) := h.lo
  have HBB : Hid (bb < w.heap.size) := h.bbl
  have HB : Hid (Below w.heap.size w w0) := hb0
  have HBX : Hid (Boxes w0 w.heap.size t 4 on i s u) := hx0
  clear hX hR h hj hb0 hx0 h0 hF hm
  go_enter Tryz.func58, Tryz.ntmps58
  go_wp2_with fail
  rw [← hw0]
  clear hw0
  refine (xwrite38_yes i s u hs _ _ _ _ _ _ _ HX.out F HF.out m HM.out).mono ?_
  rintro e w1 ⟨rfl, hX1, hg1⟩
  obtain ⟨q1, q2, q3, q4⟩ := HW0.out.mapped HJ.out (List.mem_of_getElem? HM.out) hg1
  have hx1 := HBX.out.grown hg1 hmw
  obtain ⟨a0, a1, a2, a3, a4, a5⟩ := hx1.cells
  have HQ : Hid (BookAt w1 B (Old w1) bb K lv kv ∧ w1.ownsRow B 99 2 lv T.length (T.flatMap Twin.cells) ∧ (∀ (i : Nat) (u : Twin), i ≠ j → T[i]? = some u → XAt w1 B u.pb u.rg u.cap u.ms u.Fs) ∧ (∀ u ∈ T, RAt w1 B u.rb u.sg u.vs u.Fs)) := ⟨q1, q2, q3, q4⟩
  have HX1 : Hid (XAt w1 B t.pb t.rg t.cap t.ms (wNext t.Fs i F s u)) := hX1
  have HG1 : Hid (w0.grownBy w1 (some m)) := hg1
  have HBX1 : Hid (Boxes w1 w.heap.size t 4 on i s u) := hx1
  clear q1 q2 q3 q4 hX1 hg1 hx1 d0 d1 d2 d3 d4 d5
  generalize hC : wCode F s u = C at *
  have HC : Hid (wCode F s u = C) := hC
  clear hC
  go_wp2_with fail
  refine (write39_yes i s u hs _ _ _ _ _ _ (HQ.out.2.2.2 t (List.mem_of_getElem? HJ.out)) F HF.out).mono ?_
  rw [HC.out]
  rintro e w2 ⟨rfl, vs', hR2, hg2⟩
  obtain ⟨b0, b1, b2, b3, b4, b5⟩ := (HBX1.out.grown hg2 hsw).cells
  clear a0 a1 a2 a3 a4 a5
  have HR2 : Hid (RAt w2 B t.rb t.sg vs' (wNext t.Fs i F s u)) := hR2
  have HG2 : Hid (w1.grownBy w2 (some t.sg)) := hg2
  clear hR2 hg2
  go_wp2_with (go_at_call 53; refine (num6_any _ _ (by omega) (by omega)).mono ?_; rintro e w' ⟨rfl, rfl⟩)
  go_ret
  have HKK : Kept w w' bb := ((Kept.below HB.out HBB.out).trans ((HX.out.map_block (List.mem_of_getElem? HM.out)).elim fun es ⟨ck, q⟩ => (Kept.map HG1.out q HW0.out.book.cell).trans (Kept.row HG2.out (HQ.out.2.2.2 t (List.mem_of_getElem? HJ.out)).row HQ.out.1.cell)))
  have hlo1 : B ≤ w1.heap.size := Nat.le_trans HLO.out (Nat.le_trans HB.out.size HG1.out.size)
  have R := WAt.written HJ.out HQ.out.1 HQ.out.2.1 HQ.out.2.2.1 HX1.out HQ.out.2.2.2 HW0.out.apart HW0.out.few hlo1 HR2.out HG2.out
  have b1 : Below B w w0 := HB.out.mono HLO.out
  have b2 : Below B w w1 := b1.grown HG1.out (Nat.le_trans HLO.out HB.out.size) (fun q e => by injection e with e; subst e; exact HX.out.lo3 _ (List.mem_of_getElem? HM.out))
  exact ⟨ret_bool (by simp), ⟨vs', R⟩, b2.grown HG2.out hlo1 (fun q e => by injection e with e; subst e; exact HR2.out.lo2), HKK⟩

/-- Behind the first write. -/
def Woken (w : World) (B bb : Nat) (K : List Ent) (lv kv : Value) (t : Twin) (G : List Repo) (w' : World) : Prop := (∃ vs', WAt w' B bb K lv kv [{ t with vs := vs', Fs := G }]) ∧ Below B w w' ∧ Kept w w' bb
theorem woken_looks {w w' : World} {B bb : Nat} {K : List Ent} {lv kv : Value} {t : Twin} {G : List Repo} (h : Woken w B bb K lv kv t G w') :
    Calls Tryz.prog 60 #[.pointer (some ⟨bb, 1, none⟩)] w' fun e w'' => e = .returned (.bool true) ∧ Woken w B bb K lv kv t G w'' := by
  obtain ⟨⟨vs', hW⟩, hb, hk⟩ := h
  refine (looks9_any B bb _ K lv kv w' hW.book (fun g hg => hg)).mono ?_
  rintro e w2 ⟨rfl, hb2⟩
  exact ⟨rfl, ⟨vs', hW.below hb2⟩, hb.trans (hb2.mono hW.lo), hk.trans (Kept.below hb2 hW.bbl)⟩

theorem play8_wakes (t : Twin) (hFs : t.Fs = List.replicate 2 []) (B bb : Nat) (K : List Ent) (lv kv : Value) (w : World) (h : WAt w B bb K lv kv [t]) :
    Calls Tryz.prog 38 #[.pointer (some ⟨bb, 0, none⟩), opV 4 0 0 aName aText] w fun e w' => e = .returned (.bool true) ∧ Woken w B bb K lv kv t [setF [] aName aText true, []] w' := by
  refine play8_gen 4 0 0 (by omega) (by omega) aName aText B bb K lv kv [t] w h (by simp) (Woken w B bb K lv kv t [setF [] aName aText true, []]) ?_ (fun w' hw => woken_looks hw)
  intro j u hj w1 hb
  obtain ⟨hl, e⟩ := List.getElem?_eq_some_iff.1 hj
  have hj0 : j = 0 := by simp at hl; exact hl
  subst hj0
  simp at e
  subst e
  have hF : t.Fs[0]? = some [] := by rw [hFs]; rfl
  refine (world17_write_to 0 t 0 0 [] hF aName aText (by decide) B bb K lv kv [t] w1 (h.below hb) rfl).mono ?_
  rintro e w2 ⟨rfl, ⟨vs', hW⟩, hb2, hk⟩
  have e1 : wNext t.Fs 0 [] aName aText = [setF [] aName aText true, []] := by
    unfold wNext
    rw [aCode, if_pos rfl, hFs]
    rfl
  rw [e1] at hW
  exact ⟨rfl, ⟨⟨vs', hW⟩, (hb.mono h.lo).trans hb2, (Kept.below hb h.bbl).trans hk⟩, hk⟩

set_option maxRecDepth 100000 in
set_option maxHeartbeats 3200000 in
theorem awake5_any (B bb : Nat) (lv kv : Value) (w : World) (h : WAt w B bb [] lv kv []) :
    Calls Tryz.prog 35 #[.pointer (some ⟨bb, 0, none⟩)] w fun e w' => e = .returned (.bool true) ∧ ∃ lv' kv' T, WAt w' B bb [] lv' kv' T ∧ T.length = 1 ∧ Below B w w' := by
  have HW : Hid (WAt w B bb [] lv kv []) := h
  clear h
  go_enter Tryz.func35, Tryz.ntmps35
  go_wp2_with fail
  refine (begins9_yes 2 (by omega) (by omega) B bb [] lv kv [] _ HW.out (by simp)).mono ?_
  rintro e w1 ⟨rfl, lv1, t, hW1, hb1, hFs⟩
  have hW1' : WAt w1 B bb [] lv1 kv [t] := hW1
  obtain ⟨g, lc, rfl, hcs⟩ := twin_cells hW1'.row (by simp)
  obtain ⟨q1, q2⟩ := hcs 0 t rfl
  have hc0 : w1.cell? ⟨bb, 0, none⟩ = some (.slice (some ⟨g, 0, none⟩) 1 lc) := (cell_of_two hW1'.book.cell).1
  have HW1 : Hid (WAt w1 B bb [] (.slice (some ⟨g, 0, none⟩) 1 lc) kv [t]) := hW1'
  have HB1 : Hid (Below B w w1) := hb1
  have HFS : Hid (t.Fs = List.replicate 2 []) := hFs
  have p1 : w1.cell? ⟨g, 0, none⟩ = some (.pointer (some ⟨t.pb, 0, none⟩)) := q1
  have p2 : w1.cell? ⟨g, 1, none⟩ = some (.pointer (some ⟨t.rb, 0, none⟩)) := q2
  clear hW1 hW1' hb1 hFs hcs q1 q2
  obtain ⟨wb, hwb⟩ : ∃ wb, wb = w1.alloc (.cells #[.pointer (some ⟨t.pb, 0, none⟩), .pointer (some ⟨t.rb, 0, none⟩)] 99) := ⟨_, rfl⟩
  have HBB : Hid (Below w1.heap.size w1 wb) := by show Below _ _ _; rw [hwb]; exact (Below.refl _ _).alloc (Nat.le_refl _) _
  have HBX : Hid (wb.heap[w1.heap.size]? = some (.cells #[.pointer (some ⟨t.pb, 0, none⟩), .pointer (some ⟨t.rb, 0, none⟩)] 99 (0, 0))) := by
    show _ = _
    rw [hwb]
    show (w1.heap.push _)[w1.heap.size]? = _
    rw [Array.getElem?_push, if_pos rfl]
  go_wp2_with fail
  rw [← hwb]
  clear hwb
  refine (play8_wakes t HFS.out B bb [] _ kv wb (HW1.out.below HBB.out)).mono ?_
  rintro e w2 ⟨rfl, ⟨vs', hW2⟩, hb2, hk2⟩
  have hbx2 : w2.heap[w1.heap.size]? = some (.cells #[.pointer (some ⟨t.pb, 0, none⟩), .pointer (some ⟨t.rb, 0, none⟩)] 99 (0, 0)) := (hk2.1 _ ⟨_, 99, HBX.out, Or.inr rfl⟩).trans HBX.out
  have z0 : w2.cell? ⟨w1.heap.size, 0, none⟩ = some (.pointer (some ⟨t.pb, 0, none⟩)) := (cell_of_two hbx2).1
  have HW2 : Hid (WAt w2 B bb [] (.slice (some ⟨g, 0, none⟩) 1 lc) kv [{ t with vs := vs', Fs := [setF [] aName aText true, []] }]) := hW2
  have HB2 : Hid (Below B w w2) := (HB1.out.trans (HBB.out.mono HW1.out.lo)).trans hb2
  clear hW2 hb2 hk2 hbx2 hc0 p1 p2
  go_wp2_with fail
  refine (xtext10_yes 0 aName (by decide) B t.pb t.rg t.cap t.ms _ _ (HW2.out.x { t with vs := vs', Fs := [setF [] aName aText true, []] } (by simp)) (setF [] aName aText true) rfl).mono ?_
  rw [aFile.1, aFile.2]
  rintro e w3 ⟨rfl, hb3⟩
  have HW3 : Hid (WAt w3 B bb [] (.slice (some ⟨g, 0, none⟩) 1 lc) kv [{ t with vs := vs', Fs := [setF [] aName aText true, []] }]) := HW2.out.below hb3
  have HB3 : Hid (Below B w w3) := HB2.out.trans (hb3.mono HW2.out.lo)
  clear hb3 z0
  unfold aText
  go_wp2_with (go_at_call 53; refine (num6_any _ _ (by omega) (by omega)).mono ?_; rintro e w' ⟨rfl, rfl⟩)
  go_ret
  exact ⟨ret_bool (by simp), _, _, _, HW3.out, rfl, HB3.out⟩
end Go.Proofs.YtgdfipmdmgkidaaGreatDoor
