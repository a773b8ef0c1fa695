/- The statement's step on one twin: Write, Erase, Text. -/
import Derived.Test.YtgdfipmdmgkidaaGreatDoorGstate
import Derived.Test.YtgdfipmdmgkidaaGreatDoorWlined
namespace Go.Proofs.YtgdfipmdmgkidaaGreatDoor
open Go.RowKit

/-- The state behind a step: it is whole, the book has at most one list more, the twins one more. -/
def Stepped (w : World) (B bb : Nat) (K : List Ent) (T : List Twin) (w' : World) : Prop :=
  ∃ K' lv' kv' T', WAt w' B bb K' lv' kv' T' ∧ K'.length ≤ K.length + 1 ∧ T.length ≤ T'.length ∧ T'.length ≤ T.length + 1 ∧ Below B w w'

theorem Stepped.same {w : World} {B bb : Nat} {K : List Ent} {lv kv : Value} {T : List Twin} (h : WAt w B bb K lv kv T) : Stepped w B bb K T w := ⟨K, lv, kv, T, h, by omega, Nat.le_refl _, by omega, Below.refl _ _⟩
theorem Stepped.below {w w' : World} {B bb : Nat} {K : List Ent} {lv kv : Value} {T : List Twin} (h : WAt w B bb K lv kv T) (hb : Below w.heap.size w w') : Stepped w B bb K T w' := ⟨K, lv, kv, T, h.below hb, by omega, Nat.le_refl _, by omega, hb.mono h.lo⟩

/-- The steps, the twins' row and where it is found stay. -/
def Kept (w w' : World) (bb : Nat) : Prop := (∀ g, Kind w (fun t => t = 76 ∨ t = 99) g → w'.heap[g]? = w.heap[g]?) ∧ w'.cell? ⟨bb, 0, none⟩ = w.cell? ⟨bb, 0, none⟩
theorem Kept.below {w w' : World} {bb : Nat} (hb : Below w.heap.size w w') (hbb : bb < w.heap.size) : Kept w w' bb := ⟨fun g hg => hb.block g hg.lt, hb.cell (p := ⟨bb, 0, none⟩) hbb⟩
theorem Kept.trans {w w1 w2 : World} {bb : Nat} (h : Kept w w1 bb) (k : Kept w1 w2 bb) : Kept w w2 bb :=
  ⟨fun g hg => (k.1 g (by obtain ⟨c, t, h1, h2⟩ := hg; exact ⟨c, t, by rw [h.1 g ⟨c, t, h1, h2⟩]; exact h1, h2⟩)).trans (h.1 g hg), k.2.trans h.2⟩
theorem Kept.map {w w' : World} {bb m ck : Nat} {es : Array MapEntry} {c : Array Value} (hg : w.grownBy w' (some m)) (hm : w.heap[m]? = some (.map es ck)) (hbb : w.heap[bb]? = some (.cells c 73 (0, 0))) : Kept w w' bb :=
  ⟨fun g hk => hg.block g hk.lt (fun e => by injection e with e; exact hk.ne_map hm e), World.cell?_of_block (hg.block bb (lt_of_block hbb) (fun e => by injection e with e; subst e; rw [hbb] at hm; cases hm))⟩
theorem Kept.row {w w' : World} {bb m : Nat} {c c' : Array Value} (hg : w.grownBy w' (some m)) (hm : w.heap[m]? = some (.cells c' 205 (0, 0))) (hbb : w.heap[bb]? = some (.cells c 73 (0, 0))) : Kept w w' bb :=
  ⟨fun g hk => hg.block g hk.lt (fun2 hk hm (by decide)), World.cell?_of_block (hg.block bb (lt_of_block hbb) (fun2 (S := fun x => x = 73) ⟨_, 73, hbb, rfl⟩ hm (by decide)))⟩
theorem WAt.bbl {w : World} {B bb : Nat} {K : List Ent} {lv kv : Value} {T : List Twin} (h : WAt w B bb K lv kv T) : bb < w.heap.size := lt_of_block h.book.cell

def opV (kind on r : Int) (s u : ByteArray) : Value := .agg #[.int .i64 kind, .int .i64 on, .int .i64 r, .string s, .string u]
def twV (t : Twin) : Value := .agg #[.pointer (some ⟨t.pb, 0, none⟩), .pointer (some ⟨t.rb, 0, none⟩)]

theorem wCode_bd (F : Repo) (a b : ByteArray) : 0 ≤ wCode F a b ∧ wCode F a b ≤ 1000 := by
  unfold wCode
  repeat' split
  all_goals omega
theorem eCode_bd (F : Repo) (a : ByteArray) : 0 ≤ eCode F a ∧ eCode F a ≤ 1000 := by
  unfold eCode
  repeat' split
  all_goals omega
theorem tCode_bd (F : Repo) (a : ByteArray) : 0 ≤ tCode F a ∧ tCode F a ≤ 1000 := by
  unfold tCode
  repeat' split
  all_goals omega

/-- The call's own copies of the twin and of the step. -/
structure Boxes (w : World) (g : Nat) (t : Twin) (kind on r : Int) (s u : ByteArray) : Prop where
  tw : w.heap[g]? = some (.cells #[.pointer (some ⟨t.pb, 0, none⟩), .pointer (some ⟨t.rb, 0, none⟩)] 99 (0, 0))
  op : w.heap[g + 1]? = some (.cells #[.int .i64 kind, .int .i64 on, .int .i64 r, .string s, .string u] 76 (0, 0))
theorem Boxes.cells {w : World} {g : Nat} {t : Twin} {kind on r : Int} {s u : ByteArray} (h : Boxes w g t kind on r s u) :
    w.cell? ⟨g, 0, none⟩ = some (.pointer (some ⟨t.pb, 0, none⟩)) ∧ w.cell? ⟨g, 1, none⟩ = some (.pointer (some ⟨t.rb, 0, none⟩)) ∧
    w.cell? ⟨g + 1, 0, none⟩ = some (.int .i64 kind) ∧ w.cell? ⟨g + 1, 2, none⟩ = some (.int .i64 r) ∧ w.cell? ⟨g + 1, 3, none⟩ = some (.string s) ∧ w.cell? ⟨g + 1, 4, none⟩ = some (.string u) := by
  simp [World.cell?, h.tw, h.op]
theorem Boxes.made (w : World) (t : Twin) (kind on r : Int) (s u : ByteArray) : Boxes ((w.alloc (.cells #[.pointer (some ⟨t.pb, 0, none⟩), .pointer (some ⟨t.rb, 0, none⟩)] 99)).alloc (.cells #[.int .i64 kind, .int .i64 on, .int .i64 r, .string s, .string u] 76)) w.heap.size t kind on r s u := by
  constructor
  · show ((w.heap.push _).push _)[w.heap.size]? = _
    rw [Array.getElem?_push, if_neg (by simp), Array.getElem?_push, if_pos rfl]
  · show ((w.heap.push _).push _)[w.heap.size + 1]? = _
    rw [Array.getElem?_push, if_pos (by simp)]
theorem Boxes.below {w w' : World} {g : Nat} {t : Twin} {kind on r : Int} {s u : ByteArray} (h : Boxes w g t kind on r s u) (hb : Below w.heap.size w w') : Boxes w' g t kind on r s u :=
  ⟨by rw [hb.block _ (lt_of_block h.tw)]; exact h.tw, by rw [hb.block _ (lt_of_block h.op)]; exact h.op⟩
theorem Boxes.grown {w w' : World} {g m : Nat} {t : Twin} {kind on r : Int} {s u : ByteArray} (h : Boxes w g t kind on r s u) (hg : w.grownBy w' (some m)) (hm : m < g) : Boxes w' g t kind on r s u :=
  ⟨by rw [hg.block _ (lt_of_block h.tw) (by intro e; injection e; omega)]; exact h.tw, by rw [hg.block _ (lt_of_block h.op) (by intro e; injection e; omega)]; exact h.op⟩
theorem made_below (w : World) (o p : Obj) : Below w.heap.size w ((w.alloc o).alloc p) := ((Below.refl _ _).alloc (Nat.le_refl _) _).alloc (by simp) _

set_option maxRecDepth 100000 in
set_option maxHeartbeats 3200000 in
theorem world17_write (j : Nat) (t : Twin) (on r : Int) (s u : ByteArray) (hs : s.size ≤ 10000000) (B bb : Nat) (K : List Ent) (lv kv : Value) (T : List Twin) (w : World) (h : WAt w B bb K lv kv T) (hj : T[j]? = some t) :
    Calls Tryz.prog 58 #[.pointer (some ⟨bb, 0, none⟩), twV t, opV 4 on r s u] w fun e w' => e = .returned (.bool true) ∧ Stepped w B bb K T w' ∧ Kept w w' bb := by
  unfold twV opV
  obtain ⟨w0, hw0⟩ : ∃ w0, w0 = (w.alloc (.cells #[.pointer (some ⟨t.pb, 0, none⟩), .pointer (some ⟨t.rb, 0, none⟩)] 99)).alloc (.cells #[.int .i64 4, .int .i64 on, .int .i64 r, .string s, .string u] 76) := ⟨_, rfl⟩
  have hb0 : Below w.heap.size w w0 := by rw [hw0]; exact made_below _ _ _
  have hx0 : Boxes w0 w.heap.size t 4 on r s u := by rw [hw0]; exact Boxes.made _ _ _ _ _ _ _
  have h0 := h.below hb0
  have hX := h0.x t (List.mem_of_getElem? hj)
  have hR := h0.r t (List.mem_of_getElem? hj)
  obtain ⟨d0, d1, d2, d3, d4, d5⟩ := hx0.cells
  cases hr : hasB r t.Fs.length
  · have HX : Hid (XAt w0 B t.pb t.rg t.cap t.ms t.Fs) := hX
    have HR : Hid (RAt w0 B t.rb t.sg t.vs t.Fs) := hR
    have HW : Hid (WAt w B bb K lv kv T) := h
    have HB : Hid (Below w.heap.size w w0) := hb0
    have HH : Hid (hasB r t.Fs.length = false) := hr
    clear hX hR h hj hr hb0 hx0 h0
    go_enter Tryz.func58, Tryz.ntmps58
    go_wp2_with fail
    rw [← hw0]
    clear hw0
    refine (xwrite38_no r s u _ _ _ _ _ _ _ HX.out HH.out).mono ?_
    rintro e w' ⟨rfl, rfl⟩
    go_wp2_with fail
    refine (write39_no r s u _ _ _ _ _ _ HR.out HH.out).mono ?_
    rintro e w' ⟨rfl, rfl⟩
    go_wp2_with (go_at_call 53; refine (num6_any _ _ (by omega) (by omega)).mono ?_; rintro e w' ⟨rfl, rfl⟩)
    go_ret
    exact ⟨rfl, Stepped.below HW.out HB.out, Kept.below HB.out HW.out.bbl⟩
  · obtain ⟨i, rfl, hi⟩ := hasB_yes hr
    clear hr
    have hF : t.Fs[i]? = some t.Fs[i] := List.getElem?_eq_getElem hi
    generalize t.Fs[i] = F at *
    obtain ⟨m, hm, _⟩ := hX.get hF
    have hmw : m < w.heap.size := (h.x t (List.mem_of_getElem? hj)).map_block (List.mem_of_getElem? hm) |>.elim fun es ⟨ck, hb⟩ => (Array.getElem?_eq_some_iff.1 hb).1
    have hsw : t.sg < w.heap.size := (h.r t (List.mem_of_getElem? hj)).lt.2
    have hbd := wCode_bd F s u
    have HF : Hid (t.Fs[i]? = some F) := hF
    have HM : Hid (t.ms[i]? = some m) := hm
    have HJ : Hid (T[j]? = some t) := hj
    have HX : Hid (XAt w0 B t.pb t.rg t.cap t.ms t.Fs) := hX
    have HW0 : Hid (WAt w0 B bb K lv kv T) := h0
    have HLO : Hid (B ≤ w.heap.size) := h.lo
    have HBB : Hid (bb < w.heap.size) := h.bbl
    have HB : Hid (Below w.heap.size w w0) := hb0
    have HBX : Hid (Boxes w0 w.heap.size t 4 on i s u) := hx0
    clear hX hR h hj hb0 hx0 h0 hF hm
    go_enter Tryz.func58, Tryz.ntmps58
    go_wp2_with fail
    rw [← hw0]
    clear hw0
    refine (xwrite38_yes i s u hs _ _ _ _ _ _ _ HX.out F HF.out m HM.out).mono ?_
    rintro e w1 ⟨rfl, hX1, hg1⟩
    obtain ⟨q1, q2, q3, q4⟩ := HW0.out.mapped HJ.out (List.mem_of_getElem? HM.out) hg1
    have hx1 := HBX.out.grown hg1 hmw
    obtain ⟨a0, a1, a2, a3, a4, a5⟩ := hx1.cells
    have HQ : Hid (BookAt w1 B (Old w1) bb K lv kv ∧ w1.ownsRow B 99 2 lv T.length (T.flatMap Twin.cells) ∧ (∀ (i : Nat) (u : Twin), i ≠ j → T[i]? = some u → XAt w1 B u.pb u.rg u.cap u.ms u.Fs) ∧ (∀ u ∈ T, RAt w1 B u.rb u.sg u.vs u.Fs)) := ⟨q1, q2, q3, q4⟩
    have HX1 : Hid (XAt w1 B t.pb t.rg t.cap t.ms (wNext t.Fs i F s u)) := hX1
    have HG1 : Hid (w0.grownBy w1 (some m)) := hg1
    have HBX1 : Hid (Boxes w1 w.heap.size t 4 on i s u) := hx1
    clear q1 q2 q3 q4 hX1 hg1 hx1 d0 d1 d2 d3 d4 d5
    generalize hC : wCode F s u = C at *
    have HC : Hid (wCode F s u = C) := hC
    clear hC
    go_wp2_with fail
    refine (write39_yes i s u hs _ _ _ _ _ _ (HQ.out.2.2.2 t (List.mem_of_getElem? HJ.out)) F HF.out).mono ?_
    rw [HC.out]
    rintro e w2 ⟨rfl, vs', hR2, hg2⟩
    obtain ⟨b0, b1, b2, b3, b4, b5⟩ := (HBX1.out.grown hg2 hsw).cells
    clear a0 a1 a2 a3 a4 a5
    have HR2 : Hid (RAt w2 B t.rb t.sg vs' (wNext t.Fs i F s u)) := hR2
    have HG2 : Hid (w1.grownBy w2 (some t.sg)) := hg2
    clear hR2 hg2
    go_wp2_with (go_at_call 53; refine (num6_any _ _ (by omega) (by omega)).mono ?_; rintro e w' ⟨rfl, rfl⟩)
    go_ret
    refine ⟨ret_bool (by simp), ?_, (Kept.below HB.out HBB.out).trans ((HX.out.map_block (List.mem_of_getElem? HM.out)).elim fun es ⟨ck, q⟩ => (Kept.map HG1.out q HW0.out.book.cell).trans (Kept.row HG2.out (HQ.out.2.2.2 t (List.mem_of_getElem? HJ.out)).row HQ.out.1.cell))⟩
    have hlo1 : B ≤ w1.heap.size := Nat.le_trans HLO.out (Nat.le_trans HB.out.size HG1.out.size)
    have R := WAt.written HJ.out HQ.out.1 HQ.out.2.1 HQ.out.2.2.1 HX1.out HQ.out.2.2.2 HW0.out.apart HW0.out.few hlo1 HR2.out HG2.out
    refine ⟨K, lv, kv, _, R, by omega, by rw [List.length_set]; exact Nat.le_refl _, by rw [List.length_set]; omega, ?_⟩
    have b1 : Below B w w0 := HB.out.mono HLO.out
    have b2 : Below B w w1 := b1.grown HG1.out (Nat.le_trans HLO.out HB.out.size) (fun q e => by injection e with e; subst e; exact HX.out.lo3 _ (List.mem_of_getElem? HM.out))
    exact b2.grown HG2.out hlo1 (fun q e => by injection e with e; subst e; exact HR2.out.lo2)
end Go.Proofs.YtgdfipmdmgkidaaGreatDoor
