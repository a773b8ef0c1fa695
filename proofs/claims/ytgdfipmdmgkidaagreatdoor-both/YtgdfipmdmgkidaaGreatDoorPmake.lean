/- The patch that turns what is kept into some files. -/
import Derived.Test.YtgdfipmdmgkidaaGreatDoorPheld
import Derived.Deep.RegionLaw
import Derived.Deep.AppendLies
import Derived.Test.YtgdfipmdmgkidaaGreatDoorPtree
import Derived.Laws.CopyRow
set_option maxHeartbeats 6400000
namespace Go.Proofs.YtgdfipmdmgkidaaGreatDoor
open Go.RowKit
structure Fl where
  name : ByteArray
  there : Bool
  text : ByteArray
def FV (w : World) (v : Value) (Fs : List Fl) : Prop := ∃ ao cap, v = .slice ao Fs.length cap ∧ ∀ (k : Nat) (f : Fl), Fs[k]? = some f → ∃ b o, ao = some ⟨b, o, none⟩ ∧ b < w.heap.size ∧ w.cell? ⟨b, o + k * 3, none⟩ = some (.string f.name) ∧ w.cell? ⟨b, o + k * 3 + 1, none⟩ = some (.bool f.there) ∧ w.cell? ⟨b, o + k * 3 + 2, none⟩ = some (.string f.text)
theorem FV.below {w w' : World} {v : Value} {Fs : List Fl} (h : FV w v Fs) {B : Nat} (hb : Below B w w') (hB : w.heap.size ≤ B) : FV w' v Fs := by
  obtain ⟨ao, cap, rfl, hc⟩ := h
  refine ⟨ao, cap, rfl, fun k f hk => ?_⟩
  obtain ⟨b, o, e, h1, h2, h3, h4⟩ := hc k f hk
  exact ⟨b, o, e, Nat.lt_of_lt_of_le h1 hb.size, (hb.cell (p := ⟨b, o + k * 3, none⟩) (by simp; omega)).trans h2, (hb.cell (p := ⟨b, o + k * 3 + 1, none⟩) (by simp; omega)).trans h3, (hb.cell (p := ⟨b, o + k * 3 + 2, none⟩) (by simp; omega)).trans h4⟩
structure FlOK (st : ByteArray → PL) (f : Fl) : Prop where
  name : f.name.size ≤ 1000
  text : f.text.size ≤ 10000
  lines : (cutAll f.text).length ≤ 20
  row : (st f.name).S.length ≤ 9000
  living : (rowLines (st f.name).S).length ≤ 900
structure MadeAll (st : ByteArray → PL) (i : Pid) (Fs : List Fl) (Cs : List (ByteArray × ChM)) (m : Nat → Int) : Prop where
  len : Cs.length = Fs.length
  zero : m 0 = 0
  at_ : ∀ k f c, Fs[k]? = some f → Cs[k]? = some c → c.1 = f.name ∧ ChMade (st f.name) i (m k) f.there f.text c.2 (m (k + 1))
theorem Tryz.info226 : (Tryz.prog.info? 226).map (fun i => (i.zero, i.size, i.bytes)) = some (some (.agg #[.string ⟨#[]⟩, .nilIface]), 2, 32) := by kernel_rfl
abbrev chCells (Cs : List (ByteArray × ChM)) : List Value := Cs.flatMap fun c => [.string c.1, chV c.2]
structure MInv (w wr : World) (i : Pid) (tb n : Nat) (st : ByteArray → PL) (Fs : List Fl) (k : Nat) (Cs : List (ByteArray × ChM)) (m : Nat → Int) (cv : Value) : Prop where
  bel : Below w.heap.size w wr
  tree : TreeAt wr tb st n
  tbx : wr.heap[w.heap.size + 1]? = some (.cells #[.map (some tb)] 121 (0, 0))
  res : wr.heap[w.heap.size + 1 + 1]? = some (.cells #[.int .u8 0, .int .u8 0, .int .u8 0, .int .u8 0, .slice none 0 0] 149 (0, 0))
  mkr : MAt wr (w.heap.size + 1 + 1 + 1) i (m k)
  p : wr.heap[w.heap.size + 1 + 1 + 1 + 1]? = some (.cells #[.int .u8 i.a, .int .u8 i.b, .int .u8 i.c, .int .u8 i.d, cv] 149 (0, 0))
  row : wr.ownsRow (w.heap.size + 5) 226 2 cv k (chCells Cs)
  ok : ∀ c ∈ Cs, ChOK wr c.2
  made : MadeAll st i (Fs.take k) Cs m
  small : 0 ≤ m k ∧ m k ≤ k * 18100
theorem alloc_keep {w : World} {p : Addr} (o : Obj) (h : p.block < w.heap.size) : (w.alloc o).cell? p = w.cell? p ∧ (w.alloc o).frozen? p = w.frozen? p :=
  ⟨((Below.refl w.heap.size w).alloc (Nat.le_refl _) o).cell h, ((Below.refl w.heap.size w).alloc (Nat.le_refl _) o).frozen h⟩
theorem five_blocks (w : World) {w5 : World} (a b c d e : Obj) (h : w5 = ((((w.alloc a).alloc b).alloc c).alloc d).alloc e) : Below w.heap.size w w5 ∧ w5.heap.size = w.heap.size + 5 ∧ w5.heap[w.heap.size + 1]? = some b ∧ w5.heap[w.heap.size + 1 + 1]? = some c ∧ w5.heap[w.heap.size + 1 + 1 + 1]? = some d ∧ w5.heap[w.heap.size + 1 + 1 + 1 + 1]? = some e := by
  obtain ⟨w3, hw3⟩ : ∃ w3, w3 = ((w.alloc a).alloc b).alloc c := ⟨_, rfl⟩
  rw [← hw3] at h
  obtain ⟨h1, h2, h3, h4, h5⟩ := three_blocks' w a b c hw3
  obtain ⟨g1, g2, g3, g4⟩ := two_blocks' w3 d e h
  have e3 : w3.heap.size = w.heap.size + 1 + 1 + 1 := by omega
  rw [e3] at g3 g4
  refine ⟨h1.trans (g1.mono (by omega)), by omega, ?_, ?_, g3, g4⟩
  · rw [g1.block _ (by omega)]; exact h4
  · rw [g1.block _ (by omega)]; exact h5
theorem MadeAll.step {st : ByteArray → PL} {i : Pid} {Fs : List Fl} {k : Nat} {Cs : List (ByteArray × ChM)} {m : Nat → Int} {f : Fl} {c : ChM} {n' : Int} (h : MadeAll st i (Fs.take k) Cs m) (hf : Fs[k]? = some f) (hk : k < Fs.length) (hc : ChMade (st f.name) i (m k) f.there f.text c n') : MadeAll st i (Fs.take (k + 1)) (Cs ++ [(f.name, c)]) (fun j => if j = k + 1 then n' else m j) := by
  have hl : Cs.length = k := by rw [h.len, List.length_take]; omega
  refine ⟨by simp [hl]; omega, by simp [h.zero], fun j g d hj hd => ?_⟩
  by_cases e : j = k
  · subst e
    rw [List.getElem?_take_of_lt (by omega), hf] at hj
    cases hj
    rw [List.getElem?_append_right (by omega), hl, Nat.sub_self] at hd
    cases hd
    refine ⟨rfl, ?_⟩
    simpa using hc
  · have hjl : j < k := by
      have := (List.getElem?_eq_some_iff.1 hd).1
      simp at this
      omega
    rw [List.getElem?_append_left (by omega)] at hd
    rw [List.getElem?_take_of_lt (by omega)] at hj
    have := h.at_ j g d (by rw [List.getElem?_take_of_lt hjl]; exact hj) hd
    simp only [if_neg (show ¬ j = k + 1 by omega), if_neg (show ¬ j + 1 = k + 1 by omega)]
    exact this
theorem MInv.cells {w wr : World} {i : Pid} {tb n : Nat} {st : ByteArray → PL} {Fs : List Fl} {k : Nat} {Cs : List (ByteArray × ChM)} {m : Nat → Int} {cv : Value} (h : MInv w wr i tb n st Fs k Cs m cv) : w.heap.size + 1 + 1 + 1 + 1 < wr.heap.size := (Array.getElem?_eq_some_iff.1 h.p).1
theorem gaps_few {S : List Spot} {N : List ByteArray} {Q : List Quad} (h : GapsR (rowLines S) N 0 0 Q) : Q.length ≤ (rowLines S).length + 1 := by
  have := h.len (Nat.zero_le _) (Nat.zero_le _)
  omega
theorem made_small {p : PL} {i : Pid} {n n' : Int} {there : Bool} {text : ByteArray} {c : ChM} (h : ChMade p i n there text c n') (h1 : (cutAll text).length ≤ 20) (h2 : (rowLines p.S).length ≤ 900) : n ≤ n' ∧ n' ≤ n + 18100 := by
  cases c with
  | add i' l rv S => obtain ⟨_, _, _, _, rfl⟩ := h; omega
  | remove i' rv S => obtain ⟨_, _, _, _, rfl⟩ := h; omega
  | alter i' hv Hs =>
    obtain ⟨_, _, _, Q, hg, _, rfl⟩ := h
    have a := gaps_few hg
    have b := numTo_ub (cutAll text) Q n 20 (fun q _ => by unfold linesAt; simp; omega)
    have c := numTo_le n (cutAll text) Q
    have : (Q.length : Int) * (20 : Nat) ≤ 902 * 20 := by omega
    omega
theorem ch_flat : ∀ (Cs : List (ByteArray × ChM)) (k : Nat) (r : ByteArray × ChM), Cs[k]? = some r → (chCells Cs)[k * 2]? = some (.string r.1) ∧ (chCells Cs)[k * 2 + 1]? = some (chV r.2)
  | [], k, r, h => by simp at h
  | x :: Cs, 0, r, h => by simp at h; subst h; simp
  | x :: Cs, k + 1, r, h => by
    have ih := ch_flat Cs k r (by simpa using h)
    have e : (k + 1) * 2 = k * 2 + 2 := by omega
    rw [e]
    simp only [chCells, List.flatMap_cons, List.cons_append, List.nil_append, List.getElem?_cons_succ]
    exact ih
theorem ch_view {w : World} {B : Nat} {cv : Value} {Cs : List (ByteArray × ChM)} (h : w.ownsRow B 226 2 cv Cs.length (chCells Cs)) (hok : ∀ c ∈ Cs, ChOK w c.2) : CV w cv Cs := by
  have hc := fun g => World.ownsRow.cells h (g := g)
  rcases h.2 with ⟨rfl, h0⟩ | ⟨g, cp, cur, rfl, _, hg, hcp, _⟩
  · have : Cs = [] := List.eq_nil_of_length_eq_zero h0
    subst this
    exact ⟨none, 0, rfl, fun k r hk => by simp at hk⟩
  · refine ⟨some ⟨g, 0, none⟩, cp, rfl, fun k r hk => ⟨g, 0, rfl, ⟨cur, _, hg⟩, ?_, ?_, hok r (List.mem_of_getElem? hk)⟩⟩
    · have := hc g rfl (k * 2) _ (ch_flat Cs k r hk).1
      rw [Nat.zero_add, ← this]
      cases k <;> simp [Addr.add]
    · have := hc g rfl (k * 2 + 1) _ (ch_flat Cs k r hk).2
      rw [Nat.zero_add, ← this]
      simp [Addr.add]
theorem cells5_at {w : World} {g : Nat} {x0 x1 x2 x3 x4 : Value} {t : TypeId} {f : Nat × Nat} (h : w.heap[g]? = some (.cells #[x0, x1, x2, x3, x4] t f)) : w.cell? ⟨g, 0, none⟩ = some x0 ∧ w.cell? ⟨g, 1, none⟩ = some x1 ∧ w.cell? ⟨g, 2, none⟩ = some x2 ∧ w.cell? ⟨g, 3, none⟩ = some x3 ∧ w.cell? ⟨g, 4, none⟩ = some x4 := by
  simp [World.cell?, h]
theorem cells5_set (w w1 w2 w3 w4 w5 w9 : World) (g : Nat) (t : TypeId) (c : Array Value) (hc : c.size = 5) (x0 x1 x2 x3 x4 : Value) (hg : w.heap[g]? = some (.cells c t (0, 0)))
    (e1 : w1 = w.setCell ⟨g, 0, none⟩ x0) (e2 : w2 = w1.setCell ⟨g, 1, none⟩ x1) (e3 : w3 = w2.setCell ⟨g, 2, none⟩ x2) (e4 : w4 = w3.setCell ⟨g, 3, none⟩ x3) (e5 : w5 = w4.setCell ⟨g, 4, none⟩ x4) (e9 : w9 = w5) :
    w9.heap[g]? = some (.cells #[x0, x1, x2, x3, x4] t (0, 0)) ∧ Over g w w9 := by
  have g1 := heap_setCell_same w g 0 _ t x0 hg
  have o1 := Over.set w g 0 x0
  rw [← e1] at g1 o1
  have g2 := heap_setCell_same w1 g 1 _ t x1 g1
  have o2 := o1.trans (Over.set w1 g 1 x1)
  rw [← e2] at g2 o2
  have g3 := heap_setCell_same w2 g 2 _ t x2 g2
  have o3 := o2.trans (Over.set w2 g 2 x2)
  rw [← e3] at g3 o3
  have g4 := heap_setCell_same w3 g 3 _ t x3 g3
  have o4 := o3.trans (Over.set w3 g 3 x3)
  rw [← e4] at g4 o4
  have g5 := heap_setCell_same w4 g 4 _ t x4 g4
  have o5 := o4.trans (Over.set w4 g 4 x4)
  rw [← e5] at g5 o5
  have ha : ((((c.setIfInBounds 0 x0).setIfInBounds 1 x1).setIfInBounds 2 x2).setIfInBounds 3 x3).setIfInBounds 4 x4 = #[x0, x1, x2, x3, x4] := by
    obtain ⟨l⟩ := c
    match l, hc with
    | [y0, y1, y2, y3, y4], _ => simp
  rw [ha] at g5
  rw [e9]
  exact ⟨g5, o5⟩
structure MkS (w wr : World) (tb : Nat) (nm : ByteArray) (th : Bool) (tx : ByteArray) (cv : Value) (w' : World) : Prop where
  t : w'.cell? ⟨w.heap.size + 1, 0, none⟩ = some (.map (some tb))
  f0 : w'.cell? ⟨wr.heap.size, 0, none⟩ = some (.string nm)
  f1 : w'.cell? ⟨wr.heap.size, 1, none⟩ = some (.bool th)
  f2 : w'.cell? ⟨wr.heap.size, 2, none⟩ = some (.string tx)
  p : w'.cell? ⟨w.heap.size + 1 + 1 + 1 + 1, 4, none⟩ = some cv
theorem MkS.of {w wr w' : World} {i : Pid} {tb : Nat} {nm : ByteArray} {th : Bool} {tx : ByteArray} {cv : Value} (h1 : w'.heap[w.heap.size + 1]? = some (.cells #[.map (some tb)] 121 (0, 0))) (h2 : w'.heap[wr.heap.size]? = some (.cells #[.string nm, .bool th, .string tx] 118 (0, 0))) (h3 : w'.heap[w.heap.size + 1 + 1 + 1 + 1]? = some (.cells #[.int .u8 i.a, .int .u8 i.b, .int .u8 i.c, .int .u8 i.d, cv] 149 (0, 0))) : MkS w wr tb nm th tx cv w' :=
  ⟨by simp [World.cell?, h1], (cells3_at h2).1, (cells3_at h2).2.1, (cells3_at h2).2.2, by simp [World.cell?, h3]⟩
theorem MkS.alloc {w wr w' : World} {tb : Nat} {nm : ByteArray} {th : Bool} {tx : ByteArray} {cv : Value} (h : MkS w wr tb nm th tx cv w') (o : Obj) (h1 : w.heap.size + 1 + 1 + 1 + 1 < w'.heap.size) (h2 : wr.heap.size < w'.heap.size) : MkS w wr tb nm th tx cv (w'.alloc o) :=
  ⟨(alloc_keep o (by show w.heap.size + 1 < _; omega)).1.trans h.t, (alloc_keep o h2).1.trans h.f0, (alloc_keep o h2).1.trans h.f1, (alloc_keep o h2).1.trans h.f2, (alloc_keep o h1).1.trans h.p⟩
set_option maxRecDepth 100000 in
theorem make87_any (i : Pid) (tb n : Nat) (st : ByteArray → PL) (Fs : List Fl) (fv : Value) (w : World) (hT : TreeAt w tb st n) (_hn : n ≤ 100000) (hF : FV w fv Fs) (hFs : Fs.length ≤ 50) (hok : ∀ f ∈ Fs, FlOK st f) :
    Calls Tryz.prog 110 #[.agg #[.int .u8 i.a, .int .u8 i.b, .int .u8 i.c, .int .u8 i.d], .agg #[.map (some tb)], fv] w fun e w' => ∃ cv Cs m, e = .returned (.agg #[.int .u8 i.a, .int .u8 i.b, .int .u8 i.c, .int .u8 i.d, cv]) ∧ CV w' cv Cs ∧ MadeAll st i Fs Cs m ∧ Below w.heap.size w w' := by
  obtain ⟨i0, hi, hz0, hz1, hz2⟩ := info_parts Tryz.info226
  have HFV := hid hF
  obtain ⟨fa, fc, rfl, hff⟩ := hF
  clear hff
  have htb := hT.lt
  obtain ⟨w5, hw5⟩ : ∃ w5, w5 = ((((w.alloc (.cells #[.int .u8 i.a, .int .u8 i.b, .int .u8 i.c, .int .u8 i.d] 113)).alloc (.cells #[.map (some tb)] 121)).alloc (.cells #[.int .u8 0, .int .u8 0, .int .u8 0, .int .u8 0, .slice none 0 0] 149)).alloc (.cells #[.int .u8 i.a, .int .u8 i.b, .int .u8 i.c, .int .u8 i.d, .int .i64 0] 221)).alloc (.cells #[.int .u8 i.a, .int .u8 i.b, .int .u8 i.c, .int .u8 i.d, .slice none 0 0] 149) := ⟨_, rfl⟩
  obtain ⟨b1, b2, b3, b4, b5, b6⟩ := five_blocks w _ _ _ _ _ hw5
  have HI : Hid (MInv w w5 i tb n st Fs 0 [] (fun _ => 0) (.slice none 0 0)) := ⟨b1, hT.below b1 (Nat.le_refl _), b3, b4, b5, b6, World.ownsRow_nil _ _ _ _, by simp, ⟨by simp, rfl, by simp⟩, by simp⟩
  have HOK := hid hok
  clear b1 b2 b3 b4 b5 b6 hT hok
  go_enter Tryz.func110, Tryz.ntmps110
  go_wp2
  rw [← hw5]
  clear hw5
  go_loopw [17] (fun x wr => ∃ (k : Nat) (Cs : List (ByteArray × ChM)) (m : Nat → Int) (cv : Value), k ≤ Fs.length ∧ x = .int .i64 k ∧ Hid (MInv w wr i tb n st Fs k Cs m cv)) (fun x _ => Fs.length - (intOf x).toNat)
  case atStart => exact ⟨0, [], fun _ => 0, .slice none 0 0, Nat.zero_le _, rfl, HI⟩
  case round =>
    clear HI
    obtain ⟨k, Cs, m, cv, hkl, rfl, HI⟩ := hrel
    by_cases hlt : k < Fs.length
    · obtain ⟨f, hfk⟩ : ∃ f, Fs[k]? = some f := ⟨_, List.getElem?_eq_getElem hlt⟩
      obtain ⟨_, _, e1, hc1⟩ := HFV.out.below HI.out.bel (Nat.le_refl _)
      cases e1
      obtain ⟨b, o, rfl, hb, c0, c1, c2⟩ := hc1 k f hfk
      have HFK := hid hfk
      have hfo := HOK.out f (List.mem_of_getElem? hfk)
      have HFO := hid hfo
      have hnm := hfo.name
      obtain ⟨nm, th, tx⟩ := f
      simp only at c0 c1 c2 hnm
      obtain ⟨w6, hw6⟩ : ∃ w6, w6 = wr.alloc (.cells #[.string nm, .bool th, .string tx] 118) := ⟨_, rfl⟩
      have hb6 : Below wr.heap.size wr w6 := by rw [hw6]; exact (Below.refl _ _).alloc (Nat.le_refl _) _
      have hk6 : w6.heap[wr.heap.size]? = some (.cells #[.string nm, .bool th, .string tx] 118 (0, 0)) := by rw [hw6]; exact (MapKept.heap_alloc wr _).1
      have hs6 : wr.heap.size < w6.heap.size := by rw [hw6]; simp
      have hlo := HI.out.cells
      clear hc1 hfk hfo
      go_wp2_with fail
      rw [← hw6]
      clear hw6 c0 c1 c2
      have htr6 : TreeAt w6.drew tb st n := (HI.out.tree.below hb6 (Nat.le_refl _)).below ((Below.refl _ _).drew) (Nat.le_refl _)
      obtain ⟨l, hlk, hl1, hl2⟩ := htr6.look nm (by omega)
      have hx6 := (hb6.block (w.heap.size + 1) (by omega)).trans HI.out.tbx
      have hp6 := (hb6.block (w.heap.size + 1 + 1 + 1 + 1) (by omega)).trans HI.out.p
      have HS6 : Hid (MkS w wr tb nm th tx cv w6.drew) := MkS.of hx6 hk6 hp6
      have hM6 : MAt w6.drew (w.heap.size + 1 + 1 + 1) i (m k) := (hb6.block (w.heap.size + 1 + 1 + 1) (by omega)).trans HI.out.mkr
      have hsm := HI.out.small
      have HC : Hid (Calls Tryz.prog 175 #[.pointer (some ⟨w.heap.size + 1 + 1 + 1, 0, none⟩), latV l, .agg #[.string nm, .bool th, .string tx]] w6.drew fun e w7 => ∃ c n', e = .returned (.iface (chT c) (chIn c)) ∧ ChMade (st nm) i (m k) th tx c n' ∧ ChOK w7 c ∧ MAt w7 (w.heap.size + 1 + 1 + 1) i n' ∧ But w6 w7 (w.heap.size + 1 + 1 + 1)) := by
        have hfo := HFO.out
        refine (change138_any (st nm) l i (m k) (w.heap.size + 1 + 1 + 1) nm tx th w6.drew hl1 hl2 hM6 hfo.text (by have := hfo.lines; simp only at this; omega) hfo.row hsm.1 (by omega) (fun Q hg j => ?_)).mono ?_
        · have h1 := gaps_few hg
          have h2 := hfo.living
          have h3 := hfo.lines
          simp only at h2 h3
          have h4 : (Q.take j).length ≤ 901 := by rw [List.length_take]; omega
          have h5 := numTo_ub (cutAll tx) (Q.take j) (m k) 20 (fun q _ => by unfold linesAt; simp; omega)
          have h6 := numTo_le (m k) (cutAll tx) (Q.take j)
          have : ((Q.take j).length : Int) * (20 : Nat) ≤ 901 * 20 := by omega
          omega
        · rintro e w7 ⟨c, n', rfl, h1, h2, h3, h4⟩
          exact ⟨c, n', rfl, h1, h2, h3, ⟨h4.os, h4.tape, h4.output, h4.size, h4.block⟩⟩
      obtain ⟨lc, hlc⟩ : ∃ lc, latV l = lc := ⟨_, rfl⟩
      rw [hlc] at hlk HC
      have hrow6 : w6.ownsRow (w.heap.size + 5) 226 2 cv k (chCells Cs) := own_below HI.out.row hb6 (Nat.le_refl _)
      have HROW := hid hrow6
      have HP6 := hid hp6
      have HK6 := hid hk6
      have HX6 := hid hx6
      have HCVB : Hid (∀ j, cv.ownBlock = some j → w.heap.size + 5 ≤ j ∧ j < w6.heap.size ∧ TB w6 j 226) := fun j hj => ⟨(hrow6.lt j hj).1, (hrow6.lt j hj).2, own_TB hrow6 hj⟩
      clear htr6 hl1 hl2 hlc hk6 hx6 hp6 hM6 hrow6 hb
      refine wp_region_Z (MkS w wr tb nm th tx cv) 15 (by kernel_rfl) ?_
      refine zt 0 (v := ?v0) HS6.out (fun w0 hS0 => ?hy) ?_
      case hy => obtain ⟨s1, s2, s3, s4, s5⟩ := hS0; go_simp; with_reducible rfl
      simp only [Act.put, List.setIfInBounds_toArray]
      refine zt 1 (v := ?v1) HS6.out (fun w0 hS0 => ?hy) ?_
      case hy => obtain ⟨s1, s2, s3, s4, s5⟩ := hS0; go_simp; with_reducible rfl
      simp only [Act.put]
      refine zt 2 (v := ?v2) HS6.out (fun w0 hS0 => ?hy) ?_
      case hy => obtain ⟨s1, s2, s3, s4, s5⟩ := hS0; go_simp; with_reducible rfl
      simp only [Act.put]
      refine zt 3 (v := ?v3) HS6.out (fun w0 hS0 => ?hy) ?_
      case hy => obtain ⟨s1, s2, s3, s4, s5⟩ := hS0; go_simp; with_reducible rfl
      simp only [Act.put]
      refine zt 4 (v := ?v4) HS6.out (fun w0 hS0 => ?hy) ?_
      case hy => obtain ⟨s1, s2, s3, s4, s5⟩ := hS0; go_simp; with_reducible rfl
      simp only [Act.put]
      refine zt 5 (v := ?v5) HS6.out (fun w0 hS0 => ?hy) ?_
      case hy => obtain ⟨s1, s2, s3, s4, s5⟩ := hS0; go_simp; with_reducible rfl
      simp only [Act.put]
      refine zt 6 (v := ?v6) HS6.out (fun w0 hS0 => ?hy) ?_
      case hy => obtain ⟨s1, s2, s3, s4, s5⟩ := hS0; go_simp; with_reducible rfl
      simp only [Act.put]
      refine zt 7 (v := ?v7) HS6.out (fun w0 hS0 => ?hy) ?_
      case hy => obtain ⟨s1, s2, s3, s4, s5⟩ := hS0; go_simp; with_reducible rfl
      simp only [Act.put]
      refine zt 9 (v := ?v9) HS6.out (fun w0 hS0 => ?hy) ?_
      case hy => obtain ⟨s1, s2, s3, s4, s5⟩ := hS0; go_simp; with_reducible rfl
      simp only [Act.put]
      refine wpZ_one 8 _ rfl (by kernel_rfl) (fun K hK => ?_)
      go_simp
      refine hK.out _ _ (fun _ => HS6.out) ?_
      clear hK
      refine wpZ_one 10 _ rfl (by kernel_rfl) (fun K hK => ?_)
      go_simp
      refine HC.out.mono ?_
      rintro e w7 ⟨c, n', rfl, hcm, hco, hM7, hbt⟩
      have HBT := hid hbt
      have hs7 : w6.heap.size ≤ w7.heap.size := hbt.size
      have HX7 : Hid (w7.heap[w.heap.size + 1]? = some (.cells #[.map (some tb)] 121 (0, 0))) := (hbt.block _ (by omega) (by omega)).trans HX6.out
      have HK7 : Hid (w7.heap[wr.heap.size]? = some (.cells #[.string nm, .bool th, .string tx] 118 (0, 0))) := (hbt.block _ hs6 (by omega)).trans HK6.out
      have HP7 : Hid (w7.heap[w.heap.size + 1 + 1 + 1 + 1]? = some (.cells #[.int .u8 i.a, .int .u8 i.b, .int .u8 i.c, .int .u8 i.d, cv] 149 (0, 0))) := (hbt.block _ (by omega) (by omega)).trans HP6.out
      have HS7 := hid (MkS.of HX7.out HK7.out HP7.out)
      have HCM := hid hcm
      have HCO := hid hco
      have HM7 := hid hM7
      clear hcm hco hM7 hbt HC hlk HS6
      dsimp only
      refine hK.out _ _ (fun _ => HS7.out) ?_
      clear hK
      refine wpZ_one 11 _ rfl (by kernel_rfl) (fun K hK => ?_)
      go_simp
      refine hK.out _ _ (fun _ => HS7.out) ?_
      clear hK
      refine wpZ_one 12 _ rfl (by kernel_rfl) (fun K hK => ?_)
      go_simp
      refine hK.out _ _ (fun _ => HS7.out.alloc _ (by omega) (by omega)) ?_
      clear hK
      refine wpZ_one 13 _ rfl (by kernel_rfl) (fun K hK => ?_)
      refine step_append_lies _ (by rfl) _ _ _ (by rfl) (w.heap.size + 5) 226 i0 _ 2 32 Tryz.underlying147 hi hz0 hz1 hz2 rfl (by omega) cv k (chCells Cs) (by rfl) (((own_but HROW.out HBT.out (by omega)).alloc _)) ⟨w7.heap.size, 0, none⟩ 1 1 [.string nm, .iface (chT c) (chIn c)] (by rfl) (by rfl) (World.news_of_block (cs := #[.string nm, .iface (chT c) (chIn c)]) (t := 226) (fr := (0, 0)) (heap_alloc_new w7 _)) (by simp [Value.oneCell']) (by omega) (by unfold maxLen; omega) (by omega) (by simp; omega) (w7.heap.size + 1) (by simp) ?_
      intro g cap w8 hown8 hgrow hat hlt8
      have far8 : ∀ j, j < w7.heap.size → (∀ q, cv.ownBlock = some q → j ≠ q) → w8.heap[j]? = w7.heap[j]? := fun j hj hne => (hgrow.block j (by simp; omega) (fun e => hne j e.symm rfl)).trans (Below.heap_alloc w7 _ _ hj)
      have HP8 : Hid (w8.heap[w.heap.size + 1 + 1 + 1 + 1]? = some (.cells #[.int .u8 i.a, .int .u8 i.b, .int .u8 i.c, .int .u8 i.d, cv] 149 (0, 0))) := (far8 _ (by omega) (fun q hq => by have := (HCVB.out q hq).1; omega)).trans HP7.out
      have HX8 : Hid (w8.heap[w.heap.size + 1]? = some (.cells #[.map (some tb)] 121 (0, 0))) := (far8 _ (by omega) (fun q hq => by have := (HCVB.out q hq).1; omega)).trans HX7.out
      have HK8 : Hid (w8.heap[wr.heap.size]? = some (.cells #[.string nm, .bool th, .string tx] 118 (0, 0))) := (far8 _ (by omega) (fun q hq e => by obtain ⟨_, _, A, fz, h⟩ := HCVB.out q hq; rw [← e, HK6.out] at h; simp at h)).trans HK7.out
      have HS8 := hid (MkS.of HX8.out HK8.out HP8.out)
      have p8 : w8.cell? ⟨w.heap.size + 1 + 1 + 1 + 1, 4, none⟩ = some cv := HS8.out.p
      have z8 : w8.frozen? ⟨w.heap.size + 1 + 1 + 1 + 1, 4, none⟩ = false := free3 HP8.out 4
      have H8 := hid hown8
      have HG8 := hid hgrow
      clear hown8 hgrow hat
      refine hK.out _ _ (fun _ => HS8.out) ?_
      clear hK
      simp only [Act.put, List.setIfInBounds_toArray]
      refine wpZ_one 14 _ rfl (by kernel_rfl) (fun K hK => ?_)
      go_simp
      refine hK.out _ _ (fun _ => HS8.out) ?_
      clear hK
      refine wpZ_one 15 _ rfl (by kernel_rfl) (fun K hK => ?_)
      go_simp
      refine hK.out _ _ (fun h => absurd rfl h) ?_
      clear hK
      refine wpZ_done (by kernel_rfl) ?_ _
      have HN : Hid (MInv w (w8.setCell ⟨w.heap.size + 1 + 1 + 1 + 1, 4, none⟩ (.slice (some ⟨g, 0, none⟩) (k + 1) cap)) i tb n st Fs (k + 1) (Cs ++ [(nm, c)]) (fun j => if j = k + 1 then n' else m j) (.slice (some ⟨g, 0, none⟩) (k + 1) cap)) := by
        have I := HI.out
        have hsp := HBT.out
        have held : HeldR wr (w8.setCell ⟨w.heap.size + 1 + 1 + 1 + 1, 4, none⟩ (.slice (some ⟨g, 0, none⟩) (k + 1) cap)) := by
          refine (((HeldT.of_below hb6).trans (HeldT.of_but hsp ⟨_, _, (hb6.block _ (by omega)).trans I.mkr⟩ (by simp [rows]))).trans (HeldT.alloc w7 _)).trans ((HeldT.of_grown HG8.out (fun q hq => ⟨226, ?_, by simp [rows]⟩)).trans (HeldT.set ⟨_, _, HP8.out⟩ (by simp [rows]) _))
          obtain ⟨h1, h2, h3⟩ := HCVB.out q hq
          refine h3.same ?_
          rw [Below.heap_alloc w7 _ _ (by omega)]
          exact hsp.block q h2 (by omega)
        have held7 : HeldR w7 (w8.setCell ⟨w.heap.size + 1 + 1 + 1 + 1, 4, none⟩ (.slice (some ⟨g, 0, none⟩) (k + 1) cap)) := by
          refine (HeldT.alloc w7 _).trans ((HeldT.of_grown HG8.out (fun q hq => ⟨226, ?_, by simp [rows]⟩)).trans (HeldT.set ⟨_, _, HP8.out⟩ (by simp [rows]) _))
          obtain ⟨h1, h2, h3⟩ := HCVB.out q hq
          refine h3.same ?_
          rw [Below.heap_alloc w7 _ _ (by omega)]
          exact hsp.block q h2 (by omega)
        have far : ∀ j, j < w.heap.size + 5 → j ≠ w.heap.size + 1 + 1 + 1 + 1 → (w8.setCell ⟨w.heap.size + 1 + 1 + 1 + 1, 4, none⟩ (.slice (some ⟨g, 0, none⟩) (k + 1) cap)).heap[j]? = w7.heap[j]? := fun j hj hne => (Below.heap_setCell _ _ _ _ hne).trans (far8 j (by omega) (fun q hq => by have := (HCVB.out q hq).1; omega))
        have far2 : ∀ j, j < w.heap.size + 5 → j ≠ w.heap.size + 1 + 1 + 1 + 1 → j ≠ w.heap.size + 1 + 1 + 1 → (w8.setCell ⟨w.heap.size + 1 + 1 + 1 + 1, 4, none⟩ (.slice (some ⟨g, 0, none⟩) (k + 1) cap)).heap[j]? = wr.heap[j]? := fun j hj h1 h2 => (far j hj h1).trans ((hsp.block j (by omega) h2).trans (hb6.block j (by omega)))
        have hs8 : w7.heap.size ≤ w8.heap.size := by have := HG8.out.size; simp at this; omega
        have hs6w := I.bel.size
        have e9 : (w8.setCell ⟨w.heap.size + 1 + 1 + 1 + 1, 4, none⟩ (.slice (some ⟨g, 0, none⟩) (k + 1) cap)).heap.size = w8.heap.size := by simp [World.setCell]
        have hms := made_small HCM.out HFO.out.lines HFO.out.living
        refine ⟨⟨?_, ?_, ?_, ?_, fun j hj => ?_⟩, I.tree.held held (far2 tb (by omega) (by omega) (by omega)), (far2 _ (by omega) (by omega) (by omega)).trans I.tbx, (far2 _ (by omega) (by omega) (by omega)).trans I.res, ?_, heap_setCell_same w8 _ 4 _ 149 _ HP8.out, ?_, ?_, I.made.step HFK.out hlt HCM.out, ?_⟩
        · exact HG8.out.os.trans (hsp.os.trans (hb6.os.trans I.bel.os))
        · exact HG8.out.tape.trans (hsp.tape.trans (hb6.tape.trans I.bel.tape))
        · exact HG8.out.output.trans (hsp.output.trans (hb6.output.trans I.bel.output))
        · omega
        · exact (far2 j (by omega) (by omega) (by omega)).trans (I.bel.block j hj)
        · show MAt _ _ _ (if k + 1 = k + 1 then n' else m (k + 1))
          rw [if_pos rfl]
          exact (far _ (by omega) (by omega)).trans HM7.out
        · rw [chCells, List.flatMap_append]
          exact ownsRow_setCell_below H8.out (a := ⟨w.heap.size + 1 + 1 + 1 + 1, 4, none⟩) (by show w.heap.size + 1 + 1 + 1 + 1 < _; omega) _
        · intro x hx
          rcases List.mem_append.1 hx with hx | hx
          · exact (I.ok x hx).held held
          · rw [List.mem_singleton] at hx
            subst hx
            exact HCO.out.held held7
        · simp only
          have := I.small
          push_cast
          omega
      clear HG8 H8 HP8 HX8 HK8 HS8 HP7 HX7 HK7 HS7 HCO HM7 HCM HI p8 z8
      go_wp2
      go_roundw
      case rel => exact ⟨k + 1, _, _, _, by omega, by go_num, HN⟩
      case measure => simp [intOf]; omega
    · obtain rfl : k = Fs.length := by omega
      have hlo := HI.out.cells
      obtain ⟨ca, cc, hce⟩ := own_shape HI.out.row
      subst hce
      obtain ⟨q0, q1, q2, q3, q4⟩ := cells5_at HI.out.p
      obtain ⟨r0, r1, r2, r3, r4⟩ := cells5_at HI.out.res
      have z0 := free3 HI.out.res 0
      have z1 := free3 HI.out.res 1
      have z2 := free3 HI.out.res 2
      have z3 := free3 HI.out.res 3
      have z4 := free3 HI.out.res 4
      obtain ⟨w9, hw9⟩ : ∃ w9, w9 = ((((wr.setCell ⟨w.heap.size + 1 + 1, 0, none⟩ (.int .u8 i.a)).setCell ⟨w.heap.size + 1 + 1, 1, none⟩ (.int .u8 i.b)).setCell ⟨w.heap.size + 1 + 1, 2, none⟩ (.int .u8 i.c)).setCell ⟨w.heap.size + 1 + 1, 3, none⟩ (.int .u8 i.d)).setCell ⟨w.heap.size + 1 + 1, 4, none⟩ (.slice ca Fs.length cc) := ⟨_, rfl⟩
      obtain ⟨s1, s2⟩ := cells5_set wr _ _ _ _ _ w9 (w.heap.size + 1 + 1) 149 _ rfl _ _ _ _ _ HI.out.res rfl rfl rfl rfl rfl hw9
      have hb9 : Below w.heap.size w w9 := ⟨s2.os.trans HI.out.bel.os, s2.tape.trans HI.out.bel.tape, s2.output.trans HI.out.bel.output, by rw [s2.size]; exact HI.out.bel.size, fun j hj => (s2.block j (by omega)).trans (HI.out.bel.block j hj)⟩
      have HV9 : Hid (CV w9 (.slice ca Fs.length cc) Cs) := by
        have hl : Cs.length = Fs.length := by rw [HI.out.made.len, List.length_take]; omega
        have h1 := HI.out.row
        rw [← hl] at h1
        have h2 := (ch_view h1 HI.out.ok).held (HeldT.of_but ⟨s2.os, s2.tape, s2.output, by rw [s2.size]; exact Nat.le_refl _, fun j _ hne => s2.block j hne⟩ ⟨_, _, HI.out.res⟩ (by simp [stuff]))
        rw [hl] at h2
        exact h2
      have HMD : Hid (MadeAll st i Fs Cs m) := by
        have := HI.out.made
        rw [List.take_length] at this
        exact this
      clear HI s2
      go_wp2
      rw [← hw9]
      clear hw9
      refine bodyPost_ret (results_cell_row (p := 6) (ty := 149) (by kernel_rfl) _ _ (w.heap.size + 1 + 1) 149 _ (0, 0) _ rfl s1 Tryz.underlying149 rfl (by kernel_rfl)) rfl ?_
      exact ⟨_, Cs, m, rfl, HV9.out, HMD.out, hb9⟩
end Go.Proofs.YtgdfipmdmgkidaaGreatDoor

/- An id out of a word. -/
set_option maxHeartbeats 3200000
set_option maxRecDepth 100000
namespace Go.Proofs.YtgdfipmdmgkidaaGreatDoor
open Go.RowKit
theorem run_copy_str (w : World) (g : Nat) (cur : Array Value) (t : TypeId) (hc : cur.size = 4) (hg : w.heap[g]? = some (.cells cur t (0, 0))) (a b c d : UInt8) :
    (Builtin.copy_ #[156, 9] 3 #[.slice (some ⟨g, 0, none⟩) 4 4, .string ⟨#[a, b, c, d]⟩]).run Tryz.prog w = .ok (goInt 4) (w.setRow g #[.int .u8 a.toNat, .int .u8 b.toNat, .int .u8 c.toNat, .int .u8 d.toNat]) := by
  obtain ⟨i0, hi, hz0, hz1, hz2⟩ := info_parts Tryz.info5
  have hst := run_storeCells_at Tryz.prog g 0 t [.int .u8 a.toNat, .int .u8 b.toNat, .int .u8 c.toNat, .int .u8 d.toNat] 0 cur w hg (by simp; omega) (by intro v hv; simp only [List.mem_cons, List.not_mem_nil, or_false] at hv; rcases hv with rfl | rfl | rfl | rfl <;> rfl)
  have hd : cur.toList.drop 4 = [] := by rw [List.drop_eq_nil_iff]; simp; omega
  simp [hd] at hst
  have hs : (⟨#[a, b, c, d]⟩ : ByteArray).size = 4 := rfl
  simp [Builtin.copy_, run_underlying Tryz.underlying156, Builtin.lenOf, Builtin.firstCells, sizeOf, typeInfo, hi, hs, hst]
theorem cells4_set (w w1 w2 w3 w4 w9 : World) (g : Nat) (t : TypeId) (c : Array Value) (hc : c.size = 4) (x0 x1 x2 x3 : Value) (hg : w.heap[g]? = some (.cells c t (0, 0)))
    (e1 : w1 = w.setCell ⟨g, 0, none⟩ x0) (e2 : w2 = w1.setCell ⟨g, 1, none⟩ x1) (e3 : w3 = w2.setCell ⟨g, 2, none⟩ x2) (e4 : w4 = w3.setCell ⟨g, 3, none⟩ x3) (e9 : w9 = w4) :
    w9.heap[g]? = some (.cells #[x0, x1, x2, x3] t (0, 0)) ∧ Over g w w9 := by
  have g1 := heap_setCell_same w g 0 _ t x0 hg
  have o1 := Over.set w g 0 x0
  rw [← e1] at g1 o1
  have g2 := heap_setCell_same w1 g 1 _ t x1 g1
  have o2 := o1.trans (Over.set w1 g 1 x1)
  rw [← e2] at g2 o2
  have g3 := heap_setCell_same w2 g 2 _ t x2 g2
  have o3 := o2.trans (Over.set w2 g 2 x2)
  rw [← e3] at g3 o3
  have g4 := heap_setCell_same w3 g 3 _ t x3 g3
  have o4 := o3.trans (Over.set w3 g 3 x3)
  rw [← e4] at g4 o4
  have ha : (((c.setIfInBounds 0 x0).setIfInBounds 1 x1).setIfInBounds 2 x2).setIfInBounds 3 x3 = #[x0, x1, x2, x3] := by
    obtain ⟨l⟩ := c
    match l, hc with
    | [y0, y1, y2, y3], _ => simp
  rw [ha] at g4
  rw [e9]
  exact ⟨g4, o4⟩
theorem cells4_at {w : World} {g : Nat} {x0 x1 x2 x3 : Value} {t : TypeId} {f : Nat × Nat} (h : w.heap[g]? = some (.cells #[x0, x1, x2, x3] t f)) : w.cell? ⟨g, 0, none⟩ = some x0 ∧ w.cell? ⟨g, 1, none⟩ = some x1 ∧ w.cell? ⟨g, 2, none⟩ = some x2 ∧ w.cell? ⟨g, 3, none⟩ = some x3 := by
  simp [World.cell?, h]
theorem idOf51_any (a b c d : UInt8) (w : World) :
    Calls Tryz.prog 70 #[.string ⟨#[a, b, c, d]⟩] w fun e w' => e = .returned (.agg #[.int .u8 a.toNat, .int .u8 b.toNat, .int .u8 c.toNat, .int .u8 d.toNat]) ∧ Below w.heap.size w w' := by
  obtain ⟨w2, hw2⟩ : ∃ w2, w2 = (w.alloc (.cells #[.int .u8 0, .int .u8 0, .int .u8 0, .int .u8 0] 113)).alloc (.cells #[.int .u8 0, .int .u8 0, .int .u8 0, .int .u8 0] 113) := ⟨_, rfl⟩
  obtain ⟨hb2, hs2, hk2, hf2⟩ := two_blocks' w _ _ hw2
  have hrun := run_copy_str w2 (w.heap.size + 1) _ 113 rfl hf2 a b c d
  go_enter Tryz.func70, Tryz.ntmps70
  go_wp2
  rw [← hw2, hrun]
  clear hrun hw2
  obtain ⟨w3, hw3⟩ : ∃ w3, w3 = w2.setRow (w.heap.size + 1) #[.int .u8 a.toNat, .int .u8 b.toNat, .int .u8 c.toNat, .int .u8 d.toNat] := ⟨_, rfl⟩
  have hb3 : Below w.heap.size w w3 := by rw [hw3]; exact hb2.trans ⟨rfl, rfl, rfl, by simp [World.setRow], fun k hk => setRow_other w2 _ k _ (by omega)⟩
  have h1 : w3.heap[w.heap.size + 1]? = some (.cells #[.int .u8 a.toNat, .int .u8 b.toNat, .int .u8 c.toNat, .int .u8 d.toNat] 113 (0, 0)) := by rw [hw3]; exact setRow_heap w2 _ _ _ 113 _ hf2
  have h0 : w3.heap[w.heap.size]? = some (.cells #[.int .u8 0, .int .u8 0, .int .u8 0, .int .u8 0] 113 (0, 0)) := by rw [hw3, setRow_other w2 _ _ _ (by omega)]; exact hk2
  rw [← hw3]
  clear hw3 hb2 hs2 hk2 hf2
  obtain ⟨p0, p1, p2, p3⟩ := cells4_at h1
  obtain ⟨r0, r1, r2, r3⟩ := cells4_at h0
  have z0 := free3 h0 0
  have z1 := free3 h0 1
  have z2 := free3 h0 2
  have z3 := free3 h0 3
  go_wp2
  obtain ⟨w5, hw5⟩ : ∃ w5, w5 = (((w3.setCell ⟨w.heap.size, 0, none⟩ (.int .u8 a.toNat)).setCell ⟨w.heap.size, 1, none⟩ (.int .u8 b.toNat)).setCell ⟨w.heap.size, 2, none⟩ (.int .u8 c.toNat)).setCell ⟨w.heap.size, 3, none⟩ (.int .u8 d.toNat) := ⟨_, rfl⟩
  obtain ⟨s1, s2⟩ := cells4_set w3 _ _ _ _ w5 w.heap.size 113 _ rfl _ _ _ _ h0 rfl rfl rfl rfl hw5
  rw [← hw5]
  have hb5 : Below w.heap.size w w5 := ⟨s2.os.trans hb3.os, s2.tape.trans hb3.tape, s2.output.trans hb3.output, by rw [s2.size]; exact hb3.size, fun k hk => (s2.block k (by omega)).trans (hb3.block k hk)⟩
  refine bodyPost_ret (results_cell_row (p := 2) (ty := 113) (by kernel_rfl) _ _ w.heap.size 113 _ (0, 0) _ rfl s1 Tryz.underlying113 rfl (by kernel_rfl)) rfl ?_
  exact ⟨rfl, hb5⟩
end Go.Proofs.YtgdfipmdmgkidaaGreatDoor
/- What the user has of a name. -/
namespace Go.Proofs.YtgdfipmdmgkidaaGreatDoor
open Go.RowKit
open Go.ChangeMaps Go.MapKept
def fileS (t : ByteArray) : Value := .agg #[.string t]
def FK (w : World) (mb : Nat) (f : ByteArray → Option ByteArray) (n : Nat) : Prop := ∃ (D : DataW Value), w.ownsMap Tryz.prog 9 latElem mb n D ∧ (∀ x, D.atKey (kl x) (.held (fileS ⟨#[]⟩)) = .held (fileS ((f x).getD ⟨#[]⟩))) ∧ (∀ x, Maps.has D (kl x) = (f x).isSome)
theorem zero84 (w : World) : (zeroValue 105).run Tryz.prog w = .ok (fileS ⟨#[]⟩) w := Tryz.zeroValue105 w
theorem fileS_elem (t : ByteArray) : latElem (fileS t) = some (.held (fileS t), []) := rfl
theorem FK.lt {w : World} {mb n : Nat} {f : ByteArray → Option ByteArray} (h : FK w mb f n) : mb < w.heap.size := by
  obtain ⟨D, h1, _⟩ := h
  exact h1.lt
theorem FK.same {w w' : World} {mb n : Nat} {f : ByteArray → Option ByteArray} (h : FK w mb f n) (hb : w'.heap[mb]? = w.heap[mb]?) : FK w' mb f n := by
  obtain ⟨D, ⟨es, clock, he, hr⟩, h2⟩ := h
  exact ⟨D, ⟨es, clock, hb.trans he, hr⟩, h2⟩
theorem FK.look {w : World} {mb n : Nat} {f : ByteArray → Option ByteArray} (h : FK w mb f n) (x : ByteArray) (hx : x.size ≤ 1000000) : (Instr.lookup 85 (.map (some mb)) (.string x) true).run Tryz.prog w = .ok (.tuple #[fileS ((f x).getD ⟨#[]⟩), .bool (f x).isSome]) w := by
  obtain ⟨D, h1, h2, h3⟩ := h
  obtain ⟨v, ps, hr, hv⟩ := h1.look_ok (Maps.string_keyed Tryz.underlying9) Tryz.underlying85 (zero84 w) (fileS_elem ⟨#[]⟩) (kl_of (s := x) (by unfold maxLen; omega))
  rw [h2 x] at hv
  rw [hr, latElem_inv hv, h3 x]
theorem FK.made (w : World) : FK (w.alloc (.map #[] 0)) w.heap.size (fun _ => none) 0 := ⟨.map [], World.ownsMap_made w _ _ _, fun _ => rfl, fun _ => rfl⟩
theorem FK.put {w : World} {mb n : Nat} {f : ByteArray → Option ByteArray} (h : FK w mb f n) (hn : n + 1 ≤ 1000000) (a t : ByteArray) (ha : a.size ≤ 1000000) :
    ∃ w', (Instr.mapUpdate 85 (.map (some mb)) (.string a) (fileS t)).run Tryz.prog w = .ok () w' ∧ FK w' mb (fun x => if x = a then some t else f x) (n + 1) ∧ w.grownBy w' (some mb) := by
  obtain ⟨D, h1, h2, h3⟩ := h
  obtain ⟨w', hr, ho, hg⟩ := h1.update (Maps.string_keyed Tryz.underlying9) Tryz.underlying85 (by unfold maxLen; omega) (kl_of (s := a) (by unfold maxLen; omega)) (fileS_elem t)
  refine ⟨w', hr, ⟨_, ho, fun x => ?_, fun x => ?_⟩, hg⟩
  · show _ = DataW.held (fileS ((if x = a then some t else f x).getD ⟨#[]⟩))
    by_cases e : x = a
    · subst e
      rw [Maps.atKey_put_same h1.isMap (kl_key x), if_pos rfl]; rfl
    · rw [Maps.atKey_put_other (fun q => e (kl_inj q)), h2, if_neg e]
  · show _ = (if x = a then some t else f x).isSome
    by_cases e : x = a
    · subst e
      rw [Maps.has_put_same h1.isMap (kl_key x), if_pos rfl]; rfl
    · rw [Maps.has_put_other (fun q => e (kl_inj q)), h3, if_neg e]
theorem file142_any (f : ByteArray → Option ByteArray) (mb n rb ro : Nat) (x : ByteArray) (hx : x.size ≤ 1000000) (w : World) (h : FK w mb f n) (hr : w.cell? ⟨rb, ro + 1, none⟩ = some (.map (some mb))) (hrb : rb < w.heap.size) :
    Calls Tryz.prog 179 #[.pointer (some ⟨rb, ro, none⟩), .string x] w fun e w' => e = .returned (fileV x (f x).isSome ((f x).getD ⟨#[]⟩)) ∧ Below w.heap.size w w' := by
  have hmb := h.lt
  obtain ⟨w2, hw2⟩ : ∃ w2, w2 = w.alloc (.cells #[.string ⟨#[]⟩, .bool false, .string ⟨#[]⟩] 118) := ⟨_, rfl⟩
  have hb2 : Below w.heap.size w w2 := by rw [hw2]; exact (Below.refl _ _).alloc (Nat.le_refl _) _
  have hf2 : w2.heap[w.heap.size]? = some (.cells #[.string ⟨#[]⟩, .bool false, .string ⟨#[]⟩] 118 (0, 0)) := by rw [hw2]; exact (MapKept.heap_alloc w _).1
  have hs2' : w.heap.size < w2.heap.size := by rw [hw2]; simp
  have hlk := (h.same (hb2.block mb hmb)).look x hx
  obtain ⟨t, ht⟩ : ∃ t, (f x).getD ⟨#[]⟩ = t := ⟨_, rfl⟩
  obtain ⟨bo, hbo⟩ : ∃ b, (f x).isSome = b := ⟨_, rfl⟩
  rw [ht, hbo] at hlk
  have HT := hid ht
  have HBO := hid hbo
  unfold fileS at hlk
  clear ht hbo
  go_enter Tryz.func179, Tryz.ntmps179
  go_wp2
  rw [← hw2, hlk]
  clear hlk hw2
  obtain ⟨r0, r1, r2⟩ := cells3_at hf2
  have z0 := free3 hf2 0
  have z1 := free3 hf2 1
  have z2 := free3 hf2 2
  have hne : w.heap.size ≠ w2.heap.size := by omega
  go_wp2
  obtain ⟨w5, hw5⟩ : ∃ w5, w5 = ((w2.setCell ⟨w.heap.size, 0, none⟩ (.string x)).setCell ⟨w.heap.size, 1, none⟩ (.bool bo)).setCell ⟨w.heap.size, 2, none⟩ (.string t) := ⟨_, rfl⟩
  obtain ⟨s1, s2⟩ := cells3_set w2 _ _ _ w5 w.heap.size 118 _ rfl _ _ _ hf2 rfl rfl rfl hw5
  rw [← hw5]
  have hs5 : w.heap.size < w5.heap.size := by rw [s2.size]; exact hs2'
  have hb5 : Below w.heap.size w w5 := ⟨s2.os.trans hb2.os, s2.tape.trans hb2.tape, s2.output.trans hb2.output, by rw [s2.size]; exact hb2.size, fun k hk => (s2.block k (by omega)).trans (hb2.block k hk)⟩
  have s9 : (w5.alloc (.cells #[.string t] 105)).heap[w.heap.size]? = _ := (Below.heap_alloc w5 _ _ hs5).trans s1
  refine bodyPost_ret (results_cell_row (p := 4) (ty := 118) (by kernel_rfl) _ _ w.heap.size 118 _ (0, 0) _ rfl s9 Tryz.underlying118 rfl (by kernel_rfl)) rfl ?_
  exact ⟨by rw [HT.out, HBO.out]; rfl, hb5.alloc (by omega) _⟩
end Go.Proofs.YtgdfipmdmgkidaaGreatDoor
