/- An alteration is applied: hunk by hunk. -/
import Derived.Test.YtgdfipmdmgkidaaGreatDoorPapply
set_option maxHeartbeats 6400000
set_option maxRecDepth 100000
namespace Go.Proofs.YtgdfipmdmgkidaaGreatDoor
open Go.RowKit
structure Hk where
  nv : Value
  bv : Value
  N : List Spot
  Br : List Spot
def HV (w : World) (v : Value) (Hs : List Hk) : Prop := ∃ ao cap, v = .slice ao Hs.length cap ∧ ∀ (k : Nat) (h : Hk), Hs[k]? = some h → ∃ b o, ao = some ⟨b, o, none⟩ ∧ TB w b 327 ∧ w.cell? ⟨b, o + k * 2, none⟩ = some h.nv ∧ w.cell? ⟨b, o + k * 2 + 1, none⟩ = some h.bv ∧ SV w h.nv h.N ∧ SV w h.bv h.Br
theorem HV.below {w w' : World} {v : Value} {Hs : List Hk} (h : HV w v Hs) {B : Nat} (hb : Below B w w') (hB : w.heap.size ≤ B) : HV w' v Hs := by
  obtain ⟨ao, cap, rfl, hc⟩ := h
  refine ⟨ao, cap, rfl, fun k r hk => ?_⟩
  obtain ⟨b, o, e, h1, h2, h3, h4, h5⟩ := hc k r hk
  have hlt := h1.lt
  exact ⟨b, o, e, h1.below hb hB, (hb.cell (p := ⟨b, o + k * 2, none⟩) (by simp; omega)).trans h2, (hb.cell (p := ⟨b, o + k * 2 + 1, none⟩) (by simp; omega)).trans h3, h4.below hb hB, h5.below hb hB⟩
structure Steps (f : Nat → List Spot) (Hs : List Hk) : Prop where
  step : ∀ (k : Nat) (h : Hk), Hs[k]? = some h → ∃ t p, h.N[0]? = some t ∧ idxS (f k) t = some p ∧ p + h.N.length ≤ (f k).length ∧ 2 ≤ h.N.length ∧ f (k + 1) = hApply (f k) h.N h.Br p
  small : ∀ (k : Nat) (h : Hk), Hs[k]? = some h → (f k).length + h.N.length + h.Br.length ≤ 300000
  last : 2 ≤ (f Hs.length).length ∧ (f Hs.length).length ≤ 300000
theorem SV.far {w w' : World} {v : Value} {S : List Spot} {g : Nat} {c : Array Value} {t : TypeId} {fz : Nat × Nat} (h : SV w v S) (hg : w.heap[g]? = some (.cells c t fz)) (hc : t ≠ 313) (_hs : w.heap.size ≤ w'.heap.size) (ho : ∀ k, k < w.heap.size → k ≠ g → w'.heap[k]? = w.heap[k]?) : SV w' v S := by
  rcases h with h | ⟨b, o, cap, rfl, hcap, hb, hcl⟩
  · exact .inl h
  · have hne : b ≠ g := by
      rintro rfl
      obtain ⟨A, f2, hb2⟩ := hb
      rw [hg] at hb2
      simp only [Option.some.injEq, Obj.cells.injEq] at hb2
      exact hc hb2.2.1
    exact .inr ⟨b, o, cap, rfl, hcap, hb.same (ho b hb.lt hne), fun j u hj => (cell_same (ho b hb.lt hne) _).trans (hcl j u hj)⟩
structure Over (g : Nat) (w w' : World) : Prop where
  size : w'.heap.size = w.heap.size
  block : ∀ k, k ≠ g → w'.heap[k]? = w.heap[k]?
  os : w'.os = w.os
  tape : w'.tape = w.tape
  output : w'.output = w.output
theorem Over.trans {g : Nat} {a b c : World} (h : Over g a b) (k : Over g b c) : Over g a c :=
  ⟨k.size.trans h.size, fun i hi => (k.block i hi).trans (h.block i hi), k.os.trans h.os, k.tape.trans h.tape, k.output.trans h.output⟩
theorem Over.set (w : World) (g o : Nat) (u : Value) : Over g w (w.setCell ⟨g, o, none⟩ u) :=
  ⟨by simp [World.setCell], fun k hk => Below.heap_setCell _ _ _ _ hk, rfl, rfl, rfl⟩
theorem Over.drew (w : World) (g : Nat) : Over g w w.drew := ⟨rfl, fun _ _ => rfl, rfl, rfl, rfl⟩
theorem arr6 (c : Array Value) (hc : c.size = 6) (x0 x1 x2 x3 x4 x5 : Value) : (((((c.setIfInBounds 0 x0).setIfInBounds 1 x1).setIfInBounds 2 x2).setIfInBounds 3 x3).setIfInBounds 4 x4).setIfInBounds 5 x5 = #[x0, x1, x2, x3, x4, x5] := by
  obtain ⟨l⟩ := c
  match l, hc with
  | [y0, y1, y2, y3, y4, y5], _ => simp
theorem six_set (w w1 w2 w3 w4 w5 w6 w9 : World) (g : Nat) (c : Array Value) (hc : c.size = 6) (x0 x1 x2 x3 x4 x5 : Value) (hg : w.heap[g]? = some (.cells c 185 (0, 0)))
    (e1 : w1 = w.setCell ⟨g, 0, none⟩ x0) (e2 : w2 = w1.setCell ⟨g, 1, none⟩ x1) (e3 : w3 = w2.setCell ⟨g, 2, none⟩ x2) (e4 : w4 = w3.setCell ⟨g, 3, none⟩ x3) (e5 : w5 = w4.setCell ⟨g, 4, none⟩ x4) (e6 : w6 = w5.setCell ⟨g, 5, none⟩ x5) (e9 : w9 = w6.drew) :
    w9.heap[g]? = some (.cells #[x0, x1, x2, x3, x4, x5] 185 (0, 0)) ∧ Over g w w9 := by
  have g1 := heap_setCell_same w g 0 _ 185 x0 hg
  have o1 := Over.set w g 0 x0
  rw [← e1] at g1 o1
  have g2 := heap_setCell_same w1 g 1 _ 185 x1 g1
  have o2 := o1.trans (Over.set w1 g 1 x1)
  rw [← e2] at g2 o2
  have g3 := heap_setCell_same w2 g 2 _ 185 x2 g2
  have o3 := o2.trans (Over.set w2 g 2 x2)
  rw [← e3] at g3 o3
  have g4 := heap_setCell_same w3 g 3 _ 185 x3 g3
  have o4 := o3.trans (Over.set w3 g 3 x3)
  rw [← e4] at g4 o4
  have g5 := heap_setCell_same w4 g 4 _ 185 x4 g4
  have o5 := o4.trans (Over.set w4 g 4 x4)
  rw [← e5] at g5 o5
  have g6 := heap_setCell_same w5 g 5 _ 185 x5 g5
  have o6 := o5.trans (Over.set w5 g 5 x5)
  rw [← e6] at g6 o6
  have o9 := o6.trans (Over.drew w6 g)
  rw [← e9] at o9
  rw [arr6 c hc] at g6
  have e : w9.heap = w6.heap := by rw [e9]; rfl
  rw [← e] at g6
  exact ⟨g6, o9⟩
theorem three_blocks (w : World) {w3 : World} (x y z : Obj) (h : w3 = ((w.alloc x).alloc y).alloc z) : Below w.heap.size w w3 ∧ w3.heap.size = w.heap.size + 3 ∧ w3.heap[w.heap.size]? = some x ∧ w3.heap[w.heap.size + 1 + 1]? = some z := by
  subst h
  have b1 : Below w.heap.size w (w.alloc x) := (Below.refl _ _).alloc (Nat.le_refl _) _
  have s1 : (w.alloc x).heap.size = w.heap.size + 1 := by simp
  have s2 : ((w.alloc x).alloc y).heap.size = w.heap.size + 1 + 1 := by simp
  refine ⟨(b1.alloc (by omega) _).alloc (by omega) _, by simp, ?_, ?_⟩
  · rw [Below.heap_alloc _ _ _ (by omega), Below.heap_alloc _ _ _ (by omega)]
    exact (MapKept.heap_alloc w x).1
  · have := (MapKept.heap_alloc ((w.alloc x).alloc y) z).1
    rwa [s2] at this
theorem alter245_any (i : Pid) (Hs : List Hk) (f : Nat → List Spot) (S : List Spot) (hf0 : f 0 = framed S) (hst : Steps f Hs) (hv rv : Value) (j : Pid) (al : Bool) (w : World) (hh : HV w hv Hs) (hr : SV w rv S) (hS : S.length ≤ 100000) (hHs : Hs.length ≤ 100000) :
    Calls Tryz.prog 350 #[.agg #[.int .u8 i.a, .int .u8 i.b, .int .u8 i.c, .int .u8 i.d, hv], .agg #[.int .u8 j.a, .int .u8 j.b, .int .u8 j.c, .int .u8 j.d, .bool al, rv]] w fun e w' => ∃ v, e = .returned (.agg #[.int .u8 i.a, .int .u8 i.b, .int .u8 i.c, .int .u8 i.d, .bool true, v]) ∧ SV w' v (midRow (f Hs.length)) ∧ Below w.heap.size w w' := by
  obtain ⟨ra, rc, rfl⟩ := hr.shape
  have HH : Hid (HV w hv Hs) := hh
  obtain ⟨ha, hc, rfl, hcc⟩ := hh
  clear hcc
  obtain ⟨w3, hw3⟩ : ∃ w3, w3 = ((w.alloc (.cells #[.int .u8 i.a, .int .u8 i.b, .int .u8 i.c, .int .u8 i.d, .slice ha Hs.length hc] 288)).alloc (.cells #[.int .u8 j.a, .int .u8 j.b, .int .u8 j.c, .int .u8 j.d, .bool al, .slice ra S.length rc] 185)).alloc (.cells #[.int .u8 0, .int .u8 0, .int .u8 0, .int .u8 0, .bool false, .slice none 0 0] 185) := ⟨_, rfl⟩
  obtain ⟨hb3, hs3, hA, hR⟩ := three_blocks w _ _ _ hw3
  have hr3 := hr.below hb3 (Nat.le_refl _)
  have HF : Hid (Calls Tryz.prog 248 #[.slice ra S.length rc] w3 fun e w' => ∃ v, e = .returned v ∧ w'.ownsRow w3.heap.size 313 7 v (framed S).length (rowC (framed S)) ∧ Below w3.heap.size w3 w') := framed185_any S _ w3 hr3 (by omega)
  go_enter Tryz.func350, Tryz.ntmps350
  go_wp2_with fail
  rw [← hw3]
  clear hw3 hr hr3
  refine HF.out.mono ?_
  rintro e w4 ⟨fv, rfl, hfo, hb4⟩
  clear HF
  have hfs := SV.own hfo
  rw [← hf0] at hfs
  obtain ⟨fa, fc, hfe⟩ := hfs.shape
  clear hfo
  have hA4 : w4.heap[w.heap.size]? = _ := (hb4.block _ (by omega)).trans hA
  have hR4 : w4.heap[w.heap.size + 1 + 1]? = _ := (hb4.block _ (by omega)).trans hR
  have hA5 : w4.cell? ⟨w.heap.size, 4, none⟩ = some (.slice ha Hs.length hc) := by simp [World.cell?, hA4]
  have hs4 := hb4.size
  subst hfe
  go_wp2
  go_loopw [5, 14] (fun v i' wr => ∃ k : Nat, k ≤ Hs.length ∧ i' = .int .i64 k ∧ SV wr v (f k) ∧ Below w4.heap.size w4 wr) (fun _ i' _ => Hs.length - (intOf i').toNat)
  case atStart => exact ⟨0, Nat.zero_le _, rfl, by rw [hf0] at hfs ⊢; exact hfs, Below.refl _ _⟩
  case round =>
    obtain ⟨k, hk, rfl, hsv, hbw⟩ := hrel
    have hszr := hbw.size
    have hbw0 : Below w.heap.size w wr := (hb3.trans (hb4.mono (by omega))).trans (hbw.mono (by omega))
    by_cases hlt : k < Hs.length
    · obtain ⟨h, hk'⟩ : ∃ h, Hs[k]? = some h := ⟨_, List.getElem?_eq_getElem hlt⟩
      obtain ⟨_, _, e1, hc1⟩ := HH.out.below hbw0 (Nat.le_refl _)
      cases e1
      obtain ⟨b, o, rfl, hb, c0, c1, sn, sb⟩ := hc1 k h hk'
      obtain ⟨t, p, q1, q2, q3, q4, q5⟩ := hst.step k h hk'
      have q6 := hst.small k h hk'
      obtain ⟨na, nc, hne⟩ := sn.shape
      obtain ⟨ba, bc, hbe⟩ := sb.shape
      rw [hne] at c0 sn
      rw [hbe] at c1 sb
      have hb5 : Below wr.heap.size wr (wr.alloc (.cells #[.slice na h.N.length nc, .slice ba h.Br.length bc] 327)) := (Below.refl _ _).alloc (Nat.le_refl _) _
      have hs5 : (wr.alloc (.cells #[.slice na h.N.length nc, .slice ba h.Br.length bc] 327)).heap.size = wr.heap.size + 1 := by simp
      obtain ⟨va, vc, rfl⟩ := hsv.shape
      have HC : Hid (Calls Tryz.prog 355 #[.agg #[.slice na h.N.length nc, .slice ba h.Br.length bc], .slice va (f k).length vc] (wr.alloc (.cells #[.slice na h.N.length nc, .slice ba h.Br.length bc] 327)) fun e w' => ∃ v, e = .returned v ∧ w'.ownsRow (wr.alloc (.cells #[.slice na h.N.length nc, .slice ba h.Br.length bc] 327)).heap.size 313 7 v (f (k + 1)).length (rowC (f (k + 1))) ∧ Below (wr.alloc (.cells #[.slice na h.N.length nc, .slice ba h.Br.length bc] 327)).heap.size (wr.alloc (.cells #[.slice na h.N.length nc, .slice ba h.Br.length bc] 327)) w') := by
        rw [q5]
        exact happly247_any (f k) h.N h.Br t p q1 q2 q3 q4 _ _ _ _ (sn.below hb5 (Nat.le_refl _)) (sb.below hb5 (Nat.le_refl _)) (hsv.below hb5 (Nat.le_refl _)) q6
      clear hc1 hne hbe sn sb hsv q1 q2 q3 q4 q5 q6 hk'
      go_wp2_with fail
      refine HC.out.mono ?_
      rintro e w6 ⟨v6, rfl, ho6, hb6⟩
      clear HC
      have sv6 := SV.own ho6
      have hbw6 : Below w4.heap.size w4 w6 := (hbw.trans (hb5.mono hszr)).trans (hb6.mono (by omega))
      obtain ⟨xa, xc, rfl⟩ := sv6.shape
      clear ho6 hb6 hb5 c0 c1
      go_wp2
      go_roundw
      case rel => exact ⟨k + 1, by omega, by go_num, sv6, hbw6⟩
      case measure => simp [intOf]; omega
    · have e : k = Hs.length := by omega
      subst e
      have hA6 : wr.heap[w.heap.size]? = _ := (hbw.block _ (by omega)).trans hA4
      have hR6 : wr.heap[w.heap.size + 1 + 1]? = _ := (hbw.block _ (by omega)).trans hR4
      have a0 : wr.cell? ⟨w.heap.size, 0, none⟩ = some (.int .u8 i.a) := by simp [World.cell?, hA6]
      have a1 : wr.cell? ⟨w.heap.size, 1, none⟩ = some (.int .u8 i.b) := by simp [World.cell?, hA6]
      have a2 : wr.cell? ⟨w.heap.size, 2, none⟩ = some (.int .u8 i.c) := by simp [World.cell?, hA6]
      have a3 : wr.cell? ⟨w.heap.size, 3, none⟩ = some (.int .u8 i.d) := by simp [World.cell?, hA6]
      obtain ⟨va, vc, rfl⟩ := hsv.shape
      have hl2 := hst.last
      have r0 : wr.cell? ⟨w.heap.size + 1 + 1, 0, none⟩ = some (.int .u8 0) := by simp [World.cell?, hR6]
      have fz0 : wr.frozen? ⟨w.heap.size + 1 + 1, 0, none⟩ = false := by simp [World.frozen?, hR6]
      have r1 : wr.cell? ⟨w.heap.size + 1 + 1, 1, none⟩ = some (.int .u8 0) := by simp [World.cell?, hR6]
      have fz1 : wr.frozen? ⟨w.heap.size + 1 + 1, 1, none⟩ = false := by simp [World.frozen?, hR6]
      have r2 : wr.cell? ⟨w.heap.size + 1 + 1, 2, none⟩ = some (.int .u8 0) := by simp [World.cell?, hR6]
      have fz2 : wr.frozen? ⟨w.heap.size + 1 + 1, 2, none⟩ = false := by simp [World.frozen?, hR6]
      have r3 : wr.cell? ⟨w.heap.size + 1 + 1, 3, none⟩ = some (.int .u8 0) := by simp [World.cell?, hR6]
      have fz3 : wr.frozen? ⟨w.heap.size + 1 + 1, 3, none⟩ = false := by simp [World.frozen?, hR6]
      have r4 : wr.cell? ⟨w.heap.size + 1 + 1, 4, none⟩ = some (.bool false) := by simp [World.cell?, hR6]
      have fz4 : wr.frozen? ⟨w.heap.size + 1 + 1, 4, none⟩ = false := by simp [World.frozen?, hR6]
      have r5 : wr.cell? ⟨w.heap.size + 1 + 1, 5, none⟩ = some (.slice none 0 0) := by simp [World.cell?, hR6]
      have fz5 : wr.frozen? ⟨w.heap.size + 1 + 1, 5, none⟩ = false := by simp [World.frozen?, hR6]
      have hlen2 : (midRow (f Hs.length)).length ≤ 300000 := by unfold midRow; simp; omega
      obtain ⟨M, hM⟩ : ∃ M, midRow (f Hs.length) = M := ⟨_, rfl⟩
      have HMM : Hid (midRow (f Hs.length) = M) := hM
      have HU : Hid (Calls Tryz.prog 356 #[.slice va (f Hs.length).length vc] wr.drew fun e w' => ∃ xa xc, e = .returned (.slice xa M.length xc) ∧ SV wr (.slice xa M.length xc) M ∧ w' = wr.drew) := by
        refine (unframed248_any (f Hs.length) _ wr.drew (show SV wr.drew _ _ from hsv) (by omega) hl2.1).mono ?_
        rintro e w7 ⟨v7, rfl, hv7, rfl⟩
        have hv8 : SV wr v7 M := by rw [← hM]; exact hv7
        obtain ⟨xa, xc, rfl⟩ := hv8.shape
        exact ⟨xa, xc, rfl, hv8, rfl⟩
      clear hM
      go_wp2_with fail
      go_region_with (go_at_call 356; refine HU.out.mono ?_; rintro e w7 ⟨xa, xc, rfl, hv8, rfl⟩)
      all_goals
        obtain ⟨w9, hw9⟩ : ∃ w9, w9 = ((((((wr.setCell ⟨w.heap.size + 1 + 1, 0, none⟩ (.int .u8 i.a)).setCell ⟨w.heap.size + 1 + 1, 1, none⟩ (.int .u8 i.b)).setCell ⟨w.heap.size + 1 + 1, 2, none⟩ (.int .u8 i.c)).setCell ⟨w.heap.size + 1 + 1, 3, none⟩ (.int .u8 i.d)).setCell ⟨w.heap.size + 1 + 1, 4, none⟩ (.bool true)).setCell ⟨w.heap.size + 1 + 1, 5, none⟩ (.slice xa M.length xc)).drew := ⟨_, rfl⟩
        obtain ⟨s1, s2⟩ := six_set wr _ _ _ _ _ _ w9 (w.heap.size + 1 + 1) _ rfl _ _ _ _ _ _ hR6 rfl rfl rfl rfl rfl rfl hw9
        rw [← hw9]
        have hv9 : SV w9 (.slice xa M.length xc) M := hv8.far hR6 (by simp) (by rw [s2.size]; exact Nat.le_refl _) (fun k _ hk => s2.block k hk)
        have hb9 : Below w.heap.size w w9 := ⟨s2.os.trans hbw0.os, s2.tape.trans hbw0.tape, s2.output.trans hbw0.output, by rw [s2.size]; exact hbw0.size, fun k hk => (s2.block k (by omega)).trans (hbw0.block k hk)⟩
        clear hw9 s2 r0 r1 r2 r3 r4 r5 fz0 fz1 fz2 fz3 fz4 fz5 a0 a1 a2 a3 HU hv8 hsv
        go_wp2
        refine bodyPost_ret (results_cell_row (p := 4) (ty := 185) (by kernel_rfl) _ w9 (w.heap.size + 1 + 1) 185 _ (0, 0) _ rfl s1 Tryz.underlying185 rfl (by kernel_rfl)) rfl ?_
        exact ⟨_, rfl, by rw [HMM.out]; exact hv9, hb9⟩
end Go.Proofs.YtgdfipmdmgkidaaGreatDoor
/- An alteration is told, hunk by hunk; an addition is applied and told. -/
namespace Go.Proofs.YtgdfipmdmgkidaaGreatDoor
open Go.RowKit
def alterHead (name : ByteArray) : ByteArray := ((⟨#[97, 108, 116, 101, 114, 32]⟩ : ByteArray) ++ name) ++ ⟨#[10]⟩
def addHead (name : ByteArray) : ByteArray := ((⟨#[97, 100, 100, 32]⟩ : ByteArray) ++ name) ++ ⟨#[10]⟩
theorem two_blocks (w : World) {w3 : World} (x y : Obj) (h : w3 = (w.alloc x).alloc y) : Below w.heap.size w w3 ∧ w3.heap.size = w.heap.size + 2 ∧ w3.heap[w.heap.size]? = some x := by
  subst h
  have b1 : Below w.heap.size w (w.alloc x) := (Below.refl _ _).alloc (Nat.le_refl _) _
  have s1 : (w.alloc x).heap.size = w.heap.size + 1 := by simp
  refine ⟨b1.alloc (by omega) _, by simp, ?_⟩
  rw [Below.heap_alloc _ _ _ (by omega)]
  exact (MapKept.heap_alloc w x).1
structure Tells (F : List Spot) (Hs : List Hk) (g : Nat → ByteArray) : Prop where
  step : ∀ (k : Nat) (h : Hk), Hs[k]? = some h → ∃ t p, h.N[0]? = some t ∧ idxS F t = some p ∧ p + 1 ≤ F.length ∧ 2 ≤ h.N.length ∧ Small (midRow h.N) ∧ Small h.Br ∧ h.N.length ≤ 100000 ∧ (living (F.take (p + 1))).length < 100 ∧ g (k + 1) = g k ++ hTell F h.N h.Br p
  small : ∀ k, k ≤ Hs.length → (g k).size ≤ 1000000000
theorem altell246_any (i : Pid) (Hs : List Hk) (g : Nat → ByteArray) (S : List Spot) (name : ByteArray) (hname : name.size ≤ 1000) (hg0 : g 0 = alterHead name) (hst : Tells (framed S) Hs g) (hv rv : Value) (j : Pid) (al : Bool) (w : World) (hh : HV w hv Hs) (hr : SV w rv S) (hS : S.length ≤ 90000) (hHs : Hs.length ≤ 100000) :
    Calls Tryz.prog 354 #[.agg #[.int .u8 i.a, .int .u8 i.b, .int .u8 i.c, .int .u8 i.d, hv], .string name, .agg #[.int .u8 j.a, .int .u8 j.b, .int .u8 j.c, .int .u8 j.d, .bool al, rv]] w fun e w' => e = .returned (.string (g Hs.length)) ∧ Below w.heap.size w w' := by
  obtain ⟨ra, rc, rfl⟩ := hr.shape
  have HH : Hid (HV w hv Hs) := hh
  obtain ⟨ha, hc, rfl, hcc⟩ := hh
  clear hcc
  obtain ⟨w3, hw3⟩ : ∃ w3, w3 = (w.alloc (.cells #[.int .u8 i.a, .int .u8 i.b, .int .u8 i.c, .int .u8 i.d, .slice ha Hs.length hc] 288)).alloc (.cells #[.int .u8 j.a, .int .u8 j.b, .int .u8 j.c, .int .u8 j.d, .bool al, .slice ra S.length rc] 185) := ⟨_, rfl⟩
  obtain ⟨hb3, hs3, hA⟩ := two_blocks w _ _ hw3
  have hr3 := hr.below hb3 (Nat.le_refl _)
  have HF : Hid (Calls Tryz.prog 248 #[.slice ra S.length rc] w3 fun e w' => ∃ v, e = .returned v ∧ w'.ownsRow w3.heap.size 313 7 v (framed S).length (rowC (framed S)) ∧ Below w3.heap.size w3 w') := framed185_any S _ w3 hr3 (by omega)
  have z1 : (⟨#[97, 108, 116, 101, 114, 32]⟩ : ByteArray).size = 6 := rfl
  have z2 : (⟨#[10]⟩ : ByteArray).size = 1 := rfl
  have z3 : ((⟨#[97, 108, 116, 101, 114, 32]⟩ : ByteArray) ++ name).size ≤ 1006 := by rw [ByteArray.size_append]; omega
  have hfl : (framed S).length ≤ 90002 := by simp [framed]; omega
  go_enter Tryz.func354, Tryz.ntmps354
  go_wp2_with fail
  rw [← hw3]
  clear hw3 hr hr3
  refine HF.out.mono ?_
  rintro e w4 ⟨fv, rfl, hfo, hb4⟩
  clear HF
  have hfs := SV.own hfo
  obtain ⟨F, hF⟩ : ∃ F, framed S = F := ⟨_, rfl⟩
  rw [hF] at hfs hst hfl
  obtain ⟨fa, fc, hfe⟩ := hfs.shape
  clear hfo hF
  have hA4 : w4.heap[w.heap.size]? = _ := (hb4.block _ (by omega)).trans hA
  have hA5 : w4.cell? ⟨w.heap.size, 4, none⟩ = some (.slice ha Hs.length hc) := by simp [World.cell?, hA4]
  have hs4 := hb4.size
  subst hfe
  have HG : Hid (((⟨#[97, 108, 116, 101, 114, 32]⟩ : ByteArray) ++ name) ++ ⟨#[10]⟩ = g 0) := hg0.symm
  go_wp2
  go_loopw [7, 20] (fun v i' wr => ∃ k : Nat, k ≤ Hs.length ∧ i' = .int .i64 k ∧ v = .string (g k) ∧ Below w4.heap.size w4 wr) (fun _ i' _ => Hs.length - (intOf i').toNat)
  case atStart => exact ⟨0, Nat.zero_le _, rfl, by rw [← HG.out], Below.refl _ _⟩
  case round =>
    obtain ⟨k, hk, rfl, rfl, hbw⟩ := hrel
    have hszr := hbw.size
    have hbw0 : Below w.heap.size w wr := (hb3.trans (hb4.mono (by omega))).trans (hbw.mono (by omega))
    by_cases hlt : k < Hs.length
    · obtain ⟨h, hk'⟩ : ∃ h, Hs[k]? = some h := ⟨_, List.getElem?_eq_getElem hlt⟩
      obtain ⟨_, _, e1, hc1⟩ := HH.out.below hbw0 (Nat.le_refl _)
      cases e1
      obtain ⟨b, o, rfl, hb, c0, c1, sn, sb⟩ := hc1 k h hk'
      obtain ⟨t, p, q1, q2, q3, q4, q5, q6, q7, q8, q9⟩ := hst.step k h hk'
      obtain ⟨na, nc, hne⟩ := sn.shape
      obtain ⟨ba, bc, hbe⟩ := sb.shape
      rw [hne] at c0 sn
      rw [hbe] at c1 sb
      have hb5 : Below wr.heap.size wr (wr.alloc (.cells #[.slice na h.N.length nc, .slice ba h.Br.length bc] 327)) := (Below.refl _ _).alloc (Nat.le_refl _) _
      have hs5 : (wr.alloc (.cells #[.slice na h.N.length nc, .slice ba h.Br.length bc] 327)).heap.size = wr.heap.size + 1 := by simp
      have hfr := (hfs.below hbw (Nat.le_refl _)).below hb5 (Nat.le_refl _)
      obtain ⟨T, hT⟩ : ∃ T, hTell F h.N h.Br p = T := ⟨_, rfl⟩
      have HC : Hid (Calls Tryz.prog 361 #[.agg #[.slice na h.N.length nc, .slice ba h.Br.length bc], .slice fa F.length fc] (wr.alloc (.cells #[.slice na h.N.length nc, .slice ba h.Br.length bc] 327)) fun e w' => e = .returned (.string T) ∧ Below (wr.alloc (.cells #[.slice na h.N.length nc, .slice ba h.Br.length bc] 327)).heap.size (wr.alloc (.cells #[.slice na h.N.length nc, .slice ba h.Br.length bc] 327)) w') := by
        rw [← hT]
        exact htell249_any F h.N h.Br t p q1 q2 q3 q4 _ _ _ _ (sn.below hb5 (Nat.le_refl _)) (sb.below hb5 (Nat.le_refl _)) hfr (by omega) q5 q6 q7 q8
      rw [hT] at q9
      have hz1 := hst.small k (by omega)
      have hz2 := hst.small (k + 1) (by omega)
      rw [q9, ByteArray.size_append] at hz2
      have hz3 : ¬ (9223372036854775807 < ((g k).size : Int) + (T.size : Int)) := by omega
      have Q9 : Hid (g (k + 1) = g k ++ T) := q9
      clear hc1 hne hbe sn sb q1 q2 q3 q4 q5 q6 q7 q8 q9 hk' hfr hT
      go_wp2_with fail
      refine HC.out.mono ?_
      rintro e w6 ⟨rfl, hb6⟩
      clear HC
      have hbw6 : Below w4.heap.size w4 w6 := (hbw.trans (hb5.mono hszr)).trans (hb6.mono (by omega))
      clear hb6 hb5 c0 c1
      go_wp2
      go_roundw
      case rel => exact ⟨k + 1, by omega, by go_num, by rw [Q9.out], hbw6⟩
      case measure => simp [intOf]; omega
    · have e : k = Hs.length := by omega
      subst e
      go_wp2
      go_ret
      exact ⟨rfl, hbw0⟩
theorem add238_any (i l : Pid) (S : List Spot) (rv : Value) (x : Value) (j : Pid) (al : Bool) (xa : Option Addr) (xn xc : Nat) (hx : x = .slice xa xn xc) (w : World) (hr : SV w rv S) :
    Calls Tryz.prog 332 #[.agg #[.int .u8 i.a, .int .u8 i.b, .int .u8 i.c, .int .u8 i.d, .int .u8 l.a, .int .u8 l.b, .int .u8 l.c, .int .u8 l.d, rv], .agg #[.int .u8 j.a, .int .u8 j.b, .int .u8 j.c, .int .u8 j.d, .bool al, x]] w fun e w' => e = .returned (.agg #[.int .u8 i.a, .int .u8 i.b, .int .u8 i.c, .int .u8 i.d, .bool true, rv]) ∧ Below w.heap.size w w' := by
  subst hx
  obtain ⟨ra, rc, rfl⟩ := hr.shape
  obtain ⟨w3, hw3⟩ : ∃ w3, w3 = ((w.alloc (.cells #[.int .u8 i.a, .int .u8 i.b, .int .u8 i.c, .int .u8 i.d, .int .u8 l.a, .int .u8 l.b, .int .u8 l.c, .int .u8 l.d, .slice ra S.length rc] 282)).alloc (.cells #[.int .u8 j.a, .int .u8 j.b, .int .u8 j.c, .int .u8 j.d, .bool al, .slice xa xn xc] 185)).alloc (.cells #[.int .u8 i.a, .int .u8 i.b, .int .u8 i.c, .int .u8 i.d, .bool true, .slice ra S.length rc] 185) := ⟨_, rfl⟩
  obtain ⟨hb3, hs3, hA, hR⟩ := three_blocks w _ _ _ hw3
  go_enter Tryz.func332, Tryz.ntmps332
  go_wp2
  rw [← hw3]
  clear hw3
  refine bodyPost_ret (results_cell_row (p := 4) (ty := 185) (by kernel_rfl) _ w3 (w.heap.size + 1 + 1) 185 _ (0, 0) _ rfl hR Tryz.underlying185 rfl (by kernel_rfl)) rfl ?_
  exact ⟨rfl, hb3⟩
theorem addtell239_any (i l : Pid) (S : List Spot) (rv : Value) (name : ByteArray) (hname : name.size ≤ 1000) (x : Value) (j : Pid) (al : Bool) (xa : Option Addr) (xn xc : Nat) (hx : x = .slice xa xn xc) (w : World) (hr : SV w rv S) (hS : Small S) :
    Calls Tryz.prog 336 #[.agg #[.int .u8 i.a, .int .u8 i.b, .int .u8 i.c, .int .u8 i.d, .int .u8 l.a, .int .u8 l.b, .int .u8 l.c, .int .u8 l.d, rv], .string name, .agg #[.int .u8 j.a, .int .u8 j.b, .int .u8 j.c, .int .u8 j.d, .bool al, x]] w fun e w' => e = .returned (.string (addHead name ++ tellB ⟨#[43]⟩ S)) ∧ Below w.heap.size w w' := by
  subst hx
  obtain ⟨ra, rc, rfl⟩ := hr.shape
  obtain ⟨w3, hw3⟩ : ∃ w3, w3 = (w.alloc (.cells #[.int .u8 i.a, .int .u8 i.b, .int .u8 i.c, .int .u8 i.d, .int .u8 l.a, .int .u8 l.b, .int .u8 l.c, .int .u8 l.d, .slice ra S.length rc] 282)).alloc (.cells #[.int .u8 j.a, .int .u8 j.b, .int .u8 j.c, .int .u8 j.d, .bool al, .slice xa xn xc] 185) := ⟨_, rfl⟩
  obtain ⟨hb3, hs3, hA⟩ := two_blocks w _ _ hw3
  have HC : Hid (Calls Tryz.prog 338 #[.string ⟨#[43]⟩, .slice ra S.length rc] w3 fun e w' => e = .returned (.string (tellB ⟨#[43]⟩ S)) ∧ Below w3.heap.size w3 w') := tellLines240_small ⟨#[43]⟩ S _ w3 (hr.below hb3 (Nat.le_refl _)) (by decide) hS
  have z0 := tellB_size ⟨#[43]⟩ S (by decide) hS
  have z1 : (⟨#[97, 100, 100, 32]⟩ : ByteArray).size ≤ 4 := by decide
  have z2 : (⟨#[10]⟩ : ByteArray).size ≤ 1 := by decide
  have z3 : ((⟨#[97, 100, 100, 32]⟩ : ByteArray) ++ name).size ≤ 1004 := by rw [ByteArray.size_append]; omega
  have z4 : (((⟨#[97, 100, 100, 32]⟩ : ByteArray) ++ name) ++ ⟨#[10]⟩).size ≤ 1005 := by rw [ByteArray.size_append]; omega
  clear hA
  go_enter Tryz.func336, Tryz.ntmps336
  go_wp2_with fail
  rw [← hw3]
  clear hw3 hr
  refine HC.out.mono ?_
  rintro e w4 ⟨rfl, hb4⟩
  clear HC
  have hb5 : Below w.heap.size w w4 := hb3.trans (hb4.mono (by omega))
  obtain ⟨T, hT⟩ : ∃ T, tellB ⟨#[43]⟩ S = T := ⟨_, rfl⟩
  rw [hT] at z0 ⊢
  have HT : Hid (tellB ⟨#[43]⟩ S = T) := hT
  clear hT
  go_wp2
  go_ret
  exact ⟨by rw [HT.out]; rfl, hb5⟩
end Go.Proofs.YtgdfipmdmgkidaaGreatDoor
