/- What is kept of a repository. -/
import Derived.Test.YtgdfipmdmgkidaaGreatDoorPgrow
namespace Go.Proofs.YtgdfipmdmgkidaaGreatDoor
open Go.RowKit

set_option maxRecDepth 100000 in
set_option maxHeartbeats 3200000 in
theorem kept54_any (Ps : List PM) (pv : Value) (st : Nat → Nat → ByteArray → PL) (cnt : Nat → Nat) (rb : Nat) (ro : Nat) (w : World) (hp : PV w pv Ps) (hg : ∀ u, Below w.heap.size w u → Grows u Ps st cnt) (hPs : Ps.length ≤ 10000) (hr : w.cell? ⟨rb, ro, none⟩ = some pv) (hrb : rb < w.heap.size) :
    Calls Tryz.prog 77 #[.pointer (some ⟨rb, ro, none⟩)] w fun e w' => ∃ mb n, e = .returned (.agg #[.map (some mb)]) ∧ TreeAt w' mb (st Ps.length 0) n ∧ n ≤ 100000 ∧ w.heap.size ≤ mb ∧ Below w.heap.size w w' := by
  obtain ⟨w1, hw1⟩ : ∃ w1, w1 = w.alloc (.cells #[.map none] 121) := ⟨_, rfl⟩
  have hb1 : Below w.heap.size w w1 := by rw [hw1]; exact (Below.refl _ _).alloc (Nat.le_refl _) _
  have hk1 : w1.heap[w.heap.size]? = some (.cells #[.map none] 121 (0, 0)) := by rw [hw1]; exact (MapKept.heap_alloc w _).1
  have hs1 : w.heap.size < w1.heap.size := by rw [hw1]; simp
  have hr1 := (hb1.cell (p := ⟨rb, ro, none⟩) hrb).trans hr
  have HG : Hid (Calls Tryz.prog 123 #[pv] w1 fun e w' => ∃ mb n, e = .returned (.agg #[.map (some mb)]) ∧ TreeAt w' mb (st Ps.length 0) n ∧ n ≤ 100000 ∧ w1.heap.size ≤ mb ∧ Below w1.heap.size w1 w') := grow95_any Ps pv st cnt w1 (hp.below hb1 (Nat.le_refl _)) (hg w1 hb1) hPs
  obtain ⟨pa, pc, rfl, _⟩ := hp
  clear hg
  go_enter Tryz.func77, Tryz.ntmps77
  go_wp2_with fail
  rw [← hw1]
  clear hw1
  refine HG.out.mono ?_
  rintro e w2 ⟨mb, n, rfl, ht, hn, hmb, hb2⟩
  clear HG
  have hk2 := (hb2.block _ hs1).trans hk1
  have r0 : w2.cell? ⟨w.heap.size, 0, none⟩ = some (.map none) := by simp [World.cell?, hk2]
  have z0 := free3 hk2 0
  obtain ⟨w9, hw9⟩ : ∃ w9, w9 = w2.setCell ⟨w.heap.size, 0, none⟩ (.map (some mb)) := ⟨_, rfl⟩
  have s1 := heap_setCell_same w2 w.heap.size 0 _ 121 (.map (some mb)) hk2
  have s2 := Over.set w2 w.heap.size 0 (.map (some mb))
  rw [← hw9] at s1 s2
  have hb02 : Below w.heap.size w w2 := hb1.trans (hb2.mono (by omega))
  have hb9 : Below w.heap.size w w9 := ⟨s2.os.trans hb02.os, s2.tape.trans hb02.tape, s2.output.trans hb02.output, by rw [s2.size]; exact hb02.size, fun k hk => (s2.block k (by omega)).trans (hb02.block k hk)⟩
  have HT9 : Hid (TreeAt w9 mb (st Ps.length 0) n) := by
    obtain ⟨f, has, D, ⟨es, clock, he, hr⟩, h2, h3, h4, h5, h6⟩ := ht
    exact ⟨f, has, D, ⟨es, clock, (s2.block _ (by omega)).trans he, hr⟩, h2, h3, h4, h5, fun x => (h6 x).far hk2 (by simp) (by rw [s2.size]; exact Nat.le_refl _) (fun k _ hk => s2.block k hk)⟩
  clear ht s2 hk2 hb2
  go_wp2
  rw [← hw9]
  clear hw9
  refine bodyPost_ret (results_cell_row (p := 2) (ty := 121) (by kernel_rfl) _ _ w.heap.size 121 _ (0, 0) _ rfl s1 Tryz.underlying121 rfl (by kernel_rfl)) rfl ?_
  exact ⟨mb, n, rfl, HT9.out, hn, by omega, hb9⟩
end Go.Proofs.YtgdfipmdmgkidaaGreatDoor

/- What is kept of a name is asked for. -/
namespace Go.Proofs.YtgdfipmdmgkidaaGreatDoor
open Go.RowKit

theorem TreeAt.kat {w : World} {mb n : Nat} {st : ByteArray → PL} (h : TreeAt w mb st n) (hn : n ≤ 1000000) : ∃ f has, KAt w mb f has ∧ (∀ x, LatIs (f x) (st x)) ∧ ∀ x, SV w (f x).rv (f x).S := by
  obtain ⟨f, has, D, h1, h2, h3, h4, h5, h6⟩ := h
  exact ⟨f, has, ⟨n, D, hn, h1, h2, h3, h4⟩, h5, h6⟩

/-- What is kept of a name, as a file. -/
def keptPL (st : ByteArray → PL) (x : ByteArray) : Value := if (st x).alive = true then fileV x true (rowText (st x).S) else fileV x false ⟨#[]⟩

theorem file55_any (st : ByteArray → PL) (mb n : Nat) (x : ByteArray) (hx : x.size ≤ 1000000) (w : World) (h : TreeAt w mb st n) (hn : n ≤ 1000000) (hS : (st x).S.length ≤ 1000000) (hT : (rowText (st x).S).size ≤ 1000000000) :
    Calls Tryz.prog 78 #[.agg #[.map (some mb)], .string x] w fun e w' => e = .returned (keptPL st x) ∧ Below w.heap.size w w' := by
  obtain ⟨f, has, hk, hl, hs⟩ := h.kat hn
  obtain ⟨e1, e2, e3⟩ := hl x
  have e : keptFile f x = keptPL st x := by unfold keptFile keptPL; rw [e2, e3]
  rw [← e]
  cases ha : (f x).alive
  · exact file55_dead f has mb x hx w hk (hs x) ha
  · exact file55_alive f has mb x hx w hk (hs x) ha (by rw [e3]; exact hS) (by rw [e3]; exact hT)

set_option maxRecDepth 100000 in
set_option maxHeartbeats 3200000 in
theorem keptText30_alive (Ps : List PM) (pv : Value) (st : Nat → Nat → ByteArray → PL) (cnt : Nat → Nat) (rb ro : Nat) (x : ByteArray) (w : World) (hp : PV w pv Ps) (hg : ∀ u, Below w.heap.size w u → ∀ v, Below u.heap.size u v → Grows v Ps st cnt) (hPs : Ps.length ≤ 10000) (hr : w.cell? ⟨rb, ro, none⟩ = some pv) (hrb : rb < w.heap.size)
    (hx : x.size ≤ 1000000) (hnm : nameB x = true) (hal : (st Ps.length 0 x).alive = true) (hS : (st Ps.length 0 x).S.length ≤ 1000000) (hT : (rowText (st Ps.length 0 x).S).size ≤ 1000000000) :
    Calls Tryz.prog 46 #[.pointer (some ⟨rb, ro, none⟩), .string x] w fun e w' => e = .returned (.tuple #[.string (rowText (st Ps.length 0 x).S), .int .i64 0]) ∧ Below w.heap.size w w' := by
  have HN : Hid (Calls Tryz.prog 61 #[.string x] w fun e w' => e = .returned (.bool true) ∧ Below w.heap.size w w') := by
    have := isName42_any x w
    rw [hnm] at this
    exact this
  obtain ⟨T, hTe⟩ : ∃ T, rowText (st Ps.length 0 x).S = T := ⟨_, rfl⟩
  have hkp : keptPL (st Ps.length 0) x = .agg #[.string x, .bool true, .string T] := by unfold keptPL; rw [if_pos hal, hTe]; rfl
  have HTE : Hid (rowText (st Ps.length 0 x).S = T) := hTe
  have HF : Hid (∀ w' mb n, n ≤ 100000 → TreeAt w' mb (st Ps.length 0) n → Calls Tryz.prog 78 #[.agg #[.map (some mb)], .string x] w' fun e w'' => e = .returned (.agg #[.string x, .bool true, .string T]) ∧ Below w'.heap.size w' w'') := fun w' mb n hn ht => by
    have := file55_any (st Ps.length 0) mb n x hx w' ht (by omega) hS hT
    rw [hkp] at this
    exact this
  have HK : Hid (∀ u, Below w.heap.size w u → Calls Tryz.prog 77 #[.pointer (some ⟨rb, ro, none⟩)] u fun e w' => ∃ mb n, e = .returned (.agg #[.map (some mb)]) ∧ TreeAt w' mb (st Ps.length 0) n ∧ n ≤ 100000 ∧ u.heap.size ≤ mb ∧ Below u.heap.size u w') := fun u hu => kept54_any Ps pv st cnt rb ro u (hp.below hu (Nat.le_refl _)) (hg u hu) hPs ((hu.cell (p := ⟨rb, ro, none⟩) hrb).trans hr) (Nat.lt_of_lt_of_le hrb hu.size)
  clear hg hp hkp hTe hT hS hal hnm
  go_enter Tryz.func46, Tryz.ntmps46
  go_wp2_with fail
  refine HN.out.mono ?_
  rintro e w1 ⟨rfl, hb1⟩
  clear HN
  go_wp2_with fail
  refine (HK.out w1 hb1).mono ?_
  rintro e w2 ⟨mb, n, rfl, ht, hn, _, hb2⟩
  have HF2 : Hid (Calls Tryz.prog 78 #[.agg #[.map (some mb)], .string x] w2 fun e w'' => e = .returned (.agg #[.string x, .bool true, .string T]) ∧ Below w2.heap.size w2 w'') := HF.out w2 mb n hn ht
  have hs1 := hb1.size
  have hs2 := hb2.size
  clear HK HF ht
  go_wp2_with fail
  refine HF2.out.mono ?_
  rintro e w3 ⟨rfl, hb3⟩
  clear HF2
  have hb4 : Below w.heap.size w w3 := (hb1.trans (hb2.mono hs1)).trans (hb3.mono (by omega))
  go_wp2
  go_ret2
  exact ⟨by rw [HTE.out]; rfl, hb4.alloc hb4.size _⟩
end Go.Proofs.YtgdfipmdmgkidaaGreatDoor
