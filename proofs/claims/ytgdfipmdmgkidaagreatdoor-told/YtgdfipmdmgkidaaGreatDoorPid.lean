/- An id out of a word. -/
import Derived.Test.YtgdfipmdmgkidaaGreatDoorPtree
import Derived.Laws.CopyRow
namespace Go.Proofs.YtgdfipmdmgkidaaGreatDoor
open Go.RowKit

theorem run_copy_str (w : World) (g : Nat) (cur : Array Value) (t : TypeId) (hc : cur.size = 4) (hg : w.heap[g]? = some (.cells cur t (0, 0))) (a b c d : UInt8) :
    (Builtin.copy_ #[156, 9] 3 #[.slice (some ⟨g, 0, none⟩) 4 4, .string ⟨#[a, b, c, d]⟩]).run Tryz.prog w = .ok (goInt 4) (w.setRow g #[.int .u8 a.toNat, .int .u8 b.toNat, .int .u8 c.toNat, .int .u8 d.toNat]) := by
  obtain ⟨i0, hi, hz0, hz1, hz2⟩ := info_parts Tryz.info5
  have hst := run_storeCells_at Tryz.prog g 0 t [.int .u8 a.toNat, .int .u8 b.toNat, .int .u8 c.toNat, .int .u8 d.toNat] 0 cur w hg (by simp; omega) (by intro v hv; simp only [List.mem_cons, List.not_mem_nil, or_false] at hv; rcases hv with rfl | rfl | rfl | rfl <;> rfl)
  have hd : cur.toList.drop 4 = [] := by rw [List.drop_eq_nil_iff]; simp; omega
  simp [hd] at hst
  have hs : (⟨#[a, b, c, d]⟩ : ByteArray).size = 4 := rfl
  simp [Builtin.copy_, run_underlying Tryz.underlying156, Builtin.lenOf, Builtin.firstCells, sizeOf, typeInfo, hi, hs, hst]

theorem cells4_set (w w1 w2 w3 w4 w9 : World) (g : Nat) (t : TypeId) (c : Array Value) (hc : c.size = 4) (x0 x1 x2 x3 : Value) (hg : w.heap[g]? = some (.cells c t (0, 0)))
    (e1 : w1 = w.setCell ⟨g, 0, none⟩ x0) (e2 : w2 = w1.setCell ⟨g, 1, none⟩ x1) (e3 : w3 = w2.setCell ⟨g, 2, none⟩ x2) (e4 : w4 = w3.setCell ⟨g, 3, none⟩ x3) (e9 : w9 = w4) :
    w9.heap[g]? = some (.cells #[x0, x1, x2, x3] t (0, 0)) ∧ Over g w w9 := by
  have g1 := heap_setCell_same w g 0 _ t x0 hg
  have o1 := Over.set w g 0 x0
  rw [← e1] at g1 o1
  have g2 := heap_setCell_same w1 g 1 _ t x1 g1
  have o2 := o1.trans (Over.set w1 g 1 x1)
  rw [← e2] at g2 o2
  have g3 := heap_setCell_same w2 g 2 _ t x2 g2
  have o3 := o2.trans (Over.set w2 g 2 x2)
  rw [← e3] at g3 o3
  have g4 := heap_setCell_same w3 g 3 _ t x3 g3
  have o4 := o3.trans (Over.set w3 g 3 x3)
  rw [← e4] at g4 o4
  have ha : (((c.setIfInBounds 0 x0).setIfInBounds 1 x1).setIfInBounds 2 x2).setIfInBounds 3 x3 = #[x0, x1, x2, x3] := by
    obtain ⟨l⟩ := c
    match l, hc with
    | [y0, y1, y2, y3], _ => simp
  rw [ha] at g4
  rw [e9]
  exact ⟨g4, o4⟩
theorem cells4_at {w : World} {g : Nat} {x0 x1 x2 x3 : Value} {t : TypeId} {f : Nat × Nat} (h : w.heap[g]? = some (.cells #[x0, x1, x2, x3] t f)) : w.cell? ⟨g, 0, none⟩ = some x0 ∧ w.cell? ⟨g, 1, none⟩ = some x1 ∧ w.cell? ⟨g, 2, none⟩ = some x2 ∧ w.cell? ⟨g, 3, none⟩ = some x3 := by
  simp [World.cell?, h]

set_option maxRecDepth 100000 in
set_option maxHeartbeats 3200000 in
theorem idOf51_any (a b c d : UInt8) (w : World) :
    Calls Tryz.prog 70 #[.string ⟨#[a, b, c, d]⟩] w fun e w' => e = .returned (.agg #[.int .u8 a.toNat, .int .u8 b.toNat, .int .u8 c.toNat, .int .u8 d.toNat]) ∧ Below w.heap.size w w' := by
  obtain ⟨w2, hw2⟩ : ∃ w2, w2 = (w.alloc (.cells #[.int .u8 0, .int .u8 0, .int .u8 0, .int .u8 0] 113)).alloc (.cells #[.int .u8 0, .int .u8 0, .int .u8 0, .int .u8 0] 113) := ⟨_, rfl⟩
  obtain ⟨hb2, hs2, hk2, hf2⟩ := two_blocks' w _ _ hw2
  have hrun := run_copy_str w2 (w.heap.size + 1) _ 113 rfl hf2 a b c d
  go_enter Tryz.func70, Tryz.ntmps70
  go_wp2
  rw [← hw2, hrun]
  clear hrun hw2
  obtain ⟨w3, hw3⟩ : ∃ w3, w3 = w2.setRow (w.heap.size + 1) #[.int .u8 a.toNat, .int .u8 b.toNat, .int .u8 c.toNat, .int .u8 d.toNat] := ⟨_, rfl⟩
  have hb3 : Below w.heap.size w w3 := by rw [hw3]; exact hb2.trans ⟨rfl, rfl, rfl, by simp [World.setRow], fun k hk => setRow_other w2 _ k _ (by omega)⟩
  have h1 : w3.heap[w.heap.size + 1]? = some (.cells #[.int .u8 a.toNat, .int .u8 b.toNat, .int .u8 c.toNat, .int .u8 d.toNat] 113 (0, 0)) := by rw [hw3]; exact setRow_heap w2 _ _ _ 113 _ hf2
  have h0 : w3.heap[w.heap.size]? = some (.cells #[.int .u8 0, .int .u8 0, .int .u8 0, .int .u8 0] 113 (0, 0)) := by rw [hw3, setRow_other w2 _ _ _ (by omega)]; exact hk2
  rw [← hw3]
  clear hw3 hb2 hs2 hk2 hf2
  obtain ⟨p0, p1, p2, p3⟩ := cells4_at h1
  obtain ⟨r0, r1, r2, r3⟩ := cells4_at h0
  have z0 := free3 h0 0
  have z1 := free3 h0 1
  have z2 := free3 h0 2
  have z3 := free3 h0 3
  go_wp2
  obtain ⟨w5, hw5⟩ : ∃ w5, w5 = (((w3.setCell ⟨w.heap.size, 0, none⟩ (.int .u8 a.toNat)).setCell ⟨w.heap.size, 1, none⟩ (.int .u8 b.toNat)).setCell ⟨w.heap.size, 2, none⟩ (.int .u8 c.toNat)).setCell ⟨w.heap.size, 3, none⟩ (.int .u8 d.toNat) := ⟨_, rfl⟩
  obtain ⟨s1, s2⟩ := cells4_set w3 _ _ _ _ w5 w.heap.size 113 _ rfl _ _ _ _ h0 rfl rfl rfl rfl hw5
  rw [← hw5]
  have hb5 : Below w.heap.size w w5 := ⟨s2.os.trans hb3.os, s2.tape.trans hb3.tape, s2.output.trans hb3.output, by rw [s2.size]; exact hb3.size, fun k hk => (s2.block k (by omega)).trans (hb3.block k hk)⟩
  refine bodyPost_ret (results_cell_row (p := 2) (ty := 113) (by kernel_rfl) _ _ w.heap.size 113 _ (0, 0) _ rfl s1 Tryz.underlying113 rfl (by kernel_rfl)) rfl ?_
  exact ⟨rfl, hb5⟩
end Go.Proofs.YtgdfipmdmgkidaaGreatDoor

/- What the user has of a name. -/
namespace Go.Proofs.YtgdfipmdmgkidaaGreatDoor
open Go.RowKit
open Go.ChangeMaps Go.MapKept

def fileS (t : ByteArray) : Value := .agg #[.string t]
/-- Block mb is the map of the files that the user has written. -/
def FK (w : World) (mb : Nat) (f : ByteArray → Option ByteArray) (n : Nat) : Prop := ∃ (D : DataW Value), w.ownsMap Tryz.prog 9 latElem mb n D ∧ (∀ x, D.atKey (kl x) (.held (fileS ⟨#[]⟩)) = .held (fileS ((f x).getD ⟨#[]⟩))) ∧ (∀ x, Maps.has D (kl x) = (f x).isSome)
theorem zero84 (w : World) : (zeroValue 105).run Tryz.prog w = .ok (fileS ⟨#[]⟩) w := Tryz.zeroValue105 w
theorem fileS_elem (t : ByteArray) : latElem (fileS t) = some (.held (fileS t), []) := rfl
theorem FK.lt {w : World} {mb n : Nat} {f : ByteArray → Option ByteArray} (h : FK w mb f n) : mb < w.heap.size := by
  obtain ⟨D, h1, _⟩ := h
  exact h1.lt
theorem FK.same {w w' : World} {mb n : Nat} {f : ByteArray → Option ByteArray} (h : FK w mb f n) (hb : w'.heap[mb]? = w.heap[mb]?) : FK w' mb f n := by
  obtain ⟨D, ⟨es, clock, he, hr⟩, h2⟩ := h
  exact ⟨D, ⟨es, clock, hb.trans he, hr⟩, h2⟩
theorem FK.look {w : World} {mb n : Nat} {f : ByteArray → Option ByteArray} (h : FK w mb f n) (x : ByteArray) (hx : x.size ≤ 1000000) : (Instr.lookup 85 (.map (some mb)) (.string x) true).run Tryz.prog w = .ok (.tuple #[fileS ((f x).getD ⟨#[]⟩), .bool (f x).isSome]) w := by
  obtain ⟨D, h1, h2, h3⟩ := h
  obtain ⟨v, ps, hr, hv⟩ := h1.look_ok (Maps.string_keyed Tryz.underlying9) Tryz.underlying85 (zero84 w) (fileS_elem ⟨#[]⟩) (kl_of (s := x) (by unfold maxLen; omega))
  rw [h2 x] at hv
  rw [hr, latElem_inv hv, h3 x]
theorem FK.made (w : World) : FK (w.alloc (.map #[] 0)) w.heap.size (fun _ => none) 0 := ⟨.map [], World.ownsMap_made w _ _ _, fun _ => rfl, fun _ => rfl⟩
theorem FK.put {w : World} {mb n : Nat} {f : ByteArray → Option ByteArray} (h : FK w mb f n) (hn : n + 1 ≤ 1000000) (a t : ByteArray) (ha : a.size ≤ 1000000) :
    ∃ w', (Instr.mapUpdate 85 (.map (some mb)) (.string a) (fileS t)).run Tryz.prog w = .ok () w' ∧ FK w' mb (fun x => if x = a then some t else f x) (n + 1) ∧ w.grownBy w' (some mb) := by
  obtain ⟨D, h1, h2, h3⟩ := h
  obtain ⟨w', hr, ho, hg⟩ := h1.update (Maps.string_keyed Tryz.underlying9) Tryz.underlying85 (by unfold maxLen; omega) (kl_of (s := a) (by unfold maxLen; omega)) (fileS_elem t)
  refine ⟨w', hr, ⟨_, ho, fun x => ?_, fun x => ?_⟩, hg⟩
  · show _ = DataW.held (fileS ((if x = a then some t else f x).getD ⟨#[]⟩))
    by_cases e : x = a
    · subst e
      rw [Maps.atKey_put_same h1.isMap (kl_key x), if_pos rfl]; rfl
    · rw [Maps.atKey_put_other (fun q => e (kl_inj q)), h2, if_neg e]
  · show _ = (if x = a then some t else f x).isSome
    by_cases e : x = a
    · subst e
      rw [Maps.has_put_same h1.isMap (kl_key x), if_pos rfl]; rfl
    · rw [Maps.has_put_other (fun q => e (kl_inj q)), h3, if_neg e]

set_option maxRecDepth 100000 in
set_option maxHeartbeats 3200000 in
theorem file142_any (f : ByteArray → Option ByteArray) (mb n rb ro : Nat) (x : ByteArray) (hx : x.size ≤ 1000000) (w : World) (h : FK w mb f n) (hr : w.cell? ⟨rb, ro + 1, none⟩ = some (.map (some mb))) (hrb : rb < w.heap.size) :
    Calls Tryz.prog 179 #[.pointer (some ⟨rb, ro, none⟩), .string x] w fun e w' => e = .returned (fileV x (f x).isSome ((f x).getD ⟨#[]⟩)) ∧ Below w.heap.size w w' := by
  have hmb := h.lt
  obtain ⟨w2, hw2⟩ : ∃ w2, w2 = w.alloc (.cells #[.string ⟨#[]⟩, .bool false, .string ⟨#[]⟩] 118) := ⟨_, rfl⟩
  have hb2 : Below w.heap.size w w2 := by rw [hw2]; exact (Below.refl _ _).alloc (Nat.le_refl _) _
  have hf2 : w2.heap[w.heap.size]? = some (.cells #[.string ⟨#[]⟩, .bool false, .string ⟨#[]⟩] 118 (0, 0)) := by rw [hw2]; exact (MapKept.heap_alloc w _).1
  have hs2' : w.heap.size < w2.heap.size := by rw [hw2]; simp
  have hlk := (h.same (hb2.block mb hmb)).look x hx
  obtain ⟨t, ht⟩ : ∃ t, (f x).getD ⟨#[]⟩ = t := ⟨_, rfl⟩
  obtain ⟨bo, hbo⟩ : ∃ b, (f x).isSome = b := ⟨_, rfl⟩
  rw [ht, hbo] at hlk
  have HT : Hid ((f x).getD ⟨#[]⟩ = t) := ht
  have HBO : Hid ((f x).isSome = bo) := hbo
  unfold fileS at hlk
  clear ht hbo
  go_enter Tryz.func179, Tryz.ntmps179
  go_wp2
  rw [← hw2, hlk]
  clear hlk hw2
  obtain ⟨r0, r1, r2⟩ := cells3_at hf2
  have z0 := free3 hf2 0
  have z1 := free3 hf2 1
  have z2 := free3 hf2 2
  have hne : w.heap.size ≠ w2.heap.size := by omega
  go_wp2
  obtain ⟨w5, hw5⟩ : ∃ w5, w5 = ((w2.setCell ⟨w.heap.size, 0, none⟩ (.string x)).setCell ⟨w.heap.size, 1, none⟩ (.bool bo)).setCell ⟨w.heap.size, 2, none⟩ (.string t) := ⟨_, rfl⟩
  obtain ⟨s1, s2⟩ := cells3_set w2 _ _ _ w5 w.heap.size 118 _ rfl _ _ _ hf2 rfl rfl rfl hw5
  rw [← hw5]
  have hs5 : w.heap.size < w5.heap.size := by rw [s2.size]; exact hs2'
  have hb5 : Below w.heap.size w w5 := ⟨s2.os.trans hb2.os, s2.tape.trans hb2.tape, s2.output.trans hb2.output, by rw [s2.size]; exact hb2.size, fun k hk => (s2.block k (by omega)).trans (hb2.block k hk)⟩
  have s9 : (w5.alloc (.cells #[.string t] 105)).heap[w.heap.size]? = _ := (Below.heap_alloc w5 _ _ hs5).trans s1
  refine bodyPost_ret (results_cell_row (p := 4) (ty := 118) (by kernel_rfl) _ _ w.heap.size 118 _ (0, 0) _ rfl s9 Tryz.underlying118 rfl (by kernel_rfl)) rfl ?_
  exact ⟨by rw [HT.out, HBO.out]; rfl, hb5.alloc (by omega) _⟩
end Go.Proofs.YtgdfipmdmgkidaaGreatDoor
