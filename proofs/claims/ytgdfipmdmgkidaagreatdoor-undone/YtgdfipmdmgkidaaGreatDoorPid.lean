/- An id out of a word. -/
import Derived.Test.YtgdfipmdmgkidaaGreatDoorPchange
import Derived.Laws.CopyRow
import Derived.Test.YtgdfipmdmgkidaaGreatDoorPvals
import Derived.Test.YtgdfipmdmgkidaaGreatDoorDelf
import Derived.Test.YtgdfipmdmgkidaaGreatDoorPmake
namespace Go.Proofs.YtgdfipmdmgkidaaGreatDoor
open Go.RowKit

theorem run_copy_str (w : World) (g : Nat) (cur : Array Value) (t : TypeId) (hc : cur.size = 4) (hg : w.heap[g]? = some (.cells cur t (0, 0))) (a b c d : UInt8) :
    (Builtin.copy_ #[156, 9] 3 #[.slice (some ⟨g, 0, none⟩) 4 4, .string ⟨#[a, b, c, d]⟩]).run Tryz.prog w = .ok (goInt 4) (w.setRow g #[.int .u8 a.toNat, .int .u8 b.toNat, .int .u8 c.toNat, .int .u8 d.toNat]) := by
  obtain ⟨i0, hi, hz0, hz1, hz2⟩ := info_parts Tryz.info5
  have hst := run_storeCells_at Tryz.prog g 0 t [.int .u8 a.toNat, .int .u8 b.toNat, .int .u8 c.toNat, .int .u8 d.toNat] 0 cur w hg (by simp; omega) (by intro v hv; simp only [List.mem_cons, List.not_mem_nil, or_false] at hv; rcases hv with rfl | rfl | rfl | rfl <;> rfl)
  have hd : cur.toList.drop 4 = [] := by rw [List.drop_eq_nil_iff]; simp; omega
  simp [hd] at hst
  have hs : (⟨#[a, b, c, d]⟩ : ByteArray).size = 4 := rfl
  simp [Builtin.copy_, run_underlying Tryz.underlying156, Builtin.lenOf, Builtin.firstCells, sizeOf, typeInfo, hi, hs, hst]

theorem cells4_set (w w1 w2 w3 w4 w9 : World) (g : Nat) (t : TypeId) (c : Array Value) (hc : c.size = 4) (x0 x1 x2 x3 : Value) (hg : w.heap[g]? = some (.cells c t (0, 0)))
    (e1 : w1 = w.setCell ⟨g, 0, none⟩ x0) (e2 : w2 = w1.setCell ⟨g, 1, none⟩ x1) (e3 : w3 = w2.setCell ⟨g, 2, none⟩ x2) (e4 : w4 = w3.setCell ⟨g, 3, none⟩ x3) (e9 : w9 = w4) :
    w9.heap[g]? = some (.cells #[x0, x1, x2, x3] t (0, 0)) ∧ Over g w w9 := by
  have g1 := heap_setCell_same w g 0 _ t x0 hg
  have o1 := Over.set w g 0 x0
  rw [← e1] at g1 o1
  have g2 := heap_setCell_same w1 g 1 _ t x1 g1
  have o2 := o1.trans (Over.set w1 g 1 x1)
  rw [← e2] at g2 o2
  have g3 := heap_setCell_same w2 g 2 _ t x2 g2
  have o3 := o2.trans (Over.set w2 g 2 x2)
  rw [← e3] at g3 o3
  have g4 := heap_setCell_same w3 g 3 _ t x3 g3
  have o4 := o3.trans (Over.set w3 g 3 x3)
  rw [← e4] at g4 o4
  have ha : (((c.setIfInBounds 0 x0).setIfInBounds 1 x1).setIfInBounds 2 x2).setIfInBounds 3 x3 = #[x0, x1, x2, x3] := by
    obtain ⟨l⟩ := c
    match l, hc with
    | [y0, y1, y2, y3], _ => simp
  rw [ha] at g4
  rw [e9]
  exact ⟨g4, o4⟩
theorem cells4_at {w : World} {g : Nat} {x0 x1 x2 x3 : Value} {t : TypeId} {f : Nat × Nat} (h : w.heap[g]? = some (.cells #[x0, x1, x2, x3] t f)) : w.cell? ⟨g, 0, none⟩ = some x0 ∧ w.cell? ⟨g, 1, none⟩ = some x1 ∧ w.cell? ⟨g, 2, none⟩ = some x2 ∧ w.cell? ⟨g, 3, none⟩ = some x3 := by
  simp [World.cell?, h]

set_option maxRecDepth 100000 in
set_option maxHeartbeats 3200000 in
theorem idOf51_any (a b c d : UInt8) (w : World) :
    Calls Tryz.prog 70 #[.string ⟨#[a, b, c, d]⟩] w fun e w' => e = .returned (.agg #[.int .u8 a.toNat, .int .u8 b.toNat, .int .u8 c.toNat, .int .u8 d.toNat]) ∧ Below w.heap.size w w' := by
  obtain ⟨w2, hw2⟩ : ∃ w2, w2 = (w.alloc (.cells #[.int .u8 0, .int .u8 0, .int .u8 0, .int .u8 0] 113)).alloc (.cells #[.int .u8 0, .int .u8 0, .int .u8 0, .int .u8 0] 113) := ⟨_, rfl⟩
  obtain ⟨hb2, hs2, hk2, hf2⟩ := two_blocks' w _ _ hw2
  have hrun := run_copy_str w2 (w.heap.size + 1) _ 113 rfl hf2 a b c d
  go_enter Tryz.func70, Tryz.ntmps70
  go_wp2
  rw [← hw2, hrun]
  clear hrun hw2
  obtain ⟨w3, hw3⟩ : ∃ w3, w3 = w2.setRow (w.heap.size + 1) #[.int .u8 a.toNat, .int .u8 b.toNat, .int .u8 c.toNat, .int .u8 d.toNat] := ⟨_, rfl⟩
  have hb3 : Below w.heap.size w w3 := by rw [hw3]; exact hb2.trans ⟨rfl, rfl, rfl, by simp [World.setRow], fun k hk => setRow_other w2 _ k _ (by omega)⟩
  have h1 : w3.heap[w.heap.size + 1]? = some (.cells #[.int .u8 a.toNat, .int .u8 b.toNat, .int .u8 c.toNat, .int .u8 d.toNat] 113 (0, 0)) := by rw [hw3]; exact setRow_heap w2 _ _ _ 113 _ hf2
  have h0 : w3.heap[w.heap.size]? = some (.cells #[.int .u8 0, .int .u8 0, .int .u8 0, .int .u8 0] 113 (0, 0)) := by rw [hw3, setRow_other w2 _ _ _ (by omega)]; exact hk2
  rw [← hw3]
  clear hw3 hb2 hs2 hk2 hf2
  obtain ⟨p0, p1, p2, p3⟩ := cells4_at h1
  obtain ⟨r0, r1, r2, r3⟩ := cells4_at h0
  have z0 := free3 h0 0
  have z1 := free3 h0 1
  have z2 := free3 h0 2
  have z3 := free3 h0 3
  go_wp2
  obtain ⟨w5, hw5⟩ : ∃ w5, w5 = (((w3.setCell ⟨w.heap.size, 0, none⟩ (.int .u8 a.toNat)).setCell ⟨w.heap.size, 1, none⟩ (.int .u8 b.toNat)).setCell ⟨w.heap.size, 2, none⟩ (.int .u8 c.toNat)).setCell ⟨w.heap.size, 3, none⟩ (.int .u8 d.toNat) := ⟨_, rfl⟩
  obtain ⟨s1, s2⟩ := cells4_set w3 _ _ _ _ w5 w.heap.size 113 _ rfl _ _ _ _ h0 rfl rfl rfl rfl hw5
  rw [← hw5]
  have hb5 : Below w.heap.size w w5 := ⟨s2.os.trans hb3.os, s2.tape.trans hb3.tape, s2.output.trans hb3.output, by rw [s2.size]; exact hb3.size, fun k hk => (s2.block k (by omega)).trans (hb3.block k hk)⟩
  refine bodyPost_ret (results_cell_row (p := 2) (ty := 113) (by kernel_rfl) _ _ w.heap.size 113 _ (0, 0) _ rfl s1 Tryz.underlying113 rfl (by kernel_rfl)) rfl ?_
  exact ⟨rfl, hb5⟩
end Go.Proofs.YtgdfipmdmgkidaaGreatDoor

/- What the user has of a name. -/
namespace Go.Proofs.YtgdfipmdmgkidaaGreatDoor
open Go.RowKit
open Go.ChangeMaps Go.MapKept

def fileS (t : ByteArray) : Value := .agg #[.string t]
/-- Block mb is the map of the files that the user has written. -/
def FK (w : World) (mb : Nat) (f : ByteArray → Option ByteArray) (n : Nat) : Prop := ∃ (D : DataW Value), w.ownsMap Tryz.prog 9 latElem mb n D ∧ (∀ x, D.atKey (kl x) (.held (fileS ⟨#[]⟩)) = .held (fileS ((f x).getD ⟨#[]⟩))) ∧ (∀ x, Maps.has D (kl x) = (f x).isSome)
theorem zero84 (w : World) : (zeroValue 105).run Tryz.prog w = .ok (fileS ⟨#[]⟩) w := Tryz.zeroValue105 w
theorem fileS_elem (t : ByteArray) : latElem (fileS t) = some (.held (fileS t), []) := rfl
theorem FK.lt {w : World} {mb n : Nat} {f : ByteArray → Option ByteArray} (h : FK w mb f n) : mb < w.heap.size := by
  obtain ⟨D, h1, _⟩ := h
  exact h1.lt
theorem FK.same {w w' : World} {mb n : Nat} {f : ByteArray → Option ByteArray} (h : FK w mb f n) (hb : w'.heap[mb]? = w.heap[mb]?) : FK w' mb f n := by
  obtain ⟨D, ⟨es, clock, he, hr⟩, h2⟩ := h
  exact ⟨D, ⟨es, clock, hb.trans he, hr⟩, h2⟩
theorem FK.look {w : World} {mb n : Nat} {f : ByteArray → Option ByteArray} (h : FK w mb f n) (x : ByteArray) (hx : x.size ≤ 1000000) : (Instr.lookup 85 (.map (some mb)) (.string x) true).run Tryz.prog w = .ok (.tuple #[fileS ((f x).getD ⟨#[]⟩), .bool (f x).isSome]) w := by
  obtain ⟨D, h1, h2, h3⟩ := h
  obtain ⟨v, ps, hr, hv⟩ := h1.look_ok (Maps.string_keyed Tryz.underlying9) Tryz.underlying85 (zero84 w) (fileS_elem ⟨#[]⟩) (kl_of (s := x) (by unfold maxLen; omega))
  rw [h2 x] at hv
  rw [hr, latElem_inv hv, h3 x]
theorem FK.made (w : World) : FK (w.alloc (.map #[] 0)) w.heap.size (fun _ => none) 0 := ⟨.map [], World.ownsMap_made w _ _ _, fun _ => rfl, fun _ => rfl⟩
theorem FK.put {w : World} {mb n : Nat} {f : ByteArray → Option ByteArray} (h : FK w mb f n) (hn : n + 1 ≤ 1000000) (a t : ByteArray) (ha : a.size ≤ 1000000) :
    ∃ w', (Instr.mapUpdate 85 (.map (some mb)) (.string a) (fileS t)).run Tryz.prog w = .ok () w' ∧ FK w' mb (fun x => if x = a then some t else f x) (n + 1) ∧ w.grownBy w' (some mb) := by
  obtain ⟨D, h1, h2, h3⟩ := h
  obtain ⟨w', hr, ho, hg⟩ := h1.update (Maps.string_keyed Tryz.underlying9) Tryz.underlying85 (by unfold maxLen; omega) (kl_of (s := a) (by unfold maxLen; omega)) (fileS_elem t)
  refine ⟨w', hr, ⟨_, ho, fun x => ?_, fun x => ?_⟩, hg⟩
  · show _ = DataW.held (fileS ((if x = a then some t else f x).getD ⟨#[]⟩))
    by_cases e : x = a
    · subst e
      rw [Maps.atKey_put_same h1.isMap (kl_key x), if_pos rfl]; rfl
    · rw [Maps.atKey_put_other (fun q => e (kl_inj q)), h2, if_neg e]
  · show _ = (if x = a then some t else f x).isSome
    by_cases e : x = a
    · subst e
      rw [Maps.has_put_same h1.isMap (kl_key x), if_pos rfl]; rfl
    · rw [Maps.has_put_other (fun q => e (kl_inj q)), h3, if_neg e]

set_option maxRecDepth 100000 in
set_option maxHeartbeats 3200000 in
theorem file142_any (f : ByteArray → Option ByteArray) (mb n rb ro : Nat) (x : ByteArray) (hx : x.size ≤ 1000000) (w : World) (h : FK w mb f n) (hr : w.cell? ⟨rb, ro + 1, none⟩ = some (.map (some mb))) (hrb : rb < w.heap.size) :
    Calls Tryz.prog 179 #[.pointer (some ⟨rb, ro, none⟩), .string x] w fun e w' => e = .returned (fileV x (f x).isSome ((f x).getD ⟨#[]⟩)) ∧ Below w.heap.size w w' := by
  have hmb := h.lt
  obtain ⟨w2, hw2⟩ : ∃ w2, w2 = w.alloc (.cells #[.string ⟨#[]⟩, .bool false, .string ⟨#[]⟩] 118) := ⟨_, rfl⟩
  have hb2 : Below w.heap.size w w2 := by rw [hw2]; exact (Below.refl _ _).alloc (Nat.le_refl _) _
  have hf2 : w2.heap[w.heap.size]? = some (.cells #[.string ⟨#[]⟩, .bool false, .string ⟨#[]⟩] 118 (0, 0)) := by rw [hw2]; exact (MapKept.heap_alloc w _).1
  have hs2' : w.heap.size < w2.heap.size := by rw [hw2]; simp
  have hlk := (h.same (hb2.block mb hmb)).look x hx
  obtain ⟨t, ht⟩ : ∃ t, (f x).getD ⟨#[]⟩ = t := ⟨_, rfl⟩
  obtain ⟨bo, hbo⟩ : ∃ b, (f x).isSome = b := ⟨_, rfl⟩
  rw [ht, hbo] at hlk
  have HT : Hid ((f x).getD ⟨#[]⟩ = t) := ht
  have HBO : Hid ((f x).isSome = bo) := hbo
  unfold fileS at hlk
  clear ht hbo
  go_enter Tryz.func179, Tryz.ntmps179
  go_wp2
  rw [← hw2, hlk]
  clear hlk hw2
  obtain ⟨r0, r1, r2⟩ := cells3_at hf2
  have z0 := free3 hf2 0
  have z1 := free3 hf2 1
  have z2 := free3 hf2 2
  have hne : w.heap.size ≠ w2.heap.size := by omega
  go_wp2
  obtain ⟨w5, hw5⟩ : ∃ w5, w5 = ((w2.setCell ⟨w.heap.size, 0, none⟩ (.string x)).setCell ⟨w.heap.size, 1, none⟩ (.bool bo)).setCell ⟨w.heap.size, 2, none⟩ (.string t) := ⟨_, rfl⟩
  obtain ⟨s1, s2⟩ := cells3_set w2 _ _ _ w5 w.heap.size 118 _ rfl _ _ _ hf2 rfl rfl rfl hw5
  rw [← hw5]
  have hs5 : w.heap.size < w5.heap.size := by rw [s2.size]; exact hs2'
  have hb5 : Below w.heap.size w w5 := ⟨s2.os.trans hb2.os, s2.tape.trans hb2.tape, s2.output.trans hb2.output, by rw [s2.size]; exact hb2.size, fun k hk => (s2.block k (by omega)).trans (hb2.block k hk)⟩
  have s9 : (w5.alloc (.cells #[.string t] 105)).heap[w.heap.size]? = _ := (Below.heap_alloc w5 _ _ hs5).trans s1
  refine bodyPost_ret (results_cell_row (p := 4) (ty := 118) (by kernel_rfl) _ _ w.heap.size 118 _ (0, 0) _ rfl s9 Tryz.underlying118 rfl (by kernel_rfl)) rfl ?_
  exact ⟨by rw [HT.out, HBO.out]; rfl, hb5.alloc (by omega) _⟩
end Go.Proofs.YtgdfipmdmgkidaaGreatDoor

/- The names of which something is kept; the names of the files; both. -/
namespace Go.Proofs.YtgdfipmdmgkidaaGreatDoor
open Go.RowKit Go.Shelf Go.Sort Go.Lib

theorem byt_inj {s t : ByteArray} (h : byt s = byt t) : s = t := bytes_inj h
/-- Names, rising, each once. -/
def Srt (K : List ByteArray) : Prop := K.Pairwise fun a b => byt a < byt b
theorem Srt.ext : ∀ {K K' : List ByteArray}, Srt K → Srt K' → (∀ x, x ∈ K ↔ x ∈ K') → K = K' := by
  intro K K' h h' hm
  have nd : ∀ {L : List ByteArray}, Srt L → L.Nodup := fun hL => hL.imp fun hlt e => by subst e; exact List.lt_irrefl _ hlt
  refine List.Perm.eq_of_pairwise (le := fun a b => byt a ≤ byt b) (fun a b _ _ h1 h2 => byt_inj (List.le_antisymm h1 h2)) (h.imp List.le_of_lt) (h'.imp List.le_of_lt) ?_
  exact (List.perm_ext_iff_of_nodup (nd h) (nd h')).2 hm
theorem Srt.filter {K : List ByteArray} (h : Srt K) (p : ByteArray → Bool) : Srt (K.filter p) := List.Pairwise.filter p h

theorem keys_facts {H : Type} {R : Value → Option (DataW H × List MemPlace)} {w : World} {mb n : Nat} {D : DataW H} (hown : w.ownsMap Tryz.prog 9 R mb n D) : (strKeys D).Nodup ∧ ∀ x : List UInt8, x ∈ strKeys D ↔ Maps.has D (.string x) = true := by
  obtain ⟨es, hD, hpw⟩ := hown.tidy (Maps.string_keyed Tryz.underlying9)
  obtain ⟨es', hD', hko⟩ := hown.keysOf
  obtain rfl : es = es' := by rw [hD] at hD'; simpa using hD'
  have hk : ∀ p ∈ es, ∃ x, p.1 = Lit.string x := fun p hp => by
    obtain ⟨v, hv⟩ := hko p hp
    obtain ⟨x, _, hx, _⟩ := Maps.keyOf_str Tryz.underlying9 hv
    exact ⟨x, hx⟩
  have hnd : (es.map fun p => strOf p.1).Nodup := by
    refine List.pairwise_map.2 (hpw.imp_of_mem fun {p q} hp' hq' hne e => hne ?_)
    obtain ⟨a, ha⟩ := hk p hp'
    obtain ⟨b, hb⟩ := hk q hq'
    rw [ha, hb] at e ⊢
    exact congrArg _ e
  subst hD
  refine ⟨hnd, fun x => ?_⟩
  show x ∈ es.map (fun p => strOf p.1) ↔ _
  rw [List.mem_map, Maps.has_eq, List.any_eq_true]
  constructor
  · rintro ⟨p, hp, rfl⟩
    obtain ⟨y, hy⟩ := hk p hp
    exact ⟨p, hp, by rw [hy]; simp [strOf, Lit.sameKey]⟩
  · rintro ⟨p, hp, he⟩
    obtain ⟨y, hy⟩ := hk p hp
    rw [hy] at he
    exact ⟨p, hp, by rw [hy]; simpa [strOf, Lit.sameKey] using he⟩

theorem of_byt (x : List UInt8) : byt ⟨x.toArray⟩ = x := by simp [byt]
/-- Sorted keys are a list of names, rising, each once. -/
theorem keys_sorted {H : Type} {R : Value → Option (DataW H × List MemPlace)} {w : World} {mb n : Nat} {D : DataW H} (hown : w.ownsMap Tryz.prog 9 R mb n D) {ss : List (List UInt8)} (hp : ss.Perm (strKeys D)) :
    ∃ K : List ByteArray, Srt K ∧ (∀ x, x ∈ K ↔ Maps.has D (kl x) = true) ∧ (ss.mergeSort (fun x y => decide (x ≤ y))).map encStr = strs K ∧ K.length = ss.length ∧ ∀ x ∈ K, x.size ≤ maxLen := by
  obtain ⟨h1, h2⟩ := keys_facts hown
  have hle := strKeys_le hown Tryz.underlying9
  have tr : ∀ a b c : List UInt8, decide (a ≤ b) = true → decide (b ≤ c) = true → decide (a ≤ c) = true := fun a b c h1 h2 => by simp only [decide_eq_true_eq] at *; exact List.le_trans h1 h2
  have to : ∀ a b : List UInt8, (decide (a ≤ b) || decide (b ≤ a)) = true := fun a b => by simp only [Bool.or_eq_true, decide_eq_true_eq]; exact List.le_total a b
  have hpm := (List.mergeSort_perm ss (fun x y => decide (x ≤ y))).trans hp
  have hpw := List.pairwise_mergeSort tr to ss
  have hnd : (ss.mergeSort (fun x y => decide (x ≤ y))).Nodup := hpm.nodup_iff.2 h1
  have hbk : ((ss.mergeSort (fun x y => decide (x ≤ y))).map fun b => (⟨b.toArray⟩ : ByteArray)).map byt = ss.mergeSort (fun x y => decide (x ≤ y)) := by
    rw [List.map_map]
    conv => rhs; rw [← List.map_id (ss.mergeSort _)]
    exact List.map_congr_left fun a _ => of_byt a
  refine ⟨(ss.mergeSort (fun x y => decide (x ≤ y))).map fun b => ⟨b.toArray⟩, ?_, fun x => ?_, ?_, by simp, fun x hx => ?_⟩
  · refine List.pairwise_map.2 ?_
    refine (hpw.and hnd).imp fun {a b} h => ?_
    rw [of_byt, of_byt]
    have h1 := h.1
    rw [decide_eq_true_eq] at h1
    exact List.not_le.1 fun h3 => h.2 (List.le_antisymm h1 h3)
  · rw [List.mem_map]
    have e : kl x = .string (byt x) := rfl
    rw [e, ← h2 (byt x), ← hpm.mem_iff]
    constructor
    · rintro ⟨b, hb, rfl⟩
      rw [of_byt]
      exact hb
    · intro h
      exact ⟨byt x, h, by simp [byt]⟩
  · rw [← enc_strs, hbk]
  · rw [List.mem_map] at hx
    obtain ⟨b, hb, rfl⟩ := hx
    have := hle b (hpm.mem_iff.1 hb)
    simpa [ByteArray.size] using this

/-- The names of the files. -/
theorem FK.size {w : World} {mb n : Nat} {f : ByteArray → Option ByteArray} (h : FK w mb f n) : ∃ D, w.ownsMap Tryz.prog 9 latElem mb n D ∧ ∀ x, Maps.has D (kl x) = (f x).isSome := by
  obtain ⟨D, h1, _, h3⟩ := h
  exact ⟨D, h1, h3⟩
set_option maxRecDepth 100000 in
set_option maxHeartbeats 1600000 in
theorem names131_any (f : ByteArray → Option ByteArray) (mb n rb ro : Nat) (w : World) (h : FK w mb f n) (hn : n ≤ 1000000) (hr : w.cell? ⟨rb, ro + 1, none⟩ = some (.map (some mb))) :
    Calls Tryz.prog 168 #[.pointer (some ⟨rb, ro, none⟩)] w fun e w' => ∃ v K, e = .returned v ∧ w'.ownsRow w.heap.size 9 1 v K.length (strs K) ∧ Srt K ∧ (∀ x, x ∈ K ↔ (f x).isSome = true) ∧ K.length ≤ n ∧ Below w.heap.size w w' := by
  obtain ⟨D, hown, hh⟩ := h.size
  have hsz := hown.size_le
  have HK : Hid (Calls Tryz.prog 214 #[.map (some mb)] w fun e w' => e = .returned (.func (.func 246) #[] #[.pointer (some ⟨w.heap.size, 0, none⟩)]) ∧ w' = w.alloc (.cells #[.map (some mb)] 85)) := callsIn_wide.1 (Tryz.maps_Keys_214 _ _)
  have HS : Hid (Calls Tryz.prog 177 #[.func (.func 246) #[] #[.pointer (some ⟨w.heap.size, 0, none⟩)]] (w.alloc (.cells #[.map (some mb)] 85)) fun e w' => ∃ va vn vc K, e = .returned (.slice va vn vc) ∧ w'.ownsRow w.heap.size 9 1 (.slice va vn vc) K.length (strs K) ∧ Srt K ∧ (∀ x, x ∈ K ↔ (f x).isSome = true) ∧ K.length ≤ n ∧ Below w.heap.size w w') := by
    refine (callsIn_wide.1 (Tryz.slices_Sorted_keys_177_214 mb n D latElem w hown (by unfold maxLen; omega) (by omega))).mono ?_
    rintro e w' ⟨v, ss, rfl, hp, hrow, hnil, hb⟩
    obtain ⟨K, k1, k2, k3, k4, _⟩ := keys_sorted hown hp
    have hl : ss.length ≤ n := by rw [hp.length_eq]; exact Nat.le_trans (Nat.le_of_eq (by obtain ⟨es, hD, _⟩ := hown.keysOf; rw [hD]; simp [strKeys, Maps.size])) hsz
    rw [k3, ← k4] at hrow
    obtain ⟨va, vc, rfl⟩ := own_shape hrow
    exact ⟨va, _, vc, K, rfl, ownsRow_mono hrow (by simp), k1, fun x => by rw [k2, hh], by omega, ((Below.refl _ w).alloc (Nat.le_refl _) _).trans (hb.mono (by simp))⟩
  clear hh hown h hsz
  go_enter Tryz.func168, Tryz.ntmps168
  go_wp2_with fail
  refine HK.out.mono ?_
  rintro e w1 ⟨rfl, rfl⟩
  clear HK
  go_wp2_with fail
  refine HS.out.mono ?_
  rintro e w2 ⟨va, vn, vc, K, rfl, h1, h2, h3, h4, h5⟩
  clear HS
  go_wp2
  go_ret
  exact ⟨_, K, rfl, h1, h2, h3, h4, h5⟩
end Go.Proofs.YtgdfipmdmgkidaaGreatDoor

/- The names of which something is kept. -/
namespace Go.Proofs.YtgdfipmdmgkidaaGreatDoor
open Go.RowKit Go.Shelf Go.Sort Go.Lib

abbrev Nm := {x : ByteArray // x.size ≤ maxLen}
instance : Inhabited Nm := ⟨⟨⟨#[]⟩, by decide⟩⟩
def encN (x : Nm) : Value := .string x.1
theorem encN_one : OneCell encN := fun _ => rfl

theorem TreeAt.lookM {w W : World} {mb n : Nat} {st : ByteArray → PL} (h : TreeAt w mb st n) (hb : W.heap[mb]? = w.heap[mb]?) (a : ByteArray) (ha : a.size ≤ maxLen) : ∃ l, (Instr.lookup 119 (.map (some mb)) (.string a) false).run Tryz.prog W = .ok (latV l) W ∧ LatIs l (st a) := by
  obtain ⟨f, has, D, ⟨es, clock, he, hr⟩, h2, h3, h4, h5, h6⟩ := h
  have h1 : W.ownsMap Tryz.prog 9 latElem mb n D := ⟨es, clock, hb.trans he, hr⟩
  obtain ⟨v, ps, hr, hv⟩ := h1.lookup (Maps.string_keyed Tryz.underlying9) Tryz.underlying119 (zero147 W) (latElem_mk lat0) (kl_of (s := a) ha)
  rw [h2 a] at hv
  exact ⟨f a, by rw [hr, latElem_inv hv], h5 a⟩

theorem field177 (a b c d : Int) (al : Bool) (rv : Value) (W : World) : (Instr.field 185 (.agg #[.int .u8 a, .int .u8 b, .int .u8 c, .int .u8 d, .bool al, rv]) 1).run Tryz.prog W = .ok (.bool al) W := by kernel_rfl
set_option maxRecDepth 100000 in
set_option maxHeartbeats 800000 in
theorem dead171_gives {w W : World} {mb n B : Nat} {st : ByteArray → PL} (h : TreeAt w mb st n) (hb : W.heap[mb]? = w.heap[mb]?) (hc : W.cell? ⟨B, 0, none⟩ = some (.map (some mb))) (x : Nm) :
    FnGives Tryz.prog 223 #[.pointer (some ⟨B, 0, none⟩)] #[encN x] (.bool (!(st x.1).alive)) W := by
  show Calls Tryz.prog 223 #[.string x.1, .pointer (some ⟨B, 0, none⟩)] W _
  obtain ⟨l, hlk, _, hal, _⟩ := h.lookM hb x.1 x.2
  rw [← hal]
  obtain ⟨⟨ba, bb, bc, bd⟩, al, rv, S⟩ := l
  unfold latV at hlk
  simp only at hlk
  clear hal h hb
  generalize x.1 = y at *
  have hfl := field177 ba bb bc bd al rv W
  go_enter Tryz.func223, Tryz.ntmps223
  go_wp2
  go_ret
  exact ⟨rfl, 0, rfl⟩

set_option maxRecDepth 100000 in
set_option maxHeartbeats 800000 in
theorem index162_nil (g : Nat) (lb : Array Value) (w : World) : Calls Tryz.prog 171 #[.slice none 0 0, .func (.func g) #[] lb] w fun e w' => e = .returned (.int .i64 (-1)) ∧ w' = w := by
  go_enter Tryz.func171, Tryz.ntmps171
  go_wp2
  go_loopw [8] (fun i wr => i = .int .i64 0 ∧ wr = w) (fun _ _ => 0)
  case atStart => exact ⟨rfl, rfl⟩
  case round =>
    obtain ⟨rfl, rfl⟩ := hrel
    go_wp2
    go_ret
    exact ⟨rfl, rfl⟩
set_option maxRecDepth 100000 in
set_option maxHeartbeats 800000 in
theorem del206_nil (g : Nat) (lb : Array Value) (w : World) : Calls Tryz.prog 222 #[.slice none 0 0, .func (.func g) #[] lb] w fun e w' => e = .returned (.slice none 0 0) ∧ w' = w := by
  have HI : Hid (Calls Tryz.prog 171 #[.slice none 0 0, .func (.func g) #[] lb] w fun e w' => e = .returned (.int .i64 (-1)) ∧ w' = w) := index162_nil g lb w
  go_enter Tryz.func222, Tryz.ntmps222
  go_wp2_with fail
  refine HI.out.mono ?_
  rintro e w1 ⟨rfl, rfl⟩
  clear HI
  go_wp2
  go_ret
  exact ⟨rfl, rfl⟩

theorem heap_put {α : Type} [Inhabited α] (enc : α → Value) {w : World} {g n : Nat} {cur : Array Value} {e : TypeId} {fr : Nat × Nat} (d : Array α) (hb : w.heap[g]? = some (.cells cur e fr)) :
    (putRow enc (Sort.ahead w n) g 0 d).heap[g]? = some (.cells (putCells enc 0 d cur) e fr) := by
  simp [putRow, mapBlock, Sort.ahead, Array.getElem?_modify, hb, onCells]
theorem grown_put {α : Type} [Inhabited α] (enc : α → Value) {w : World} {g n : Nat} (d : Array α) : w.grownBy (putRow enc (Sort.ahead w n) g 0 d) (some g) := by
  refine ⟨rfl, rfl, rfl, by simp [Sort.ahead], fun k hk hne => ?_⟩
  have : g ≠ k := fun e => hne (by rw [e])
  simp [putRow, mapBlock, Sort.ahead, Array.getElem?_modify, this]
theorem take_put {α : Type} [Inhabited α] (enc : α → Value) (cur : Array Value) (ts us : List α) (h : ts.length + us.length ≤ cur.size) : (putCells enc 0 (ts ++ us).toArray cur).toList.take ts.length = ts.map enc := by
  apply List.ext_getElem?
  intro j
  by_cases hj : j < ts.length
  · rw [List.getElem?_take_of_lt hj, Array.getElem?_toList]
    simp [putCells, hj, show j < cur.size by omega, show j < ts.length + us.length by omega]
  · rw [List.getElem?_take_eq_none (by omega), List.getElem?_eq_none (by simp; omega)]

/-- Names that are small enough, as such. -/
def asNm : List ByteArray → List Nm
  | [] => []
  | x :: K => if h : x.size ≤ maxLen then ⟨x, h⟩ :: asNm K else asNm K
theorem asNm_map : ∀ {K : List ByteArray}, (∀ x ∈ K, x.size ≤ maxLen) → (asNm K).map (·.1) = K
  | [], _ => rfl
  | x :: K, h => by
    have h1 := h x (by simp)
    unfold asNm
    rw [dif_pos h1, List.map_cons, asNm_map (fun y hy => h y (by simp [hy]))]
theorem asNm_strs {K : List ByteArray} (h : ∀ x ∈ K, x.size ≤ maxLen) : (asNm K).map encN = strs K := by
  conv => rhs; rw [← asNm_map h]
  unfold strs
  rw [List.map_map]
  rfl
theorem asNm_filter {K : List ByteArray} (h : ∀ x ∈ K, x.size ≤ maxLen) (p : ByteArray → Bool) : ((asNm K).filter fun x => p x.1).map encN = strs (K.filter p) := by
  conv => rhs; rw [← asNm_map h]
  unfold strs
  rw [List.filter_map, List.map_map]
  rfl
theorem asNm_len {K : List ByteArray} (h : ∀ x ∈ K, x.size ≤ maxLen) : (asNm K).length = K.length := by
  conv => rhs; rw [← asNm_map h]
  simp

/-- slices.DeleteFunc on a list of the call's own: those that are dead go. -/
theorem del206_any {w : World} {mb n B base : Nat} {st : ByteArray → PL} {v : Value} {K : List ByteArray} (h : TreeAt w mb st n) (hB : B < w.heap.size) (hc : w.heap[B]? = some (.cells #[.map (some mb)] 121 (0, 0))) (hv : w.ownsRow base 9 1 v K.length (strs K)) (hK : ∀ x ∈ K, x.size ≤ maxLen) (hl : K.length ≤ 1000000) :
    Calls Tryz.prog 222 #[v, .func (.func 223) #[] #[.pointer (some ⟨B, 0, none⟩)]] w fun e w' => ∃ va vn vc, e = .returned (.slice va vn vc) ∧ w'.ownsRow base 9 1 (.slice va vn vc) (K.filter fun x => (st x).alive).length (strs (K.filter fun x => (st x).alive)) ∧ w.grownBy w' v.ownBlock := by
  have hcB : w.cell? ⟨B, 0, none⟩ = some (.map (some mb)) := by simp [World.cell?, hc]
  have hmb := h.lt
  obtain ⟨es0, ck0, hm0⟩ : ∃ es c, w.heap[mb]? = some (.map es c) := by obtain ⟨_, _, _, ⟨es, c, he, _⟩, _⟩ := h; exact ⟨es, c, he⟩
  rcases hv.2 with ⟨rfl, h0⟩ | ⟨g, cap, cur, rfl, hbase, hg, hcap, hcm, hcs, htake⟩
  · have : K = [] := List.eq_nil_of_length_eq_zero h0
    subst this
    refine (del206_nil 223 _ w).mono ?_
    rintro e w' ⟨rfl, rfl⟩
    exact ⟨none, 0, 0, rfl, World.ownsRow_nil _ _ _ _, World.grownBy.refl _ _⟩
  · have hgB : B ≠ g := fun e => by subst e; rw [hc] at hg; simp at hg
    have hgm : mb ≠ g := fun e => by subst e; rw [hm0] at hg; cases hg
    have hlen := asNm_len hK
    have hH : Holds encN w g 0 (asNm K).toArray := by
      intro j hj
      have hj' : j < (asNm K).length := by simpa using hj
      refine ⟨?_, by simp [World.frozen?, hg]⟩
      have h1 : (cur.toList.take (K.length * 1))[j]? = ((asNm K).map encN)[j]? := by rw [htake, asNm_strs hK]
      rw [List.getElem?_take_of_lt (by omega), Array.getElem?_toList] at h1
      simp only [World.cell?, hg, Nat.zero_add]
      rw [h1]
      simp [hj']
    have hD := AnyE.slices_DeleteFunc Tryz.l222 encN encN_one (fun x : Nm => !(st x.1).alive) 223 #[.pointer (some ⟨B, 0, none⟩)] (enters_of Tryz.func223 (by kernel_rfl) rfl) ⟨⟨#[]⟩, by decide⟩ (fun w => by kernel_rfl) g 0 cap (asNm K).toArray w
      (fun W x hb => dead171_gives h (hb.block mb hmb) ((hb.cell (p := ⟨B, 0, none⟩) hB).trans hcB) x)
      (fun m os dk x _ => by
        refine dead171_gives h ?_ ?_ x
        · unfold sortWorld
          rw [heap_grow_old _ _ (by simpa [Sort.ahead] using hmb)]
          exact (grown_put encN (w := w) dk).block mb hmb (by simpa using hgm)
        · unfold sortWorld
          rw [cell?_grow _ _ _ (by show B < (putRow _ _ _ _ _).heap.size; rw [size_putRow]; exact hB), cell?_putRow_other _ _ g 0 _ _ (Or.inl hgB)]
          exact hcB)
      hH (by simp; omega) (by simp; omega)
    have e1 : (asNm K).toArray.size = K.length := by simp [hlen]
    rw [e1] at hD
    refine hD.mono ?_
    rintro e w' ⟨rfl, q, rfl⟩
    have e2 : ((asNm K).toArray.toList.filter fun x : Nm => !!(st x.1).alive) = (asNm K).filter fun x => (st x.1).alive := by simp
    rw [e2]
    have e3 := asNm_filter hK (fun x => (st x).alive)
    have e4 : ((asNm K).filter fun x => (st x.1).alive).length = (K.filter fun x => (st x).alive).length := by
      have := congrArg List.length e3
      simpa [strs] using this
    have e5 : (K.filter fun x => (st x).alive).length ≤ K.length := List.length_filter_le _ _
    refine ⟨some ⟨g, 0, none⟩, _, cap, rfl, ?_, grown_put encN _⟩
    rw [e4]
    refine ⟨by simp [strs], .inr ⟨g, cap, _, rfl, hbase, heap_put encN _ hg, by omega, hcm, by simp [putCells, hcs], ?_⟩⟩
    rw [Nat.mul_one, ← e4, take_put encN _ _ _ (by simp; omega), e3]

set_option maxRecDepth 100000 in
set_option maxHeartbeats 1600000 in
theorem names143_any (st : ByteArray → PL) (mb n : Nat) (w : World) (h : TreeAt w mb st n) (hn : n ≤ 100000) :
    Calls Tryz.prog 180 #[.agg #[.map (some mb)]] w fun e w' => ∃ v K, e = .returned v ∧ w'.ownsRow w.heap.size 9 1 v K.length (strs K) ∧ Srt K ∧ (∀ x, x ∈ K ↔ (st x).alive = true) ∧ K.length ≤ n ∧ Below w.heap.size w w' := by
  obtain ⟨w1, hw1⟩ : ∃ w1, w1 = w.alloc (.cells #[.map (some mb)] 121) := ⟨_, rfl⟩
  have hb1 : Below w.heap.size w w1 := by rw [hw1]; exact (Below.refl _ _).alloc (Nat.le_refl _) _
  have hk1 : w1.heap[w.heap.size]? = some (.cells #[.map (some mb)] 121 (0, 0)) := by rw [hw1]; exact (MapKept.heap_alloc w _).1
  have hs1 : w.heap.size < w1.heap.size := by rw [hw1]; simp
  have h1 := h.below hb1 (Nat.le_refl _)
  have hc1 : w1.cell? ⟨w.heap.size, 0, none⟩ = some (.map (some mb)) := by simp [World.cell?, hk1]
  have HK : Hid (Calls Tryz.prog 221 #[.map (some mb)] w1 fun e w' => e = .returned (.func (.func 254) #[] #[.pointer (some ⟨w1.heap.size, 0, none⟩)]) ∧ w' = w1.alloc (.cells #[.map (some mb)] 119)) := callsIn_wide.1 (Tryz.maps_Keys_221 _ _)
  have HS : Hid (Calls Tryz.prog 177 #[.func (.func 254) #[] #[.pointer (some ⟨w1.heap.size, 0, none⟩)]] (w1.alloc (.cells #[.map (some mb)] 119)) fun e w2 => ∃ va vn vc K, e = .returned (.slice va vn vc) ∧ w2.ownsRow w1.heap.size 9 1 (.slice va vn vc) K.length (strs K) ∧ Srt K ∧ (∀ x, x ∉ K → (st x).alive = false) ∧ K.length ≤ n ∧ (∀ x ∈ K, x.size ≤ maxLen) ∧ Below w1.heap.size w1 w2) := by
    obtain ⟨f, has, D, hown, h2, h3, h4, h5, h6⟩ := h1
    have hsz := hown.size_le
    refine (callsIn_wide.1 (Tryz.slices_Sorted_keys_177_221 mb n D latElem w1 hown (by unfold maxLen; omega) (by omega))).mono ?_
    rintro e w' ⟨v, ss, rfl, hp, hrow, hnil, hb⟩
    obtain ⟨K, k1, k2, k3, k4, k5⟩ := keys_sorted hown hp
    have hl : ss.length ≤ n := by rw [hp.length_eq]; exact Nat.le_trans (Nat.le_of_eq (by obtain ⟨es, hD, _⟩ := hown.keysOf; rw [hD]; simp [strKeys, Maps.size])) hsz
    rw [k3, ← k4] at hrow
    obtain ⟨va, vc, rfl⟩ := own_shape hrow
    refine ⟨va, _, vc, K, rfl, ownsRow_mono hrow (by simp), k1, fun x hx => ?_, by omega, k5, ((Below.refl _ w1).alloc (Nat.le_refl _) _).trans (hb.mono (by simp))⟩
    have hx2 : has x = false := by
      rw [← h3 x]
      cases e : Maps.has D (kl x)
      · rfl
      · exact absurd ((k2 x).2 e) hx
    have := (h5 x).2.1
    rw [h4 x hx2] at this
    exact this.symm
  have HT : Hid (TreeAt w1 mb st n) := h1
  have HK1 : Hid (w1.heap[w.heap.size]? = some (.cells #[.map (some mb)] 121 (0, 0))) := hk1
  clear h h1 hk1
  go_enter Tryz.func180, Tryz.ntmps180
  go_wp2_with fail
  rw [← hw1]
  clear hw1
  refine HK.out.mono ?_
  rintro e w2 ⟨rfl, rfl⟩
  clear HK
  go_wp2_with fail
  refine HS.out.mono ?_
  rintro e w2 ⟨va, vn, vc, K, rfl, g1, g2, g3, g4, g5, g6⟩
  have HD : Hid (Calls Tryz.prog 222 #[.slice va vn vc, .func (.func 223) #[] #[.pointer (some ⟨w.heap.size, 0, none⟩)]] w2 fun e w' => ∃ ua un uc, e = .returned (.slice ua un uc) ∧ w'.ownsRow w1.heap.size 9 1 (.slice ua un uc) (K.filter fun x => (st x).alive).length (strs (K.filter fun x => (st x).alive)) ∧ w2.grownBy w' (Value.slice va vn vc).ownBlock) :=
    del206_any (HT.out.below g6 (Nat.le_refl _)) (Nat.lt_of_lt_of_le hs1 g6.size) ((g6.block _ hs1).trans HK1.out) g1 g5 (by omega)
  have HBW : Hid (∀ w', w2.grownBy w' (Value.slice va vn vc).ownBlock → Below w.heap.size w w') := fun w' hg => (hb1.trans (g6.mono (Nat.le_of_lt hs1))).grown hg (by have := g6.size; omega) (fun j hj => by have := (g1.lt j hj).1; omega)
  clear HS g1 HT g5
  go_wp2_with fail
  refine HD.out.mono ?_
  rintro e w3 ⟨ua, un, uc, rfl, k1, k2⟩
  clear HD
  go_wp2
  go_ret
  refine ⟨_, K.filter fun x => (st x).alive, rfl, ownsRow_mono k1 (by omega), g2.filter _, fun x => ?_, Nat.le_trans (List.length_filter_le _ _) g4, HBW.out _ k2⟩
  rw [List.mem_filter]
  constructor
  · exact fun hx => hx.2
  · intro hx
    refine ⟨Classical.byContradiction fun hn => ?_, hx⟩
    rw [g3 x hn] at hx
    cases hx
end Go.Proofs.YtgdfipmdmgkidaaGreatDoor
