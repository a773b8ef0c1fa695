/- The contract of record, of all names. -/
import Derived.Test.YtgdfipmdmgkidaaGreatDoorPstand
import Derived.Test.YtgdfipmdmgkidaaGreatDoorUrvs
import Derived.Deep.CutRange
import Derived.Test.YtgdfipmdmgkidaaGreatDoorPgiven
import Derived.WideKeyEntry
namespace Go.Proofs.YtgdfipmdmgkidaaGreatDoor
open Go.RowKit

theorem Tryz.info149 : (Tryz.prog.info? 149).map (fun i => (i.zero, i.size, i.bytes)) = some (some (.agg #[.int .u8 0, .int .u8 0, .int .u8 0, .int .u8 0, .slice none 0 0]), 5, 32) := by kernel_rfl

structure RecS (pb rg gb N M : Nat) (i : Pid) (pv cv : Value) (w' : World) : Prop where
  g : w'.cell? ⟨pb, 1, none⟩ = some (.map (some gb))
  r : w'.cell? ⟨rg, 0, none⟩ = some pv
  ia : w'.cell? ⟨N, 0, none⟩ = some (.int .u8 i.a)
  ib : w'.cell? ⟨N, 1, none⟩ = some (.int .u8 i.b)
  ic : w'.cell? ⟨N, 2, none⟩ = some (.int .u8 i.c)
  id : w'.cell? ⟨N, 3, none⟩ = some (.int .u8 i.d)
  pa : w'.cell? ⟨M, 0, none⟩ = some (.int .u8 i.a)
  pb : w'.cell? ⟨M, 1, none⟩ = some (.int .u8 i.b)
  pc : w'.cell? ⟨M, 2, none⟩ = some (.int .u8 i.c)
  pd : w'.cell? ⟨M, 3, none⟩ = some (.int .u8 i.d)
  pe : w'.cell? ⟨M, 4, none⟩ = some cv
theorem RecS.of {w : World} {B pb rg cap gb : Nat} {pv : Value} {Ps : List PM} {fb fn : Nat} {f : ByteArray → Option ByteArray} {G : List Pid} {N M : Nat} {i : Pid} {cv : Value} (h : OneAt w B pb rg cap gb pv Ps fb fn f G) (h1 : w.heap[N]? = some (.cells #[.int .u8 i.a, .int .u8 i.b, .int .u8 i.c, .int .u8 i.d] 113 (0, 0))) (h2 : w.heap[M]? = some (.cells #[.int .u8 i.a, .int .u8 i.b, .int .u8 i.c, .int .u8 i.d, cv] 149 (0, 0))) : RecS pb rg gb N M i pv cv w := by
  obtain ⟨a0, a1, a2, a3⟩ := cells4_at h1
  obtain ⟨b0, b1, b2, b3, b4⟩ := cells5_at h2
  exact ⟨h.c1, h.r0, a0, a1, a2, a3, b0, b1, b2, b3, b4⟩

end Go.Proofs.YtgdfipmdmgkidaaGreatDoor

/- The heap of patches in memory: Push and Pop of *least. -/
namespace Go.Proofs.YtgdfipmdmgkidaaGreatDoor
open Go.RowKit

/-- A heap of patches behind the pointer to the block hb. -/
structure LeastAt (w : World) (B hb : Nat) (v : Value) (L : List PM) : Prop where
  lo : B ≤ hb
  blk : w.heap[hb]? = some (.cells #[v] 165 (0, 0))
  own : w.ownsRow B 149 5 v L.length (pmCells L)
/-- What a method of the heap may change: its own block, its row, new blocks. -/
structure LStep (w w' : World) (hb : Nat) (v v' : Value) : Prop where
  os : w'.os = w.os
  tape : w'.tape = w.tape
  output : w'.output = w.output
  size : w.heap.size ≤ w'.heap.size
  keep : ∀ k, k < w.heap.size → k ≠ hb → v.ownBlock ≠ some k → w'.heap[k]? = w.heap[k]?
  own : ∀ k, v'.ownBlock = some k → v.ownBlock = some k ∨ w.heap.size ≤ k
theorem LStep.refl (w : World) (hb : Nat) (v : Value) : LStep w w hb v v := ⟨rfl, rfl, rfl, Nat.le_refl _, fun _ _ _ _ => rfl, fun _ h => .inl h⟩
theorem LStep.trans {a b c : World} {hb : Nat} {v v' v'' : Value} (h : LStep a b hb v v') (k : LStep b c hb v' v'') : LStep a c hb v v'' := by
  refine ⟨k.os.trans h.os, k.tape.trans h.tape, k.output.trans h.output, Nat.le_trans h.size k.size, fun j j1 j2 j3 => (k.keep j (Nat.lt_of_lt_of_le j1 h.size) j2 (fun e => ?_)).trans (h.keep j j1 j2 j3), fun j hj => ?_⟩
  · rcases h.own j e with q | q
    · exact j3 q
    · omega
  · rcases k.own j hj with q | q
    · exact h.own j q
    · exact .inr (Nat.le_trans h.size q)
theorem LStep.of_below {a b : World} (h : Below a.heap.size a b) (hb : Nat) (v : Value) : LStep a b hb v v := ⟨h.os, h.tape, h.output, h.size, fun k k1 _ _ => h.block k k1, fun _ q => .inl q⟩
theorem LStep.below {a b : World} {hb B : Nat} {v v' : Value} (h : LStep a b hb v v') (hB : B ≤ hb) (hBa : B ≤ a.heap.size) (hv : ∀ k, v.ownBlock = some k → B ≤ k) : Below B a b :=
  ⟨h.os, h.tape, h.output, h.size, fun k hk => h.keep k (by omega) (by omega) (fun e => by have := hv k e; omega)⟩
section
variable {w : World} {B hb : Nat} {v : Value} {L : List PM}
theorem LeastAt.lt (h : LeastAt w B hb v L) : hb < w.heap.size := (Array.getElem?_eq_some_iff.1 h.blk).1
theorem LeastAt.same {w' : World} (h : LeastAt w B hb v L) (hk : ∀ k, k = hb ∨ v.ownBlock = some k → w'.heap[k]? = w.heap[k]?) : LeastAt w' B hb v L := by
  refine ⟨h.lo, (hk hb (.inl rfl)).trans h.blk, h.own.1, ?_⟩
  rcases h.own.2 with q | ⟨g, cap, cur, rfl, hbb, hgg, rest⟩
  · exact .inl q
  · exact .inr ⟨g, cap, cur, rfl, hbb, (hk g (.inr rfl)).trans hgg, rest⟩
theorem LeastAt.below {w' : World} (h : LeastAt w B hb v L) (hb' : Below w.heap.size w w') : LeastAt w' B hb v L := h.same fun k hk => by
  rcases hk with rfl | hk
  · exact hb'.block _ h.lt
  · exact hb'.block _ (h.own.lt k hk).2
theorem LeastAt.cell (h : LeastAt w B hb v L) : w.cell? ⟨hb, 0, none⟩ = some v := by simp [World.cell?, h.blk]
theorem LeastAt.free (h : LeastAt w B hb v L) : w.frozen? ⟨hb, 0, none⟩ = false := free3 h.blk 0
theorem LeastAt.ne (h : LeastAt w B hb v L) : v.ownBlock ≠ some hb := fun e => by
  obtain ⟨A, fz, hq⟩ := own_TB h.own e
  rw [h.blk] at hq
  cases hq
theorem LeastAt.above (h : LeastAt w B hb v L) : ∀ k, v.ownBlock = some k → B ≤ k := fun k hk => (h.own.lt k hk).1
end
theorem row_cap {w : World} {B n size cap : Nat} {e : TypeId} {ao : Option Addr} {xs : List Value} (h : w.ownsRow B e size (.slice ao n cap) n xs) : n ≤ cap := by
  rcases h.2 with ⟨h', h0⟩ | ⟨g', cap', cur, h', hb, hg, hnc, _⟩
  · omega
  · cases h'
    exact hnc
theorem assert149 (x : Value) (w : World) : (Instr.typeAssert (.iface 149 x) 20 149 false).run Tryz.prog w = .ok x w := by kernel_rfl
/-- What Push reads. -/
structure PushS (hb : Nat) (v : Value) (w : World) : Prop where
  c : w.cell? ⟨hb, 0, none⟩ = some v
  z : w.frozen? ⟨hb, 0, none⟩ = false
theorem LeastAt.pushS {w : World} {B hb : Nat} {v : Value} {L : List PM} (h : LeastAt w B hb v L) : PushS hb v w := ⟨h.cell, h.free⟩
set_option maxRecDepth 100000 in
set_option maxHeartbeats 3200000 in
theorem LeastAt.push {w : World} {B hb : Nat} {v : Value} {L : List PM} (h : LeastAt w B hb v L) (P : PM) (hp : ∃ a n c, P.cv = .slice a n c) (hl : L.length ≤ 1000) :
    Calls Tryz.prog 331 #[.pointer (some ⟨hb, 0, none⟩), .iface 149 (pmV P)] w fun e w' => e = .returned (.tuple #[]) ∧ ∃ v', LeastAt w' B hb v' (L ++ [P]) ∧ LStep w w' hb v v' := by
  obtain ⟨i0, hi0, hz0, hz1, hz2⟩ := info_parts Tryz.info149
  obtain ⟨ca, cn, cc, hcv⟩ := hp
  obtain ⟨ao, cap, rfl⟩ := own_shape h.own
  have HH := hid h
  have HCV := hid hcv
  have HS0 : Hid (PushS hb (.slice ao L.length cap) w.drew) := (h.below (Below.refl _ _).drew).pushS
  have HSA : Hid (∀ o, PushS hb (.slice ao L.length cap) (w.alloc o).drew) := fun o => (h.below ((Below.refl _ _).alloc (Nat.le_refl _) o).drew).pushS
  have hlo := h.lo
  have hlt := h.lt
  unfold pmV
  rw [hcv]
  have hl1 : ((L ++ [P]).length) = L.length + 1 := by simp
  have HPC : Hid (pmCells (L ++ [P]) = pmCells L ++ [.int .u8 P.id.a, .int .u8 P.id.b, .int .u8 P.id.c, .int .u8 P.id.d, .slice ca cn cc]) := by
    show _ = _
    rw [pm_app, ← hcv]
    rfl
  obtain ⟨n, hn⟩ : ∃ n, L.length = n := ⟨_, rfl⟩
  have HN := hid hn
  have HL1 : Hid ((L ++ [P]).length = n + 1) := by show _ = _; omega
  rw [hn] at HH HS0 HSA hl ⊢
  clear h hcv hn hl1
  have a149 := assert149
  go_enter Tryz.func331, Tryz.ntmps331
  go_wp2_with fail
  refine wp_region_Z (PushS hb (.slice ao n cap)) 9 (by kernel_rfl) ?_
  refine zt 0 (v := ?a0) HS0.out (fun w0 hS0 => ?hy) ?_
  case hy => obtain ⟨s1, s2⟩ := hS0; go_simp; with_reducible rfl
  simp only [Act.put, List.setIfInBounds_toArray]
  refine zt 1 (v := ?a1) HS0.out (fun w0 hS0 => ?hy) ?_
  case hy => obtain ⟨s1, s2⟩ := hS0; go_simp; with_reducible rfl
  simp only [Act.put]
  refine zt 2 (v := ?a2) HS0.out (fun w0 hS0 => ?hy) ?_
  case hy => obtain ⟨s1, s2⟩ := hS0; go_simp; with_reducible rfl
  simp only [Act.put]
  refine zt 3 (v := ?a3) HS0.out (fun w0 hS0 => ?hy) ?_
  case hy => obtain ⟨s1, s2⟩ := hS0; go_simp; with_reducible rfl
  simp only [Act.put]
  refine zt 4 (v := ?a4) HS0.out (fun w0 hS0 => ?hy) ?_
  case hy => obtain ⟨s1, s2⟩ := hS0; go_simp; with_reducible rfl
  simp only [Act.put]
  refine zt 5 (v := ?a5) HS0.out (fun w0 hS0 => ?hy) ?_
  case hy => obtain ⟨s1, s2⟩ := hS0; go_simp; with_reducible rfl
  simp only [Act.put]
  refine wpZ_one 6 _ rfl (by kernel_rfl) (fun KK hK => ?_)
  go_simp
  refine hK.out _ _ (fun _ => HSA.out _) ?_
  clear hK
  refine wpZ_one 7 _ rfl (by kernel_rfl) (fun KK hK => ?_)
  refine step_append_lies _ (by rfl) _ _ _ (by rfl) B 149 i0 _ 5 32 Tryz.underlying165 hi0 hz0 hz1 hz2 rfl (by omega) (.slice ao n cap) n (pmCells L) (by rfl) (by have hq := HH.out.own; rw [HN.out] at hq; exact (hq.alloc _).drew) ⟨w.heap.size, 0, none⟩ 1 1 [.int .u8 P.id.a, .int .u8 P.id.b, .int .u8 P.id.c, .int .u8 P.id.d, .slice ca cn cc] (by rfl) (by rfl) (World.news_of_block (cs := #[.int .u8 P.id.a, .int .u8 P.id.b, .int .u8 P.id.c, .int .u8 P.id.d, .slice ca cn cc]) (t := 149) (fr := (0, 0)) (heap_alloc_new w.drew _)) (by simp [Value.oneCell']) (by omega) (by unfold maxLen; omega) (by omega) (by simp; omega) (w.heap.size + 1) (by simp) ?_
  intro g cp wa hownA hgrA hatA hltA
  have hbA : Below w.heap.size w (w.drew.alloc (.cells #[.int .u8 P.id.a, .int .u8 P.id.b, .int .u8 P.id.c, .int .u8 P.id.d, .slice ca cn cc] 149)) := ((Below.refl _ _).drew).alloc (Nat.le_refl _) _
  have hat0 : wa.heap[hb]? = some (.cells #[.slice ao n cap] 165 (0, 0)) := (hgrA.block hb (by simp; omega) (fun e => HH.out.ne e.symm)).trans ((hbA.block hb hlt).trans HH.out.blk)
  have HSW : Hid (PushS hb (.slice ao n cap) wa) := ⟨by simp [World.cell?, hat0], free3 hat0 0⟩
  refine hK.out _ _ (fun _ => HSW.out) ?_
  clear hK
  simp only [Act.put, List.setIfInBounds_toArray]
  refine zt 8 (v := ?b8) HSW.out (fun w0 hS0 => ?hy) ?_
  case hy => obtain ⟨s1, s2⟩ := hS0; go_simp; with_reducible rfl
  simp only [Act.put]
  have r0 := HSW.out.c
  have z0 := HSW.out.z
  refine wpZ_one 9 _ rfl (by kernel_rfl) (fun KK hK => ?_)
  go_simp
  refine hK.out _ _ (fun h => absurd rfl h) ?_
  clear hK
  refine wpZ_done (by kernel_rfl) ?_ _
  refine bodyPost_end (results_none rfl _ _ _) rfl ?_
  have hsz : w.heap.size + 1 ≤ wa.heap.size := by have := hgrA.size; simpa using this
  have hne2 : g ≠ hb := fun e => by
    rcases hatA with q | q
    · exact HH.out.ne (by rw [q, e])
    · omega
  refine ⟨rfl, .slice (some ⟨g, 0, none⟩) (n + 1) cp, ⟨hlo, heap_setCell_box_a _ hat0, ?_⟩, hgrA.os, hgrA.tape, hgrA.output, by rw [World.size_setCell]; omega, fun k k1 k2 k3 => ?_, fun k hk => ?_⟩
  · rw [HL1.out, HPC.out]
    exact hownA.kept ⟨rfl, rfl, rfl, by simp [World.setCell], fun k _ hk => Below.heap_setCell _ _ _ _ (fun e => hk (by rw [e]))⟩ (.inr (by simp [Value.ownBlock]; exact hne2))
  · exact (Below.heap_setCell _ _ _ _ k2).trans ((hgrA.block k (by simp; omega) (fun e => k3 e.symm)).trans (hbA.block k k1))
  · have e : g = k := by simpa [Value.ownBlock] using hk
    subst e
    rcases hatA with q | q
    · exact .inl q
    · exact .inr (by omega)

set_option maxRecDepth 100000 in
set_option maxHeartbeats 3200000 in
theorem LeastAt.pop {w : World} {B hb : Nat} {v : Value} {M : List PM} {P : PM} (h : LeastAt w B hb v (M ++ [P])) (hp : ∃ a n c, P.cv = .slice a n c) (hl : M.length ≤ 1000) :
    Calls Tryz.prog 330 #[.pointer (some ⟨hb, 0, none⟩)] w fun e w' => e = .returned (.iface 149 (pmV P)) ∧ ∃ v', LeastAt w' B hb v' M ∧ LStep w w' hb v v' := by
  obtain ⟨ca, cn, cc, hcv⟩ := hp
  obtain ⟨ao, cap, rfl⟩ := own_shape h.own
  obtain ⟨g, rfl, hg1, hg2⟩ := own_at h.own (by simp)
  obtain ⟨p0, p1, p2, p3, p4⟩ := pm_at (k := M.length) (s := P) h.own (by simp)
  rw [hcv] at p4
  have hc := h.cell
  have hz := h.free
  have hlt := h.lt
  have hgne : g ≠ hb := fun e => h.ne (by simp [Value.ownBlock, e])
  have hcap := row_cap h.own
  have ho := own_cut h.own (i := M.length) (by simp)
  rw [pm_take _ _ (by simp), List.take_left] at ho
  have hl1 : (M ++ [P]).length = M.length + 1 := by simp
  rw [hl1] at hc hcap
  have HH := hid h
  have HO := hid ho
  have hlo := h.lo
  unfold pmV
  rw [hcv]
  clear h ho hcv
  obtain ⟨m, hm⟩ : ∃ m, M.length = m := ⟨_, rfl⟩
  have HM := hid hm
  rw [hm] at hc hcap p0 p1 p2 p3 p4 HO hl
  clear hm hl1
  have q1 : (m : Int) < (m : Int) + 1 := by omega
  have q2 : (m : Int) ≤ (cap : Int) := by omega
  go_enter Tryz.func330, Tryz.ntmps330
  go_wp2
  go_ret
  have hbx : ∀ u : World, ∀ o : Obj, ∀ k, k < u.heap.size → (u.alloc o).heap[k]? = u.heap[k]? := fun u o k hk => Below.heap_alloc u o k hk
  have hst : ∀ k, k ≠ hb → (w.setCell ⟨hb, 0, none⟩ (.slice (some ⟨g, 0, none⟩) m cap)).heap[k]? = w.heap[k]? := fun k hk => Below.heap_setCell _ _ _ _ hk
  refine ⟨rfl, .slice (some ⟨g, 0, none⟩) m cap, ⟨hlo, ?_, ?_⟩, rfl, rfl, rfl, by simp [World.setCell], fun k k1 k2 _ => ?_, fun k hk => .inl hk⟩
  · rw [hbx _ _ _ (by simpa [World.setCell] using hlt)]
    exact heap_setCell_box_a _ HH.out.blk
  · rw [HM.out]
    refine (HO.out.kept (w' := w.setCell ⟨hb, 0, none⟩ (.slice (some ⟨g, 0, none⟩) m cap)) (row := some hb) ⟨rfl, rfl, rfl, by simp [World.setCell], fun k _ hk => hst k (fun e => hk (by rw [e]))⟩ (.inr (by simp [Value.ownBlock]; exact hgne))).alloc _
  · rw [hbx _ _ _ (by simpa [World.setCell] using k1)]
    exact hst k k2
end Go.Proofs.YtgdfipmdmgkidaaGreatDoor

/- The heap of patches: up and down. -/
namespace Go.Proofs.YtgdfipmdmgkidaaGreatDoor
open Go.RowKit

/-- A patch as the heap wants it. -/
structure PmOK (P : PM) : Prop where
  id : IdOK P.id
  cv : ∃ a n c, P.cv = .slice a n c
section
variable {w : World} {B hb : Nat} {v : Value} {L : List PM}
theorem LeastAt.form (h : LeastAt w B hb v L) (hl : 0 < L.length) : ∃ g cap, v = .slice (some ⟨g, 0, none⟩) L.length cap := by
  obtain ⟨ao, cap, rfl⟩ := own_shape h.own
  obtain ⟨g, rfl, _⟩ := own_at h.own hl
  exact ⟨g, cap, rfl⟩
theorem LeastAt.len (h : LeastAt w B hb v L) : Calls Tryz.prog 119 #[v] w fun e w' => e = .returned (.int .i64 L.length) ∧ w' = w := by
  obtain ⟨ao, cap, rfl⟩ := own_shape h.own
  exact len119_any ao L.length cap w
theorem LeastAt.less (h : LeastAt w B hb v L) (ok : ∀ P ∈ L, PmOK P) {i j : Nat} (hi : i < L.length) (hj : j < L.length) :
    Calls Tryz.prog 328 #[v, .int .i64 i, .int .i64 j] w fun e w' => e = .returned (.bool (decide (kAt L i < kAt L j))) ∧ Below w.heap.size w w' := by
  obtain ⟨g, cap, rfl⟩ := h.form (by omega)
  have hP := List.getElem?_eq_getElem hi
  have hQ := List.getElem?_eq_getElem hj
  rw [kAt_some hP, kAt_some hQ]
  exact less328_any L B g cap i j _ _ w h.own hP hQ (ok _ (List.getElem_mem hi)).id (ok _ (List.getElem_mem hj)).id
theorem LeastAt.swap (h : LeastAt w B hb v L) (ok : ∀ P ∈ L, PmOK P) {i j : Nat} {P Q : PM} (hP : L[i]? = some P) (hQ : L[j]? = some Q) :
    Calls Tryz.prog 329 #[v, .int .i64 i, .int .i64 j] w fun e w' => e = .returned (.tuple #[]) ∧ LeastAt w' B hb v (exch L i j P Q) ∧ LStep w w' hb v v := by
  have hl := (List.getElem?_eq_some_iff.1 hP).1
  obtain ⟨g, cap, rfl⟩ := h.form (by omega)
  refine (swap329_any L B g cap i j P Q w h.own hP hQ (ok _ (List.mem_of_getElem? hP)).cv (ok _ (List.mem_of_getElem? hQ)).cv).mono ?_
  rintro e w' ⟨rfl, ho, hg⟩
  have hne : hb ≠ g := fun e => h.ne (by simp [Value.ownBlock, e])
  refine ⟨rfl, ⟨h.lo, (hg.block hb h.lt (by simp; exact hne)).trans h.blk, by rw [exch_len]; exact ho⟩, hg.os, hg.tape, hg.output, hg.size, fun k k1 _ k3 => hg.block k k1 (fun e => k3 e.symm), fun k hk => .inl hk⟩
end
theorem up_half (m : Nat) : Int.tdiv (m : Int) 2 = ((m / 2 : Nat) : Int) := rfl
theorem ok_perm {L L' : List PM} (h : ∀ P ∈ L, PmOK P) (hp : L'.Perm L) : ∀ P ∈ L', PmOK P := fun P hP => h P (hp.mem_iff.1 hP)
theorem recv167 (hb : Nat) (s : String) (w : World) : (receiverAt 167 (.val (.pointer (some ⟨hb, 0, none⟩))) false (some s)).run Tryz.prog w = (loadVar 165 ⟨hb, 0, none⟩).run Tryz.prog w := by kernel_rfl
theorem load165 (hb : Nat) (v : Value) (w : World) (h : w.cell? ⟨hb, 0, none⟩ = some v) : (loadVar 165 ⟨hb, 0, none⟩).run Tryz.prog w = .ok v w := by
  have e : (isAgg 165).run Tryz.prog w = .ok false w := by kernel_rfl
  unfold loadVar
  simp [go_sem, e, h]
theorem method167 (name : String) (f : FuncId) (hm : (Tryz.t167.methods.find? (·.name == name)).map (fun m => (m.path, m.func)) = some (#[], some (f, false))) (hb : Nat) (v : Value) (w : World) (h : w.cell? ⟨hb, 0, none⟩ = some v) : (method 512 167 (.pointer (some ⟨hb, 0, none⟩)) name).run Tryz.prog w = .ok (f, v) w := by
  obtain ⟨m, h2, hm⟩ := Option.map_eq_some_iff.1 hm
  simp only [Prod.mk.injEq] at hm
  have hti : (typeInfo 167).run Tryz.prog w = .ok Tryz.t167 w := by simp
  unfold method
  simp only [Sem.run_bind, hti, Result.andThen_ok, h2, hm.1, follow, Sem.run_pure, hm.2]
  simp [recv167, load165 hb v w h]
theorem meth_less {hb : Nat} {v : Value} {w : World} (h : w.cell? ⟨hb, 0, none⟩ = some v) : (method 512 167 (.pointer (some ⟨hb, 0, none⟩)) "Less").run Tryz.prog w = .ok (328, v) w := method167 "Less" 328 (by kernel_rfl) hb v w h
theorem meth_swap {hb : Nat} {v : Value} {w : World} (h : w.cell? ⟨hb, 0, none⟩ = some v) : (method 512 167 (.pointer (some ⟨hb, 0, none⟩)) "Swap").run Tryz.prog w = .ok (329, v) w := method167 "Swap" 329 (by kernel_rfl) hb v w h
theorem meth_len {hb : Nat} {v : Value} {w : World} (h : w.cell? ⟨hb, 0, none⟩ = some v) : (method 512 167 (.pointer (some ⟨hb, 0, none⟩)) "Len").run Tryz.prog w = .ok (119, v) w := method167 "Len" 119 (by kernel_rfl) hb v w h
theorem meth_push (a : Addr) (w : World) : (method 512 167 (.pointer (some a)) "Push").run Tryz.prog w = .ok (331, .pointer (some a)) w := by kernel_rfl
theorem meth_pop (a : Addr) (w : World) : (method 512 167 (.pointer (some a)) "Pop").run Tryz.prog w = .ok (330, .pointer (some a)) w := by kernel_rfl
set_option maxRecDepth 100000 in
set_option maxHeartbeats 3200000 in
theorem up182_any {w : World} {B hb : Nat} {v : Value} {L : List PM} {j : Nat} (h : LeastAt w B hb v L) (hu : UpI L j) (ok : ∀ P ∈ L, PmOK P) (hl : L.length ≤ 1000) :
    Calls Tryz.prog 182 #[.iface 167 (.pointer (some ⟨hb, 0, none⟩)), .int .i64 j] w fun e w' => e = .returned (.tuple #[]) ∧ ∃ L', L'.Perm L ∧ HeapN L' L'.length ∧ LeastAt w' B hb v L' ∧ LStep w w' hb v v := by
  have HH := hid h
  have HU := hid hu
  have HOK := hid ok
  have hj1 := hu.lt
  clear h hu ok
  go_enter Tryz.func182, Tryz.ntmps182
  go_wp2_with fail
  go_loopw [1] (fun x wr => ∃ (k : Nat) (M : List PM), k < L.length ∧ x = .int .i64 k ∧ Hid (UpI M k) ∧ Hid (M.Perm L) ∧ Hid (LeastAt wr B hb v M) ∧ Hid (LStep w wr hb v v)) (fun x _ => (intOf x).toNat)
  case atStart => exact ⟨j, L, hj1, rfl, HU, List.Perm.refl _, HH, LStep.refl _ _ _⟩
  case round =>
    clear HH HU hj1
    obtain ⟨k, M, hk, rfl, HU, HP, HH, HT⟩ := hrel
    have hml : M.length = L.length := HP.out.length_eq
    have hme := meth_less HH.out.cell
    cases k with
    | zero =>
      go_wp2_with fail
      refine bodyPost_end (results_none rfl _ _ _) rfl ?_
      exact ⟨rfl, M, HP.out, HU.out.end_ (.inl rfl), HH.out, HT.out⟩
    | succ m =>
      obtain ⟨p, hp⟩ : ∃ p : Nat, (m : Int) / 2 = (p : Int) := ⟨m / 2, rfl⟩
      have hp2 : p = m / 2 := by omega
      have e2 : Int.tdiv (m : Int) 2 = (p : Int) := by rw [up_half, hp2]
      have hne : ¬ ((p : Int) = (m : Int) + 1) := by omega
      have hpl : p < M.length := by omega
      have hml1 : m + 1 < M.length := by omega
      have HPE : Hid (p = (m + 1 - 1) / 2) := by show _ = _; omega
      have HOK2 := hid (ok_perm HOK.out HP.out)
      have hls := HH.out.less HOK2.out hml1 hpl
      by_cases hc : kAt M (m + 1) < kAt M p
      · rw [decide_eq_true hc] at hls
        have HLS := hid hls
        have HC := hid hc
        clear hls hc hp2
        go_wp2_with fail
        refine HLS.out.mono ?_
        rintro e w5 ⟨rfl, hb5⟩
        clear HLS hme
        have H5 := hid (HH.out.below hb5)
        have hme5 := meth_swap H5.out.cell
        have hP := List.getElem?_eq_getElem hpl
        have hQ := List.getElem?_eq_getElem hml1
        obtain ⟨P, hPe⟩ : ∃ P, M[p] = P := ⟨_, rfl⟩
        obtain ⟨Q, hQe⟩ : ∃ Q, M[m + 1] = Q := ⟨_, rfl⟩
        rw [hPe] at hP
        rw [hQe] at hQ
        have HPP := hid hP
        have HQQ := hid hQ
        have HSW := hid (H5.out.swap HOK2.out hP hQ)
        have HT5 : Hid (LStep w w5 hb v v) := HT.out.trans (LStep.of_below hb5 hb v)
        clear hP hQ hPe hQe hb5
        go_wp2_with fail
        refine HSW.out.mono ?_
        rintro e w6 ⟨rfl, h6, hs6⟩
        clear HSW hme5
        have HL6 := hid h6
        have HT6 := hid (HT5.out.trans hs6)
        clear h6 hs6
        go_wp2
        go_roundw
        case rel =>
          refine ⟨p, exch M p (m + 1) P Q, by omega, by go_num, ?_, (exch_perm HPP.out HQQ.out).trans HP.out, HL6, HT6⟩
          have k1 := HPP.out
          have k2 := HC.out
          have k3 := HPE.out
          show UpI _ _
          rw [k3] at k1 k2 ⊢
          exact HU.out.step (by omega) k1 HQQ.out k2
        case measure => simp [intOf]; omega
      · rw [decide_eq_false hc] at hls
        have HLS := hid hls
        have HC := hid hc
        clear hls hc hp2
        go_wp2_with fail
        refine HLS.out.mono ?_
        rintro e w5 ⟨rfl, hb5⟩
        clear HLS hme
        go_wp2
        refine bodyPost_end (results_none rfl _ _ _) rfl ?_
        refine ⟨rfl, M, HP.out, HU.out.end_ (.inr ?_), HH.out.below hb5, HT.out.trans (LStep.of_below hb5 hb v)⟩
        rw [← HPE.out]
        have := HC.out
        omega
end Go.Proofs.YtgdfipmdmgkidaaGreatDoor

/- The heap of patches: down; heap.Push and heap.Pop. -/
namespace Go.Proofs.YtgdfipmdmgkidaaGreatDoor
open Go.RowKit

set_option maxRecDepth 100000 in
set_option maxHeartbeats 6400000 in
theorem down183_any {w : World} {B hb : Nat} {v : Value} {L : List PM} {n : Nat} (h : LeastAt w B hb v L) (hd : DownI L n 0) (ok : ∀ P ∈ L, PmOK P) (hl : L.length ≤ 1000) :
    Calls Tryz.prog 183 #[.iface 167 (.pointer (some ⟨hb, 0, none⟩)), .int .i64 0, .int .i64 n] w fun e w' => ∃ b, e = .returned (.bool b) ∧ ∃ L', L'.Perm L ∧ HeapN L' n ∧ (∀ k, n ≤ k → L'[k]? = L[k]?) ∧ LeastAt w' B hb v L' ∧ LStep w w' hb v v := by
  have HH := hid h
  have HD := hid hd
  have HOK := hid ok
  have hnl := hd.le
  clear h hd ok
  go_enter Tryz.func183, Tryz.ntmps183
  go_wp2_with fail
  go_loopw [7] (fun x wr => ∃ (i : Nat) (M : List PM), i ≤ 1000 ∧ x = .int .i64 i ∧ Hid (DownI M n i) ∧ Hid (M.Perm L) ∧ Hid (∀ k, n ≤ k → M[k]? = L[k]?) ∧ Hid (LeastAt wr B hb v M) ∧ Hid (LStep w wr hb v v)) (fun x _ => 1001 - (intOf x).toNat)
  case atStart => exact ⟨0, L, by omega, rfl, HD, List.Perm.refl _, fun _ _ => rfl, HH, LStep.refl _ _ _⟩
  case round =>
    clear HH HD
    obtain ⟨i, M, hi, rfl, HD, HP, HF, HH, HT⟩ := hrel
    have hml : M.length = L.length := HP.out.length_eq
    have HOK2 := hid (ok_perm HOK.out HP.out)
    have hme := meth_less HH.out.cell
    by_cases h1 : n ≤ 2 * i + 1
    · have g1 : (n : Int) ≤ 2 * (i : Int) + 1 := by omega
      go_wp2
      go_ret
      exact ⟨_, rfl, M, HP.out, HD.out.end_ (fun c c0 cn ci => by omega), HF.out, HH.out, HT.out⟩
    · have g1 : ¬ (n : Int) ≤ 2 * (i : Int) + 1 := by omega
      have g2 : ¬ 2 * (i : Int) + 1 < 0 := by omega
      go_upto_region 6 with fail
      go_cut [33] from 12 to 44 (fun t wc => ∃ b : Bool, t = .bool b ∧ Hid (2 * i + 2 < n → b = decide (kAt M (2 * i + 2) < kAt M (2 * i + 1))) ∧ Hid (b = true → 2 * i + 2 < n) ∧ Below wr.heap.size wr wc)
      case first =>
        by_cases h2 : 2 * i + 2 < n
        · have hls := HH.out.less HOK2.out (i := 2 * i + 2) (j := 2 * i + 1) (by omega) (by omega)
          have g3 : 2 * (i : Int) + 1 + 1 < (n : Int) := by omega
          obtain ⟨b, hb⟩ : ∃ b, decide (kAt M (2 * i + 2) < kAt M (2 * i + 1)) = b := ⟨_, rfl⟩
          rw [hb] at hls
          have HLS := hid hls
          have HC := hid hb
          clear hls hb
          go_wp2_with fail
          refine HLS.out.mono ?_
          rintro e w5 ⟨rfl, hb5⟩
          clear HLS hme
          go_wp2
          go_meet
          case rel => exact ⟨b, rfl, fun _ => HC.out.symm, fun _ => h2, hb5⟩
        · have g3 : ¬ 2 * (i : Int) + 1 + 1 < (n : Int) := by omega
          go_wp2
          go_meet
          case rel => exact ⟨false, rfl, fun h => absurd h h2, (fun h => absurd h (by decide)), Below.refl _ _⟩
      case rest =>
       obtain ⟨b, rfl, HB1, HB2, hb5⟩ := hcut
       obtain ⟨w5, hw5⟩ : ∃ w5, w5 = wc := ⟨_, rfl⟩
       subst hw5
       go_upto_if 33 with fail
       go_cut [9] from 12 to 44 (fun x wc => ∃ j : Nat, x = .int .i64 j ∧ i < j ∧ j < n ∧ (j - 1) / 2 = i ∧ Hid (∀ c, 0 < c → c < n → (c - 1) / 2 = i → kAt M j ≤ kAt M c) ∧ Below wr.heap.size wr wc)
       case first =>
        cases b with
        | true =>
          have h2 := HB2.out rfl
          have h3 := of_decide_eq_true (HB1.out h2).symm
          have HC := hid h3
          clear h3
          go_wp2
          go_meet
          case rel =>
            refine ⟨2 * i + 2, by go_num, by omega, h2, by omega, fun c c0 cn ci => ?_, hb5⟩
            have := HC.out
            rcases (show c = 2 * i + 1 ∨ c = 2 * i + 2 by omega) with rfl | rfl <;> omega
        | false =>
          go_wp2
          go_meet
          case rel =>
            refine ⟨2 * i + 1, by go_num, by omega, by omega, by omega, fun c c0 cn ci => ?_, hb5⟩
            rcases (show c = 2 * i + 1 ∨ c = 2 * i + 2 by omega) with rfl | rfl
            · exact Int.le_refl _
            · have h3 := of_decide_eq_false (HB1.out cn).symm
              omega
       case rest =>
        obtain ⟨j, rfl, hij, hjn, hji, HM, hbc⟩ := hcut
        have H5 := hid (HH.out.below hbc)
        have hme5 := meth_less H5.out.cell
        have hls := H5.out.less HOK2.out (i := j) (j := i) (by omega) (by omega)
        have HT5 : Hid (LStep w wc hb v v) := HT.out.trans (LStep.of_below hbc hb v)
        have hjl : j < M.length := by omega
        have hil : i < M.length := by omega
        clear hme HH HT hbc hb5 HB1 HB2
        by_cases hc : kAt M j < kAt M i
        · rw [decide_eq_true hc] at hls
          have HLS := hid hls
          have HC := hid hc
          clear hls hc
          go_wp2_with fail
          refine HLS.out.mono ?_
          rintro e w6 ⟨rfl, hb6⟩
          clear HLS hme5
          have H6 := hid (H5.out.below hb6)
          have hme6 := meth_swap H6.out.cell
          have hP := List.getElem?_eq_getElem hil
          have hQ := List.getElem?_eq_getElem hjl
          obtain ⟨P, hPe⟩ : ∃ P, M[i] = P := ⟨_, rfl⟩
          obtain ⟨Q, hQe⟩ : ∃ Q, M[j] = Q := ⟨_, rfl⟩
          rw [hPe] at hP
          rw [hQe] at hQ
          have HPP := hid hP
          have HQQ := hid hQ
          have HSW := hid (H6.out.swap HOK2.out hP hQ)
          have HT6 : Hid (LStep w w6 hb v v) := HT5.out.trans (LStep.of_below hb6 hb v)
          clear hP hQ hPe hQe hb6 H5 HT5
          go_wp2_with fail
          refine HSW.out.mono ?_
          rintro e w7 ⟨rfl, h7, hs7⟩
          clear HSW hme6
          have HL7 := hid h7
          have HT7 := hid (HT6.out.trans hs7)
          clear h7 hs7
          go_wp2
          go_roundw
          case rel =>
            refine ⟨j, exch M i j P Q, by omega, by go_num, HD.out.step (by omega) hjn hji HPP.out HQQ.out HC.out HM.out, (exch_perm HPP.out HQQ.out).trans HP.out, fun k hk => ?_, HL7, HT7⟩
            rw [exch_at HPP.out HQQ.out, if_neg (by omega), if_neg (by omega)]
            exact HF.out k hk
          case measure => simp [intOf]; omega
        · rw [decide_eq_false hc] at hls
          have HLS := hid hls
          have HC := hid hc
          clear hls hc
          go_wp2_with fail
          refine HLS.out.mono ?_
          rintro e w6 ⟨rfl, hb6⟩
          clear HLS hme5
          go_wp2
          go_ret
          refine ⟨_, rfl, M, HP.out, HD.out.end_ (fun c c0 cn ci => ?_), HF.out, H5.out.below hb6, HT5.out.trans (LStep.of_below hb6 hb v)⟩
          have h1 := HM.out c c0 cn ci
          have h2 := HC.out
          omega

set_option maxRecDepth 100000 in
set_option maxHeartbeats 3200000 in
theorem hpush118_any {w : World} {B hb : Nat} {v : Value} {L : List PM} (h : LeastAt w B hb v L) (hh : HeapN L L.length) (ok : ∀ P ∈ L, PmOK P) (hl : L.length ≤ 900) (P : PM) (hP : PmOK P) :
    Calls Tryz.prog 118 #[.iface 167 (.pointer (some ⟨hb, 0, none⟩)), .iface 149 (pmV P)] w fun e w' => e = .returned (.tuple #[]) ∧ ∃ v' L', L'.Perm (L ++ [P]) ∧ HeapN L' L'.length ∧ LeastAt w' B hb v' L' ∧ LStep w w' hb v v' := by
  have HPU : Hid (Calls Tryz.prog 331 #[.pointer (some ⟨hb, 0, none⟩), .iface 149 (pmV P)] w fun e w' => e = .returned (.tuple #[]) ∧ ∃ v', LeastAt w' B hb v' (L ++ [P]) ∧ LStep w w' hb v v') := h.push P hP.cv (by omega)
  have HU := hid (UpI.first hh P)
  have HOK : Hid (∀ R ∈ L ++ [P], PmOK R) := fun R hR => by
    rcases List.mem_append.1 hR with q | q
    · exact ok R q
    · rw [List.mem_singleton.1 q]; exact hP
  have m1 := meth_push
  obtain ⟨x, hx⟩ : ∃ x, Value.iface 149 (pmV P) = x := ⟨_, rfl⟩
  rw [hx] at HPU ⊢
  clear h hh ok hP hx
  go_enter Tryz.func118, Tryz.ntmps118
  go_wp2_with fail
  refine HPU.out.mono ?_
  rintro e w1 ⟨rfl, v1, h1, hs1⟩
  clear HPU m1
  have HH1 := hid h1
  have HT1 := hid hs1
  have m2 := meth_len h1.cell
  have hlen := h1.len
  have hl1 : ((L ++ [P]).length : Int) = (L.length : Int) + 1 := by simp
  rw [hl1] at hlen
  have HLEN := hid hlen
  have HUP : Hid (Calls Tryz.prog 182 #[.iface 167 (.pointer (some ⟨hb, 0, none⟩)), .int .i64 L.length] w1 fun e w' => e = .returned (.tuple #[]) ∧ ∃ L', L'.Perm (L ++ [P]) ∧ HeapN L' L'.length ∧ LeastAt w' B hb v1 L' ∧ LStep w1 w' hb v1 v1) := up182_any h1 HU.out HOK.out (by simp; omega)
  clear h1 hs1 hlen hl1
  go_wp2_with fail
  refine HLEN.out.mono ?_
  rintro e w2 ⟨rfl, rfl⟩
  clear HLEN m2
  go_wp2_with fail
  refine HUP.out.mono ?_
  rintro e w3 ⟨rfl, L', k1, k2, k3, k4⟩
  clear HUP
  go_wp2
  refine bodyPost_end (results_none rfl _ _ _) rfl ?_
  exact ⟨rfl, v1, L', k1, k2, k3, HT1.out.trans k4⟩

set_option maxRecDepth 100000 in
set_option maxHeartbeats 3200000 in
theorem hpop120_any {w : World} {B hb : Nat} {v : Value} {L : List PM} (h : LeastAt w B hb v L) (hh : HeapN L L.length) (ok : ∀ P ∈ L, PmOK P) (hl : L.length ≤ 900) (h0 : 0 < L.length) :
    Calls Tryz.prog 120 #[.iface 167 (.pointer (some ⟨hb, 0, none⟩))] w fun e w' => ∃ P v' L', e = .returned (.iface 149 (pmV P)) ∧ (P :: L').Perm L ∧ (∀ Q ∈ L, pkey P.id ≤ pkey Q.id) ∧ HeapN L' L'.length ∧ LeastAt w' B hb v' L' ∧ LStep w w' hb v v' := by
  obtain ⟨n, hn⟩ : ∃ n, L.length = n + 1 := ⟨L.length - 1, by omega⟩
  obtain ⟨P, hP⟩ : ∃ P, L[0]? = some P := ⟨_, List.getElem?_eq_getElem h0⟩
  obtain ⟨Q, hQ⟩ : ∃ Q, L[n]? = some Q := ⟨_, List.getElem?_eq_getElem (by omega)⟩
  have hlen := h.len
  have hl1 : (L.length : Int) = (n : Int) + 1 := by omega
  rw [hl1] at hlen
  have HLEN := hid hlen
  have HSW := hid (h.swap ok hP hQ)
  have HD := hid (DownI.first hh hn hP hQ)
  have HXP := hid (exch_perm hP hQ)
  have HOK : Hid (∀ R ∈ exch L 0 n P Q, PmOK R) := ok_perm ok (exch_perm hP hQ)
  have HXN : Hid ((exch L 0 n P Q)[n]? = some P) := by show _ = _; rw [exch_at hP hQ, if_pos rfl]
  have HLE : Hid (∀ R ∈ L, pkey P.id ≤ pkey R.id) := fun R hR => by
    obtain ⟨k, hk⟩ := List.mem_iff_getElem?.1 hR
    have := hh.least k (List.getElem?_eq_some_iff.1 hk).1
    rw [kAt_some hP, kAt_some hk] at this
    exact this
  have HLL := hid hn
  have m1 := meth_len h.cell
  have m2 := meth_swap h.cell
  have hn9 : n ≤ 900 := by omega
  clear h hh ok h0 hn hP hQ hlen hl1 hl
  go_enter Tryz.func120, Tryz.ntmps120
  go_wp2_with fail
  refine HLEN.out.mono ?_
  rintro e w0 ⟨rfl, hw0⟩
  have hw1 := hw0.symm
  subst hw1
  clear HLEN m1 hw0
  go_wp2_with fail
  refine HSW.out.mono ?_
  rintro e w1 ⟨rfl, h1, hs1⟩
  clear HSW m2
  have HT1 := hid hs1
  have HDN : Hid (Calls Tryz.prog 183 #[.iface 167 (.pointer (some ⟨hb, 0, none⟩)), .int .i64 0, .int .i64 n] w1 fun e w' => ∃ b, e = .returned (.bool b) ∧ ∃ L', L'.Perm (exch L 0 n P Q) ∧ HeapN L' n ∧ (∀ k, n ≤ k → L'[k]? = (exch L 0 n P Q)[k]?) ∧ LeastAt w' B hb v L' ∧ LStep w1 w' hb v v) := down183_any h1 HD.out HOK.out (by rw [exch_len, HLL.out]; omega)
  clear h1 hs1
  go_wp2_with fail
  refine HDN.out.mono ?_
  rintro e w2 ⟨b, rfl, M, k1, k2, k3, k4, k5⟩
  clear HDN
  have hMl : M.length = n + 1 := by rw [k1.length_eq, exch_len, HLL.out]
  have hMn : M[n]? = some P := (k3 n (Nat.le_refl _)).trans HXN.out
  have hM : M = M.take n ++ [P] := by
    have e1 := List.take_append_drop n M
    have e2 : M.drop n = [P] := by
      obtain ⟨e3, e4⟩ := List.getElem?_eq_some_iff.1 hMn
      rw [List.drop_eq_getElem_cons e3, e4, List.drop_eq_nil_of_le (by omega)]
    rw [e2] at e1
    exact e1.symm
  have HT2 := hid (HT1.out.trans k5)
  have k4' := k4
  rw [hM] at k4'
  have HPO : Hid (Calls Tryz.prog 330 #[.pointer (some ⟨hb, 0, none⟩)] w2 fun e w' => e = .returned (.iface 149 (pmV P)) ∧ ∃ v', LeastAt w' B hb v' (M.take n) ∧ LStep w2 w' hb v v') := k4'.pop ((HOK.out P (List.mem_of_getElem? HXN.out)).cv) (by rw [List.length_take]; omega)
  have HHP : Hid (HeapN (M.take n) (M.take n).length) := k2.take (by omega)
  have HPM : Hid ((P :: M.take n).Perm L) := by
    have p1 : (P :: M.take n).Perm (M.take n ++ [P]) := (List.perm_append_singleton P (M.take n)).symm
    rw [← hM] at p1
    exact p1.trans (k1.trans HXP.out)
  obtain ⟨x, hx⟩ : ∃ x, Value.iface 149 (pmV P) = x := ⟨_, rfl⟩
  have HX := hid hx
  rw [hx] at HPO
  have m3 := meth_pop
  clear k1 k2 k3 k4 k4' k5 hMl hMn hM hx HT1
  go_wp2_with fail
  refine HPO.out.mono ?_
  rintro e w3 ⟨rfl, v3, h3, hs3⟩
  clear HPO m3
  go_wp2
  go_ret
  exact ⟨P, v3, _, by rw [HX.out]; rfl, HPM.out, HLE.out, HHP.out, h3, HT2.out.trans hs3⟩
end Go.Proofs.YtgdfipmdmgkidaaGreatDoor

/- The map of how many each patch waits for. -/
namespace Go.Proofs.YtgdfipmdmgkidaaGreatDoor
open Go.RowKit Go.WideMaps Go.WideElems Go.ChangeShapes Go.WideShapes Go.MapKept Go.ChangeMaps

theorem idLaw : KeyLaw Tryz.prog 113 := deep_law (m := 2) (by omega) (by kernel_rfl) (by kernel_rfl) (by rw [Tryz.underlying113])
theorem zero3 (w : World) : (zeroValue 3).run Tryz.prog w = .ok (.int .i64 0) w := by kernel_rfl
def heldE (v : Value) : Option (DataW Value × List MemPlace) := some (.held v, [])
theorem heldE_inv {v u : Value} {ps : List MemPlace} (h : heldE v = some (.held u, ps)) : v = u := by
  simp [heldE] at h
  exact h.1
/-- Block mb is the map of numbers W. -/
structure WAt (w : World) (mb N : Nat) (W : Pid → Int) : Prop where
  ex : ∃ D : DataW Value, w.ownsMap Tryz.prog 113 heldE mb N D ∧ ∀ i, IdOK i → D.atKey (kid i) (.held (.int .i64 0)) = .held (.int .i64 (W i))
section
variable {w : World} {mb N : Nat} {W : Pid → Int}
theorem WAt.lt (h : WAt w mb N W) : mb < w.heap.size := by
  obtain ⟨D, h1, _⟩ := h.ex
  exact h1.lt
theorem WAt.map (h : WAt w mb N W) : ∃ es c, w.heap[mb]? = some (.map es c) := by
  obtain ⟨D, ⟨es, c, he, _⟩, _⟩ := h.ex
  exact ⟨es, c, he⟩
theorem WAt.same {w' : World} (h : WAt w mb N W) (hb : w'.heap[mb]? = w.heap[mb]?) : WAt w' mb N W := by
  obtain ⟨D, ⟨es, clock, he, hr⟩, h2⟩ := h.ex
  exact ⟨D, ⟨es, clock, hb.trans he, hr⟩, h2⟩
theorem WAt.made (w : World) : WAt (w.alloc (.map #[] 0)) w.heap.size 0 (fun _ => 0) := ⟨.map [], World.ownsMap_made w _ _ _, fun _ _ => rfl⟩
theorem WAt.more {M : Nat} (h : WAt w mb N W) (hM : N ≤ M) : WAt w mb M W := by
  obtain ⟨D, ⟨es, clock, he, hr, hs, hD⟩, h2⟩ := h.ex
  exact ⟨D, ⟨es, clock, he, hr, Nat.le_trans hs hM, hD⟩, h2⟩
theorem WAt.ext {W' : Pid → Int} (h : WAt w mb N W) (hW : ∀ i, IdOK i → W' i = W i) : WAt w mb N W' := by
  obtain ⟨D, h1, h2⟩ := h.ex
  exact ⟨D, h1, fun i hi => by rw [h2 i hi, hW i hi]⟩
theorem WAt.look (h : WAt w mb N W) {i : Pid} (hi : IdOK i) : (Instr.lookup 163 (.map (some mb)) (idV i) false).run Tryz.prog w = .ok (.int .i64 (W i)) w := by
  obtain ⟨D, h1, h2⟩ := h.ex
  obtain ⟨v, ps, hr, hv⟩ := h1.lookup idKeyed Tryz.underlying163 (zero3 w) (show heldE (.int .i64 0) = some (.held (.int .i64 0), []) from rfl) (kid_of hi)
  rw [h2 i hi] at hv
  rw [hr, (heldE_inv hv)]
open Classical in
/-- The numbers, one of them another. -/
noncomputable def updW (W : Pid → Int) (i : Pid) (c : Int) : Pid → Int := fun j => if j = i then c else W j
theorem updW_same (W : Pid → Int) (i : Pid) (c : Int) : updW W i c i = c := by simp [updW]
theorem updW_other {W : Pid → Int} {i j : Pid} {c : Int} (h : j ≠ i) : updW W i c j = W j := by simp [updW, h]
theorem WAt.entryOnly (h : WAt w mb N W) {i : Pid} (hi : IdOK i) (hN : N ≤ 1000000) {r : Value} {w1 : World} (hr : (Instr.mapEntry 163 (.map (some mb)) (idV i)).run Tryz.prog w = .ok r w1) : WAt w1 mb (N + 1) W := by
  have hlk := h.look hi
  obtain ⟨D, h1, h2⟩ := h.ex
  have h1' := h1
  obtain ⟨es, clock, he, hf, hs, hD⟩ := h1'
  rcases idLaw.find w (kid_of hi) es.toList hf.keys with ⟨k1, k2⟩ | ⟨j, e0, k1, k2, k3⟩
  · obtain ⟨w', hu, ho, hg⟩ := h1.update idKeyed Tryz.underlying163 (by unfold maxLen; omega) (kid_of hi) (show heldE (.int .i64 0) = some (.held (.int .i64 0), []) from rfl)
    have e1 : (Instr.mapEntry 163 (.map (some mb)) (idV i)).run Tryz.prog w = .ok (.tuple #[.int .i64 0, goInt clock]) (setBlock w mb (.map (es.push ⟨idV i, .int .i64 0, clock⟩) (clock + 1))) := by
      simp [Instr.mapEntry, run_underlying Tryz.underlying163, MapKept.run_getObj_map he, idLaw.check w false (kid_of hi), k1, MapKept.run_setObj_map _ he, Result.andThen, setBlock]
    have e2 : (Instr.mapUpdate 163 (.map (some mb)) (idV i) (.int .i64 0)).run Tryz.prog w = .ok () (setBlock w mb (.map (es.push ⟨idV i, .int .i64 0, clock⟩) (clock + 1))) := by
      simp [Instr.mapUpdate, run_underlying Tryz.underlying163, MapKept.run_getObj_map he, idLaw.check w false (kid_of hi), k1, MapKept.run_setObj_map _ he, Result.andThen, setBlock]
    have e3 : (Instr.lookup 163 (.map (some mb)) (idV i) false).run Tryz.prog w = .ok (.int .i64 0) w := by
      simp [Instr.lookup, run_underlying Tryz.underlying163, MapKept.run_getObj_map he, idLaw.check w es.isEmpty (kid_of hi), k1, Result.andThen]
    rw [e1] at hr
    rw [e2] at hu
    rw [e3] at hlk
    cases hr
    cases hu
    have hW : (0 : Int) = W i := by simpa using hlk
    have hkl : WideAt.IsKeyLit (kid i) := trivial
    refine ⟨_, ho, fun j hj => ?_⟩
    by_cases e : j = i
    · subst e
      rw [← hW]
      exact Maps.atKey_put_same h1.isMap hkl _ _
    · rw [Maps.atKey_put_other (fun q => e (kid_inj hj hi q))]
      exact h2 j hj
  · have hj : es[j]? = some e0 := by simpa using k2
    have hsame : es.modify j (fun e => { e with key := idV i }) = es := by
      apply Array.ext'
      rw [Array.toList_modify, modify_eq_set _ _ _ _ k2]
      have : ({ e0 with key := idV i } : MapEntry) = e0 := by rw [← k3]
      rw [this]
      exact set_self _ _ _ k2
    have e1 : (Instr.mapEntry 163 (.map (some mb)) (idV i)).run Tryz.prog w = .ok (.tuple #[e0.val, goInt e0.born]) (setBlock w mb (.map es clock)) := by
      simp [Instr.mapEntry, run_underlying Tryz.underlying163, MapKept.run_getObj_map he, idLaw.check w false (kid_of hi), k1, hj, k3, idLaw.stays w (kid_of hi), hsame, MapKept.run_setObj_map _ he, Result.andThen, setBlock]
    rw [e1] at hr
    cases hr
    exact (h.same (w' := setBlock w mb (.map es clock)) (by rw [heap_setBlock_same he, he])).more (by omega)
theorem WAt.entry (h : WAt w mb N W) {i : Pid} (hi : IdOK i) (hN : N ≤ 1000000) : ∃ v0 st w1, (Instr.mapEntry 163 (.map (some mb)) (idV i)).run Tryz.prog w = .ok (.tuple #[v0, goInt st]) w1 ∧ w.grownBy w1 (some mb) ∧ WAt w1 mb (N + 1) W ∧
    ∀ (w2 : World) (c : Int), w2.heap[mb]? = w1.heap[mb]? → ∃ w3, (Instr.entryStore 163 (.map (some mb)) (goInt st) (.int .i64 c)).run Tryz.prog w2 = .ok () w3 ∧ WAt w3 mb (N + 1) (updW W i c) ∧ w2.grownBy w3 (some mb) := by
  obtain ⟨D, h1, h2⟩ := h.ex
  have h1' := h1
  obtain ⟨es, clock, he, hf, hs, hD⟩ := h1'
  obtain ⟨v0, st, es1, c1, hr, _, hS⟩ := entry_then_store idLaw Tryz.underlying163 zero3 he hf (kid_of hi)
  refine ⟨v0, st, _, hr, ⟨rfl, rfl, rfl, by simp [setBlock], fun k _ hk => heap_setBlock_other he _ (fun e => hk (by rw [e]))⟩, h.entryOnly hi hN hr, fun w2 c hw2 => ?_⟩
  rw [heap_setBlock_same he] at hw2
  obtain ⟨es', c', hr2, hr3⟩ := hS w2 (.int .i64 c) hw2
  obtain ⟨w', hu, ho, hg⟩ := h1.update idKeyed Tryz.underlying163 (by unfold maxLen; omega) (kid_of hi) (show heldE (.int .i64 c) = some (.held (.int .i64 c), []) from rfl)
  rw [hr3] at hu
  cases hu
  have hkl : WideAt.IsKeyLit (kid i) := trivial
  have hW : WAt (setBlock w mb (.map es' c')) mb (N + 1) (updW W i c) := ⟨_, ho, fun j hj => by
    by_cases e : j = i
    · subst e
      rw [updW_same]
      exact Maps.atKey_put_same h1.isMap hkl _ _
    · rw [updW_other e, Maps.atKey_put_other (fun q => e (kid_inj hj hi q))]
      exact h2 j hj⟩
  exact ⟨_, hr2, hW.same (by rw [heap_setBlock_same hw2, heap_setBlock_same he]), ⟨rfl, rfl, rfl, by simp [setBlock], fun k _ hk => heap_setBlock_other hw2 _ (fun e => hk (by rw [e]))⟩⟩
end
end Go.Proofs.YtgdfipmdmgkidaaGreatDoor
