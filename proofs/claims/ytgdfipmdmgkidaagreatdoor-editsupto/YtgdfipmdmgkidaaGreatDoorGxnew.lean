/- The contract of the program's New. -/
import Derived.Test.YtgdfipmdmgkidaaGreatDoorGzone
import Derived.Deep.RegionLaw
import Derived.Deep.AppendLies
namespace Go.Proofs.YtgdfipmdmgkidaaGreatDoor
open Go.RowKit

theorem info58x : (Tryz.prog.info? 87).map (fun i => (i.zero, i.size, i.bytes)) = some (some (.agg #[.slice none 0 0, .map none]), 2, 32) := by kernel_rfl

set_option maxRecDepth 100000 in
set_option maxHeartbeats 1600000 in
theorem xnew20_no (n : Int) (hn : n < 1 ∨ 3 < n) (w : World) :
    Calls Tryz.prog 15 #[.int .i64 n] w fun e w' => e = .returned (.tuple #[.pointer none, .int .i64 14]) ∧ w' = w := by
  go_enter Tryz.func15, Tryz.ntmps15
  rcases hn with h | h
  · go_wp2
    go_ret2
    exact ⟨rfl, rfl⟩
  · have h1 : ¬ (n < 1) := by omega
    go_wp2
    go_ret2
    exact ⟨rfl, rfl⟩

/-- The cells of repositories without patches. -/
abbrev repC (ms : List Nat) : List Value := ms.flatMap fun m => [.slice none 0 0, .map (some m)]
theorem repC_at : ∀ (ms : List Nat) (j m : Nat), ms[j]? = some m → (repC ms)[j * 2 + 1]? = some (.map (some m))
  | [], j, m, h => by simp at h
  | x :: ms, 0, m, h => by simp at h; subst h; simp
  | x :: ms, j + 1, m, h => by
    have ih := repC_at ms j m (by simpa using h)
    have e : (j + 1) * 2 + 1 = j * 2 + 1 + 2 := by omega
    rw [e]
    simp only [repC, List.flatMap_cons, List.cons_append, List.nil_append, List.getElem?_cons_succ]
    exact ih

structure Making (w wr : World) (k : Nat) (v : Value) (ms : List Nat) : Prop where
  cell : wr.heap[w.heap.size + 1]? = some (.cells #[v, .map (some w.heap.size)] 83 (0, 0))
  own : wr.ownsRow (w.heap.size + 2) 87 2 v k (repC ms)
  len : ms.length = k
  nodup : ms.Nodup
  maps : ∀ m ∈ ms, w.heap.size ≤ m ∧ FAt wr m []
  bel : Below w.heap.size w wr

theorem Making.done {w wr : World} {n : Nat} {v : Value} {ms : List Nat} (h : Making w wr n v ms) (h1 : 1 ≤ n) (h3 : n ≤ 3) : ∃ rg cap, XAt wr w.heap.size (w.heap.size + 1) rg cap ms (List.replicate n []) := by
  rcases h.own.2 with ⟨rfl, h0⟩ | ⟨g, cap, cur, rfl, hbg, hg, hnc, hcm, hcs, htake⟩
  · omega
  · refine ⟨g, cap, by omega, by omega, fun m hm => (h.maps m hm).1, ⟨w.heap.size, by rw [List.length_replicate]; exact h.cell⟩, ⟨cur, hg, ?_⟩, h.nodup, by rw [List.length_replicate]; exact h.len, ?_, ?_, by simpa using h3⟩
    · intro j m hj
      have e : (cur.toList.take (n * 2))[j * 2 + 1]? = some (.map (some m)) := by rw [htake]; exact repC_at ms j m hj
      rw [List.getElem?_take] at e
      split at e
      · rw [Array.getElem?_toList] at e; exact e
      · cases e
    · intro j m F hj hF
      rw [List.eq_of_mem_replicate (List.mem_of_getElem? hF)]
      exact (h.maps m (List.mem_of_getElem? hj)).2
    · intro F hF
      rw [List.eq_of_mem_replicate hF]; simp

theorem grown_setCell (w : World) (p : Addr) (u : Value) : w.grownBy (w.setCell p u) (some p.block) :=
  ⟨rfl, rfl, rfl, by simp [World.setCell], fun i _ hne => Below.heap_setCell _ _ _ _ (fun e => hne (by rw [e]))⟩

theorem Making.step {w wr w1 w2 : World} {k mb g cap : Nat} {v : Value} {ms : List Nat} {o : Obj} (h : Making w wr k v ms) (hb1 : Below wr.heap.size wr w1) (hmb : wr.heap.size ≤ mb) (hF : FAt w1 mb [])
    (hown : w2.ownsRow (w.heap.size + 2) 87 2 (.slice (some ⟨g, 0, none⟩) (k + 1) cap) (k + 1) (repC ms ++ [.slice none 0 0, .map (some mb)])) (hg : (w1.alloc o).grownBy w2 v.ownBlock) :
    Making w (w2.setCell ⟨w.heap.size + 1, 0, none⟩ (.slice (some ⟨g, 0, none⟩) (k + 1) cap)) (k + 1) (.slice (some ⟨g, 0, none⟩) (k + 1) cap) (ms ++ [mb]) := by
  have hs : w.heap.size + 1 < wr.heap.size := lt_of_block h.cell
  have hs1 : wr.heap.size ≤ w1.heap.size := hb1.size
  have ho : ∀ q, v.ownBlock = some q → w.heap.size + 2 ≤ q ∧ q < wr.heap.size := fun q e => h.own.lt q e
  have hal : (w1.alloc o).heap.size = w1.heap.size + 1 := by simp
  have far : ∀ i, i < w1.heap.size → some i ≠ v.ownBlock → w2.heap[i]? = w1.heap[i]? := fun i hi hne => (hg.block i (by omega) hne).trans (Below.heap_alloc _ _ _ hi)
  have ga : w1.grownBy w2 v.ownBlock := ⟨hg.os, hg.tape, hg.output, by have := hg.size; omega, far⟩
  have npb : some (w.heap.size + 1) ≠ v.ownBlock := fun e => by have := (ho _ e.symm).1; omega
  have hgb : w.heap.size + 2 ≤ g := (hown.lt g rfl).1
  have cpb : w2.heap[w.heap.size + 1]? = some (.cells #[v, .map (some w.heap.size)] 83 (0, 0)) := by
    rw [far _ (by omega) npb, hb1.block _ hs]
    exact h.cell
  have keep : ∀ m F, FAt w1 m F → some m ≠ v.ownBlock → m ≠ w.heap.size + 1 → FAt (w2.setCell ⟨w.heap.size + 1, 0, none⟩ (.slice (some ⟨g, 0, none⟩) (k + 1) cap)) m F := fun m F hm n1 n2 =>
    (hm.kept ga n1).kept (grown_setCell w2 _ _) (fun e => by injection e with e; exact n2 e)
  refine ⟨heap_setCell_same w2 (w.heap.size + 1) 0 _ 83 _ cpb, ?_, by rw [List.length_append, h.len]; rfl, ?_, ?_, ?_⟩
  · have e : repC (ms ++ [mb]) = repC ms ++ [.slice none 0 0, .map (some mb)] := by simp [repC]
    rw [e]
    exact hown.kept (grown_setCell w2 _ _) (Or.inr (fun e => by simp [Value.ownBlock] at e; omega))
  · rw [List.nodup_append]
    refine ⟨h.nodup, by simp, fun a ha b hb e => ?_⟩
    rw [List.mem_singleton] at hb
    have := (h.maps a ha).2.lt
    omega
  · intro m hm
    rcases List.mem_append.1 hm with hm | hm
    · obtain ⟨a1, a2⟩ := h.maps m hm
      obtain ⟨es, ck, hbl⟩ := a2.block
      refine ⟨a1, keep m [] (a2.below hb1) ?_ ?_⟩
      · intro e
        rcases h.own.2 with ⟨rfl, _⟩ | ⟨q, cap', cur, rfl, _, hq, _⟩
        · cases e
        · simp [Value.ownBlock] at e
          subst e
          rw [hq] at hbl; cases hbl
      · intro e
        subst e
        rw [h.cell] at hbl; cases hbl
    · rw [List.mem_singleton] at hm
      subst hm
      refine ⟨by omega, keep m [] hF ?_ (by omega)⟩
      intro e
      have := (ho _ e.symm).2
      omega
  · have b1 : Below w.heap.size w w1 := h.bel.trans (hb1.mono (by omega))
    have b2 : Below w.heap.size w w2 := b1.grown ga (by omega) (fun q e => by have := (ho q e).1; omega)
    exact b2.setCell (p := ⟨w.heap.size + 1, 0, none⟩) (Nat.le_succ _) _

theorem alloc_keep {w : World} {p : Addr} (o : Obj) (h : p.block < w.heap.size) : (w.alloc o).cell? p = w.cell? p ∧ (w.alloc o).frozen? p = w.frozen? p :=
  ⟨((Below.refl w.heap.size w).alloc (Nat.le_refl _) o).cell h, ((Below.refl w.heap.size w).alloc (Nat.le_refl _) o).frozen h⟩

set_option maxRecDepth 100000 in
set_option maxHeartbeats 6400000 in
theorem xnew20_yes (n : Nat) (h1 : 1 ≤ n) (h3 : n ≤ 3) (w : World) :
    Calls Tryz.prog 15 #[.int .i64 n] w fun e w' => ∃ pb rg cap ms, e = .returned (.tuple #[.pointer (some ⟨pb, 0, none⟩), .int .i64 0]) ∧ XAt w' w.heap.size pb rg cap ms (List.replicate n []) ∧ Below w.heap.size w w' := by
  obtain ⟨i0, hi0, hz0, hz1, hz2⟩ := info_parts info58x
  have hmm : ∀ w, (Instr.makeMap 80 none).run Tryz.prog w = .ok (.map (some w.heap.size)) (w.alloc (.map #[] 0)) := fun _ => by kernel_rfl
  obtain ⟨w1, hw1⟩ : ∃ w1, w1 = (w.alloc (.map #[] 0)).alloc (.cells #[.slice none 0 0, .map (some w.heap.size)] 83) := ⟨_, rfl⟩
  obtain ⟨hb1, hs1, hm1, hk1⟩ := two_new w _ _ hw1
  have HM1 : Hid (Making w w1 0 (.slice none 0 0) []) := (⟨hk1, World.ownsRow_nil _ _ _ _, rfl, List.nodup_nil, by simp, hb1⟩ : Making w w1 0 (.slice none 0 0) [])
  clear hb1 hs1 hm1 hk1
  go_enter Tryz.func15, Tryz.ntmps15
  go_wp2
  rw [← hw1]
  clear hw1
  go_loopw [15] (fun i wr => ∃ (k : Nat) (v : Value) (ms : List Nat), k ≤ n ∧ i = .int .i64 k ∧ Hid (Making w wr k v ms)) (fun i _ => n - (intOf i).toNat)
  case atStart => exact ⟨0, .slice none 0 0, [], Nat.zero_le _, rfl, HM1⟩
  case round =>
    clear HM1
    obtain ⟨k, v, ms, hk, rfl, HM⟩ := hrel
    by_cases hlt : k < n
    · have HS1 : Hid (wr.drew.cell? ⟨w.heap.size + 1, 0, none⟩ = some v) := by show wr.cell? _ = _; simp [World.cell?, HM.out.cell]
      have hsz : w.heap.size + 1 < wr.heap.size := lt_of_block HM.out.cell
      have HN : Hid (Calls Tryz.prog 41 #[] wr.drew fun e w' => ∃ mb, e = .returned (.agg #[.slice none 0 0, .map (some mb)]) ∧ wr.heap.size ≤ mb ∧ FAt w' mb [] ∧ Below wr.heap.size wr w') := (newRepo46_any wr.drew).mono fun e w' ⟨mb, h1, h2, h3, h4⟩ => ⟨mb, h1, h2, h3, (Below.refl _ wr).drew.trans h4⟩
      go_wp2_with fail
      refine wp_region_Z (fun w' => w'.cell? ⟨w.heap.size + 1, 0, none⟩ = some v) 10 (by kernel_rfl) ?_
      refine wpZ_take 0 _ (v := ?v0) rfl (by kernel_rfl) (by kernel_rfl) (by kernel_rfl) (fun _ _ _ h => h) (by kernel_rfl) (by decide) HS1.out rfl (fun w0 hS0 => ?hy) ?_
      case hy =>
        go_simp
        with_reducible rfl
      simp only [Act.put, List.setIfInBounds_toArray]
      refine wpZ_take 1 _ (v := ?v1) rfl (by kernel_rfl) (by kernel_rfl) (by kernel_rfl) (fun _ _ _ h => h) (by kernel_rfl) (by decide) HS1.out rfl (fun w0 hS0 => ?hy) ?_
      case hy =>
        go_simp
        with_reducible rfl
      simp only [Act.put]
      refine wpZ_take 2 _ (v := ?v2) rfl (by kernel_rfl) (by kernel_rfl) (by kernel_rfl) (fun _ _ _ h => h) (by kernel_rfl) (by decide) HS1.out rfl (fun w0 hS0 => ?hy) ?_
      case hy =>
        go_simp
        with_reducible rfl
      simp only [Act.put]
      refine wpZ_take 3 _ (v := ?v3) rfl (by kernel_rfl) (by kernel_rfl) (by kernel_rfl) (fun _ _ _ h => h) (by kernel_rfl) (by decide) HS1.out rfl (fun w0 hS0 => ?hy) ?_
      case hy =>
        go_simp
        with_reducible rfl
      simp only [Act.put]
      refine wpZ_take 4 _ (v := ?v4) rfl (by kernel_rfl) (by kernel_rfl) (by kernel_rfl) (fun _ _ _ h => h) (by kernel_rfl) (by decide) HS1.out rfl (fun w0 hS0 => ?hy) ?_
      case hy =>
        go_simp
        with_reducible rfl
      simp only [Act.put]
      refine wpZ_one 5 _ rfl (by kernel_rfl) (fun KK hK => ?_)
      go_simp
      refine HN.out.mono ?_
      rintro e w2 ⟨mb, rfl, hmb, hF2, hb2⟩
      clear HN
      have hk2 := (hb2.block _ hsz).trans HM.out.cell
      have hs2 := hb2.size
      dsimp only
      refine hK.out _ _ (fun _ => by simp [World.cell?, hk2]) ?_
      clear hK
      refine wpZ_one 6 _ rfl (by kernel_rfl) (fun KK hK => ?_)
      go_simp
      have hb23 : Below w2.heap.size w2 (w2.alloc (.cells #[.slice none 0 0, .map (some mb)] 87)) := (Below.refl _ _).alloc (Nat.le_refl _) _
      have hk3 := (hb23.block _ (by omega)).trans hk2
      refine hK.out _ _ (fun _ => by simp [World.cell?, hk3]) ?_
      clear hK
      have hown3 := own_below (own_below HM.out.own hb2 (Nat.le_refl _)) hb23 (Nat.le_refl _)
      have hvlt : ∀ q, v.ownBlock = some q → q < wr.heap.size := fun q hq => (HM.out.own.lt q hq).2
      refine wpZ_one 7 _ rfl (by kernel_rfl) (fun KK hK => ?_)
      refine step_append_lies _ (by rfl) _ _ _ (by rfl) (w.heap.size + 2) 87 i0 _ 2 32 Tryz.underlying81 hi0 hz0 hz1 hz2 rfl (by omega) v k (repC ms) (by rfl) hown3 ⟨w2.heap.size, 0, none⟩ 1 1 [.slice none 0 0, .map (some mb)] (by rfl) (by rfl) (World.news_of_block (cs := #[.slice none 0 0, .map (some mb)]) (t := 87) (fr := (0, 0)) (heap_alloc_new w2 _)) (by simp [Value.oneCell']) (by omega) (by unfold maxLen; omega) (by omega) (by simp; omega) (w2.heap.size + 1) (by simp) ?_
      intro g cp wa hownA hgrA hatA hltA
      have hkA : wa.heap[w.heap.size + 1]? = some (.cells #[v, .map (some w.heap.size)] 83 (0, 0)) := (hgrA.block _ (by simp; omega) (fun e => by have := (HM.out.own.lt _ e.symm).1; omega)).trans hk3
      have rA : wa.cell? ⟨w.heap.size + 1, 0, none⟩ = some v := by simp [World.cell?, hkA]
      have zA := free_of_block (o := 0) hkA
      refine hK.out _ _ (fun _ => rA) ?_
      clear hK
      simp only [Act.put, List.setIfInBounds_toArray]
      refine wpZ_one 8 _ rfl (by kernel_rfl) (fun KK hK => ?_)
      go_simp
      refine hK.out _ _ (fun _ => rA) ?_
      clear hK
      refine wpZ_one 9 _ rfl (by kernel_rfl) (fun KK hK => ?_)
      go_simp
      refine hK.out _ _ (fun _ => rA) ?_
      clear hK
      refine wpZ_one 10 _ rfl (by kernel_rfl) (fun KK hK => ?_)
      go_simp
      refine hK.out _ _ (fun h => absurd rfl h) ?_
      clear hK
      refine wpZ_done (by kernel_rfl) ?_ _
      have HR : Hid (Making w (wa.setCell ⟨w.heap.size + 1, 0, none⟩ (.slice (some ⟨g, 0, none⟩) (k + 1) cp)) (k + 1) (.slice (some ⟨g, 0, none⟩) (k + 1) cp) (ms ++ [mb])) := HM.out.step hb2 hmb hF2 hownA hgrA
      clear hownA hgrA hatA hltA hkA rA zA hk2 hk3 hb23 hb2 hF2 HS1 hown3
      go_wp2
      go_roundw
      case rel => exact ⟨k + 1, _, _, by omega, by go_num, HR⟩
      case measure => simp [intOf]; omega
    · obtain rfl : k = n := by omega
      obtain ⟨rg, cap, hX⟩ := HM.out.done h1 h3
      have HX : Hid (XAt wr w.heap.size (w.heap.size + 1) rg cap ms (List.replicate k [])) := hX
      have HB : Hid (Below w.heap.size w wr) := HM.out.bel
      clear hX HM
      go_wp2
      go_ret2
      exact ⟨_, rg, cap, ms, rfl, HX.out, HB.out⟩
end Go.Proofs.YtgdfipmdmgkidaaGreatDoor
