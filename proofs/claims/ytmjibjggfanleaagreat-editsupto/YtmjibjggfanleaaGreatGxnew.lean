/- The contract of the program's New. -/
import Derived.Test.YtmjibjggfanleaaGreatGworld
import Derived.Deep.RegionLaw
import Derived.Deep.AppendLies
namespace Go.Proofs.YtmjibjggfanleaaGreat
open Go.RowKit

theorem info58x : (Tryz.prog.info? 58).map (fun i => (i.zero, i.size, i.bytes)) = some (some (.agg #[.map none]), 1, 8) := by kernel_rfl

set_option maxRecDepth 100000 in
set_option maxHeartbeats 1600000 in
theorem xnew20_no (n : Int) (hn : n < 1 ∨ 3 < n) (w : World) :
    Calls Tryz.prog 20 #[.int .i64 n] w fun e w' => e = .returned (.tuple #[.pointer none, .int .i64 14]) ∧ w' = w := by
  go_enter Tryz.func20, Tryz.ntmps20
  rcases hn with h | h
  · go_wp2
    go_ret2
    exact ⟨rfl, rfl⟩
  · have h1 : ¬ (n < 1) := by omega
    go_wp2
    go_ret2
    exact ⟨rfl, rfl⟩

structure Making (w wr : World) (k : Nat) (v : Value) (ms : List Nat) : Prop where
  cell : wr.heap[w.heap.size]? = some (.cells #[v] 61 (0, 0))
  own : wr.ownsRow (w.heap.size + 1) 58 1 v k (ms.map fun m => .map (some m))
  len : ms.length = k
  nodup : ms.Nodup
  maps : ∀ m ∈ ms, w.heap.size ≤ m ∧ FAt wr m []
  bel : Below w.heap.size w wr

theorem Making.done {w wr : World} {n : Nat} {v : Value} {ms : List Nat} (h : Making w wr n v ms) (h1 : 1 ≤ n) (h3 : n ≤ 3) : ∃ rg cap, XAt wr w.heap.size w.heap.size rg cap ms (List.replicate n []) := by
  rcases h.own.2 with ⟨rfl, h0⟩ | ⟨g, cap, cur, rfl, hbg, hg, hnc, hcm, hcs, htake⟩
  · omega
  · refine ⟨g, cap, Nat.le_refl _, by omega, fun m hm => (h.maps m hm).1, by rw [List.length_replicate]; exact h.cell, ⟨cur, hg, ?_⟩, h.nodup, by rw [List.length_replicate]; exact h.len, ?_, ?_, by simpa using h3⟩
    · intro j m hj
      have e : (cur.toList.take (n * 1))[j]? = some (.map (some m)) := by rw [htake, List.getElem?_map, hj]; rfl
      rw [List.getElem?_take] at e
      split at e
      · rw [Array.getElem?_toList] at e; exact e
      · cases e
    · intro j m F hj hF
      rw [List.eq_of_mem_replicate (List.mem_of_getElem? hF)]
      exact (h.maps m (List.mem_of_getElem? hj)).2
    · intro F hF
      rw [List.eq_of_mem_replicate hF]; simp

theorem grown_setCell (w : World) (p : Addr) (u : Value) : w.grownBy (w.setCell p u) (some p.block) :=
  ⟨rfl, rfl, rfl, by simp [World.setCell], fun i _ hne => Below.heap_setCell _ _ _ _ (fun e => hne (by rw [e]))⟩

theorem Making.step {w wr w1 w2 : World} {k mb g cap : Nat} {v : Value} {ms : List Nat} {o : Obj} (h : Making w wr k v ms) (hb1 : Below wr.heap.size wr w1) (hmb : wr.heap.size ≤ mb) (hF : FAt w1 mb [])
    (hown : w2.ownsRow (w.heap.size + 1) 58 1 (.slice (some ⟨g, 0, none⟩) (k + 1) cap) (k + 1) ((ms.map fun m => Value.map (some m)) ++ [.map (some mb)])) (hg : (w1.alloc o).grownBy w2 v.ownBlock) :
    Making w (w2.setCell ⟨w.heap.size, 0, none⟩ (.slice (some ⟨g, 0, none⟩) (k + 1) cap)) (k + 1) (.slice (some ⟨g, 0, none⟩) (k + 1) cap) (ms ++ [mb]) := by
  have hs : w.heap.size < wr.heap.size := lt_of_block h.cell
  have hs1 : wr.heap.size ≤ w1.heap.size := hb1.size
  have ho : ∀ q, v.ownBlock = some q → w.heap.size + 1 ≤ q ∧ q < wr.heap.size := fun q e => h.own.lt q e
  have hal : (w1.alloc o).heap.size = w1.heap.size + 1 := by simp
  have far : ∀ i, i < w1.heap.size → some i ≠ v.ownBlock → w2.heap[i]? = w1.heap[i]? := fun i hi hne => (hg.block i (by omega) hne).trans (Below.heap_alloc _ _ _ hi)
  have ga : w1.grownBy w2 v.ownBlock := ⟨hg.os, hg.tape, hg.output, by have := hg.size; omega, far⟩
  have npb : some w.heap.size ≠ v.ownBlock := fun e => by have := (ho _ e.symm).1; omega
  have hgb : w.heap.size + 1 ≤ g := (hown.lt g rfl).1
  have cpb : w2.heap[w.heap.size]? = some (.cells #[v] 61 (0, 0)) := by
    rw [far _ (by omega) npb, hb1.block _ hs]
    exact h.cell
  have keep : ∀ m F, FAt w1 m F → some m ≠ v.ownBlock → m ≠ w.heap.size → FAt (w2.setCell ⟨w.heap.size, 0, none⟩ (.slice (some ⟨g, 0, none⟩) (k + 1) cap)) m F := fun m F hm n1 n2 =>
    (hm.kept ga n1).kept (grown_setCell w2 _ _) (fun e => by injection e with e; exact n2 e)
  refine ⟨heap_setCell_same w2 w.heap.size 0 _ 61 _ cpb, ?_, by rw [List.length_append, h.len]; rfl, ?_, ?_, ?_⟩
  · rw [List.map_append]
    exact hown.kept (grown_setCell w2 _ _) (Or.inr (fun e => by simp [Value.ownBlock] at e; omega))
  · rw [List.nodup_append]
    refine ⟨h.nodup, by simp, fun a ha b hb e => ?_⟩
    rw [List.mem_singleton] at hb
    have := (h.maps a ha).2.lt
    omega
  · intro m hm
    rcases List.mem_append.1 hm with hm | hm
    · obtain ⟨a1, a2⟩ := h.maps m hm
      obtain ⟨es, ck, hbl⟩ := a2.block
      refine ⟨a1, keep m [] (a2.below hb1) ?_ ?_⟩
      · intro e
        rcases h.own.2 with ⟨rfl, _⟩ | ⟨q, cap', cur, rfl, _, hq, _⟩
        · cases e
        · simp [Value.ownBlock] at e
          subst e
          rw [hq] at hbl; cases hbl
      · intro e
        subst e
        rw [h.cell] at hbl; cases hbl
    · rw [List.mem_singleton] at hm
      subst hm
      refine ⟨by omega, keep m [] hF ?_ (by omega)⟩
      intro e
      have := (ho _ e.symm).2
      omega
  · have b1 : Below w.heap.size w w1 := h.bel.trans (hb1.mono (by omega))
    have b2 : Below w.heap.size w w2 := b1.grown ga (by omega) (fun q e => by have := (ho q e).1; omega)
    exact b2.setCell (Nat.le_refl _) _

theorem alloc_keep {w : World} {p : Addr} (o : Obj) (h : p.block < w.heap.size) : (w.alloc o).cell? p = w.cell? p ∧ (w.alloc o).frozen? p = w.frozen? p :=
  ⟨((Below.refl w.heap.size w).alloc (Nat.le_refl _) o).cell h, ((Below.refl w.heap.size w).alloc (Nat.le_refl _) o).frozen h⟩

set_option maxRecDepth 100000 in
set_option maxHeartbeats 3200000 in
theorem xnew20_yes (n : Nat) (h1 : 1 ≤ n) (h3 : n ≤ 3) (w : World) :
    Calls Tryz.prog 20 #[.int .i64 n] w fun e w' => ∃ pb rg cap ms, e = .returned (.tuple #[.pointer (some ⟨pb, 0, none⟩), .int .i64 0]) ∧ XAt w' w.heap.size pb rg cap ms (List.replicate n []) ∧ Below w.heap.size w w' := by
  obtain ⟨i0, hi0, hz0, hz1, hz2⟩ := info_parts info58x
  go_enter Tryz.func20, Tryz.ntmps20
  go_wp2
  go_loopw [14] (fun i wr => ∃ (k : Nat) (v : Value) (ms : List Nat), k ≤ n ∧ i = .int .i64 k ∧ Hid (Making w wr k v ms)) (fun i _ => n - (intOf i).toNat)
  case atStart => exact ⟨0, .slice none 0 0, [], Nat.zero_le _, rfl, ⟨(heap_alloc_new w _), World.ownsRow_nil _ _ _ _, rfl, List.nodup_nil, by simp, (Below.refl _ _).alloc (Nat.le_refl _) _⟩⟩
  case round =>
    obtain ⟨k, v, ms, hk, rfl, HM⟩ := hrel
    by_cases hlt : k < n
    · have hc : wr.cell? ⟨w.heap.size, 0, none⟩ = some v := by simp [World.cell?, HM.out.cell]
      have hfz : wr.frozen? ⟨w.heap.size, 0, none⟩ = false := free_of_block HM.out.cell
      have hsz : w.heap.size < wr.heap.size := lt_of_block HM.out.cell
      go_wp2_with fail
      have hne : v.ownBlock ≠ some w.heap.size := fun e => by have := (HM.out.own.lt _ e).1; omega
      go_region_law (first
          | (go_simp; refine (newRepo46_any _).mono ?_; rintro e w1 ⟨mb, rfl, hmb, hF1, hb1⟩; have hs1 : w.heap.size < w1.heap.size := Nat.lt_of_lt_of_le hsz hb1.size; have hc1 : w1.cell? ⟨w.heap.size, 0, none⟩ = some v := (hb1.cell (p := ⟨w.heap.size, 0, none⟩) hsz).trans hc; have hf1 : w1.frozen? ⟨w.heap.size, 0, none⟩ = false := (hb1.frozen (p := ⟨w.heap.size, 0, none⟩) hsz).trans hfz)
          | (refine step_append_lies _ (by rfl) _ _ _ (by rfl) (w.heap.size + 1) 58 i0 _ 1 8 Tryz.underlying59 hi0 hz0 hz1 hz2 rfl (by omega) v k (ms.map fun m => .map (some m)) (by rfl) (((own_below HM.out.own ((Below.refl _ wr).drew.trans hb1) (Nat.le_refl _)).alloc _).drew) ⟨w1.heap.size, 0, none⟩ 1 1 [.map (some mb)] (by rfl) (by rfl) (World.news_of_block (cs := #[.map (some mb)]) (t := 58) (fr := (0, 0)) (heap_alloc_new w1.drew _)) (by simp [Value.oneCell']) (by omega) (by unfold maxLen; omega) (by omega) (by have := hb1.size; simp at this ⊢; omega) (w1.heap.size + 1) (by simp) ?_; intro g cap w2 hown2 hgrow hat hlt2; have hc2 : w2.cell? ⟨w.heap.size, 0, none⟩ = some v := (hgrow.cell_far ⟨w.heap.size, 0, none⟩ (by simp; omega) (Ne.symm hne)).trans ((alloc_keep (w := w1) _ hs1).1.trans hc1); have hf2 : w2.frozen? ⟨w.heap.size, 0, none⟩ = false := (hgrow.frozen_far ⟨w.heap.size, 0, none⟩ (by simp; omega) (Ne.symm hne)).trans ((alloc_keep (w := w1) _ hs1).2.trans hf1)))
      all_goals
        have R := HM.out.step ((Below.refl _ wr).drew.trans hb1) hmb hF1 hown2 (by exact hgrow)
        have HR : Hid (Making w _ (k + 1) _ (ms ++ [mb])) := R
        clear R hown2 hgrow hF1 HM hc1 hf1 hc2 hf2 hc hfz
        go_wp2
        go_roundw
        case rel => exact ⟨k + 1, _, _, by omega, by go_num, HR⟩
        case measure => simp [intOf]; omega
    · have ek : k = n := by omega
      subst ek
      obtain ⟨rg, cap, hX⟩ := HM.out.done h1 h3
      have HX : Hid (XAt wr w.heap.size w.heap.size rg cap ms (List.replicate k [])) := hX
      have HB : Hid (Below w.heap.size w wr) := HM.out.bel
      clear hX HM
      go_wp2
      go_ret2
      exact ⟨_, rg, cap, ms, rfl, HX.out, HB.out⟩
end Go.Proofs.YtmjibjggfanleaaGreat
