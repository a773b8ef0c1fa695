/- The statement's step New. -/
import Derived.Test.YtgdfipmdmgkidaaGreatDoorGplay
namespace Go.Proofs.YtgdfipmdmgkidaaGreatDoor
open Go.RowKit

theorem info41x : (Tryz.prog.info? 99).map (fun i => (i.zero, i.size, i.bytes)) = some (some (.agg #[.pointer none, .pointer none]), 2, 16) := by kernel_rfl

theorem XAt.lower {w : World} {B B' pb rg cap : Nat} {ms : List Nat} {Fs : List Repo} (h : XAt w B' pb rg cap ms Fs) (hB : B ≤ B') : XAt w B pb rg cap ms Fs :=
  ⟨Nat.le_trans hB h.lo, Nat.le_trans hB h.lo2, fun m hm => Nat.le_trans hB (h.lo3 m hm), h.cell, h.row, h.nodup, h.len, h.maps, h.few, h.n3⟩
theorem RAt.lower {w : World} {B B' rb sg : Nat} {vs : List (Value × Value)} {Fs : List Repo} (h : RAt w B' rb sg vs Fs) (hB : B ≤ B') : RAt w B rb sg vs Fs :=
  ⟨Nat.le_trans hB h.lo, Nat.le_trans hB h.lo2, h.cell, h.row, h.len, fun j p F hj hF => ⟨ownsRow_mono (h.names j p F hj hF).1 hB, ownsRow_mono (h.names j p F hj hF).2 hB⟩, h.few, h.n3⟩

theorem WAt.begun {w w2 w3 : World} {B bb : Nat} {K : List Ent} {lv kv lv' : Value} {T : List Twin} {t : Twin} {o : Obj} (h0 : WAt w B bb K lv kv T) (hb : Below w.heap.size w w2) (hT : T.length + 1 ≤ 10000000)
    (hX : XAt w2 w.heap.size t.pb t.rg t.cap t.ms t.Fs) (hR : RAt w2 w.heap.size t.rb t.sg t.vs t.Fs) (hg : (w2.alloc o).grownBy w3 lv.ownBlock) (hown : w3.ownsRow B 99 2 lv' (T.length + 1) (T.flatMap Twin.cells ++ t.cells)) :
    WAt (w3.setCell ⟨bb, 0, none⟩ lv') B bb K lv' kv (T ++ [t]) := by
  have h := h0.below hb
  have hal : (w2.alloc o).heap.size = w2.heap.size + 1 := by simp
  have hsz : w2.heap.size ≤ w3.heap.size := by have := hg.size; omega
  have far3 : ∀ i, i < w2.heap.size → some i ≠ lv.ownBlock → w3.heap[i]? = w2.heap[i]? := fun i hi hne => (hg.block i (by omega) hne).trans (Below.heap_alloc _ _ _ hi)
  have hk3 : ∀ {S : TypeId → Prop} {g}, Kind w2 S g → ¬ S 99 → w3.heap[g]? = w2.heap[g]? := fun hk n1 => far3 _ hk.lt fun e => by
    obtain ⟨c, t', h1, h2⟩ := own_kind (S := fun x => x = 99) h.row rfl e.symm
    subst h2
    exact hk.ne h1 n1 rfl
  have hbb3 : w3.heap[bb]? = some (.cells #[lv, kv] 73 (0, 0)) := by
    rw [hk3 (S := fun x => x = 73) ⟨_, 73, h.book.cell, rfl⟩ (by decide)]
    exact h.book.cell
  have hk : ∀ {S : TypeId → Prop} {g}, Kind w2 S g → ¬ S 99 → ¬ S 73 → (w3.setCell ⟨bb, 0, none⟩ lv').heap[g]? = w2.heap[g]? := fun hk n1 n2 => (Below.heap_setCell _ _ _ _ (hk.ne h.book.cell n2)).trans (hk3 hk n1)
  have hmp : ∀ {B pb rg cap : Nat} {ms : List Nat} {Fs : List Repo}, XAt w2 B pb rg cap ms Fs → ∀ m ∈ ms, (w3.setCell ⟨bb, 0, none⟩ lv').heap[m]? = w2.heap[m]? := fun hX m hm => by
    obtain ⟨es, ck, hbl⟩ := hX.map_block hm
    have n1 : m ≠ bb := by rintro rfl; rw [h.book.cell] at hbl; cases hbl
    have n2 : some m ≠ lv.ownBlock := fun e => (own_kind (S := fun x => x = 99) h.row rfl e.symm).ne_map hbl rfl
    exact (Below.heap_setCell _ _ _ _ n1).trans (far3 m (Array.getElem?_eq_some_iff.1 hbl).1 n2)
  have hs4 : (w3.setCell ⟨bb, 0, none⟩ lv').heap.size = w3.heap.size := by simp [World.setCell]
  have sh : ∀ {v n m}, ShowsAt w2 B (Old w2) v n m → ShowsAt (w3.setCell ⟨bb, 0, none⟩ lv') B (Old (w3.setCell ⟨bb, 0, none⟩ lv')) v n m := fun hv => by
    have h1 := own_stays hv.1 fun g hg => hk (own_kind (S := fun x => x = 9) hv.1 rfl hg) (by decide) (by decide)
    exact ⟨h1, fun g hg => (h1.lt g hg).2⟩
  have hkr := own_stays h.book.row fun g hg => hk (own_kind (S := fun x => x = 142) h.book.row rfl hg) (by decide) (by decide)
  have hx : ∀ {B pb rg cap : Nat} {ms : List Nat} {Fs : List Repo}, XAt w2 B pb rg cap ms Fs → XAt (w3.setCell ⟨bb, 0, none⟩ lv') B pb rg cap ms Fs := fun hX => hX.stays (fun g hg => hk hg (by decide) (by decide)) (hmp hX)
  have hr : ∀ {B rb sg : Nat} {vs : List (Value × Value)} {Fs : List Repo}, RAt w2 B rb sg vs Fs → RAt (w3.setCell ⟨bb, 0, none⟩ lv') B rb sg vs Fs := fun hR => hR.stays (fun g hg => hk hg (by decide) (by decide)) (hk (S := fun x => x = 205) ⟨_, 205, hR.row, rfl⟩ (by decide) (by decide))
  refine ⟨⟨h.book.lo, ?_, two_setCell0 hbb3, hkr, fun g hg => (hkr.lt g hg).2, fun e he => ⟨sh (h.book.ents e he).a, sh (h.book.ents e he).b, sh (h.book.ents e he).c, sh (h.book.ents e he).d, (h.book.ents e he).few⟩, h.book.few⟩, ?_, ?_, ?_, ?_, by simpa using hT, by rw [hs4]; exact Nat.le_trans h.lo hsz⟩
  · show bb < _
    rw [hs4]; exact lt_of_block hbb3
  · have := own_set (o := 0) (u := lv') hown hbb3 (by decide)
    simpa using this
  · intro u hu
    rcases List.mem_append.1 hu with hu | hu
    · exact hx (h.x u hu)
    · rw [List.mem_singleton] at hu; subst hu
      exact hx (hX.lower h0.lo)
  · intro u hu
    rcases List.mem_append.1 hu with hu | hu
    · exact hr (h.r u hu)
    · rw [List.mem_singleton] at hu; subst hu
      exact hr (hR.lower h0.lo)
  · rw [List.pairwise_append]
    refine ⟨h.apart, List.pairwise_singleton _ _, fun a ha b hb' => ?_⟩
    rw [List.mem_singleton] at hb'; subst hb'
    refine ⟨fun e => ?_, fun m hm hm2 => ?_⟩
    · have h1 := (h0.r a ha).lt.2
      have h2 := hR.lo2
      omega
    · obtain ⟨es, ck, hbl⟩ := (h0.x a ha).map_block hm
      have h1 := (Array.getElem?_eq_some_iff.1 hbl).1
      have h2 := hX.lo3 m hm2
      omega

set_option maxRecDepth 100000 in
set_option maxHeartbeats 1600000 in
theorem begins9_no (n : Int) (hn : n < 1 ∨ 3 < n) (B bb : Nat) (K : List Ent) (lv kv : Value) (T : List Twin) (w : World) (_h : WAt w B bb K lv kv T) :
    Calls Tryz.prog 52 #[.pointer (some ⟨bb, 0, none⟩), .int .i64 n] w fun e w' => e = .returned (.bool true) ∧ w' = w := by
  have HN : Hid (n < 1 ∨ 3 < n) := hn
  clear hn _h
  go_enter Tryz.func52, Tryz.ntmps52
  go_wp2_with (first | (go_at_call 15; refine (xnew20_no n HN.out _).mono ?_; rintro e w' ⟨rfl, rfl⟩) | (go_at_call 81; refine (new21_no n HN.out _).mono ?_; rintro e w' ⟨rfl, rfl⟩) | (go_at_call 53; refine (num6_any _ _ (by omega) (by omega)).mono ?_; rintro e w' ⟨rfl, rfl⟩))
  go_ret
  exact ⟨rfl, rfl⟩

theorem new21_any (n : Nat) (h1 : 1 ≤ n) (h3 : n ≤ 3) (w : World) :
    Calls Tryz.prog 81 #[.int .i64 n] w fun e w' => ∃ rb sg vs, e = .returned (.tuple #[.pointer (some ⟨rb, 0, none⟩), .int .i64 0]) ∧ RAt w' w.heap.size rb sg vs (List.replicate n []) ∧ Below w.heap.size w w' := by
  obtain rfl | rfl | rfl : n = 1 ∨ n = 2 ∨ n = 3 := by omega
  · exact new21_1 w
  · exact new21_2 w
  · exact new21_3 w

set_option maxRecDepth 100000 in
set_option maxHeartbeats 3200000 in
theorem begins9_yes (n : Nat) (h1 : 1 ≤ n) (h3 : n ≤ 3) (B bb : Nat) (K : List Ent) (lv kv : Value) (T : List Twin) (w : World) (h : WAt w B bb K lv kv T) (hT : T.length + 1 ≤ 10000000) :
    Calls Tryz.prog 52 #[.pointer (some ⟨bb, 0, none⟩), .int .i64 n] w fun e w' => e = .returned (.bool true) ∧ ∃ lv' t, WAt w' B bb K lv' kv (T ++ [t]) ∧ Below B w w' ∧ t.Fs = List.replicate n [] := by
  obtain ⟨i0, hi0, hz0, hz1, hz2⟩ := info_parts info41x
  have HW : Hid (WAt w B bb K lv kv T) := h
  clear h
  go_enter Tryz.func52, Tryz.ntmps52
  go_wp2_with fail
  refine (xnew20_yes n h1 h3 _).mono ?_
  rintro e w1 ⟨pb, rg, cap, ms, rfl, hX1, hb1⟩
  have HX1 : Hid (XAt w1 w.heap.size pb rg cap ms (List.replicate n [])) := hX1
  clear hX1
  go_wp2_with fail
  refine (new21_any n h1 h3 _).mono ?_
  rintro e w2 ⟨rb, sg, vs, rfl, hR2, hb2⟩
  have HX2 : Hid (XAt w2 w.heap.size pb rg cap ms (List.replicate n [])) := HX1.out.below hb2
  have HR2 : Hid (RAt w2 w.heap.size rb sg vs (List.replicate n [])) := hR2.lower hb1.size
  have HB2 : Hid (Below w.heap.size w w2) := hb1.trans (hb2.mono hb1.size)
  have HW2 : Hid (WAt w2 B bb K lv kv T) := HW.out.below HB2.out
  have hbl : w2.heap[bb]? = some (.cells #[lv, kv] 73 (0, 0)) := HW2.out.book.cell
  have hc0 : w2.cell? ⟨bb, 0, none⟩ = some lv := (cell_of_two hbl).1
  have hf0 : w2.frozen? ⟨bb, 0, none⟩ = false := free_of_two hbl
  have hlt : bb < w2.heap.size := lt_of_block hbl
  clear hR2 hb1 hb2 hbl
  have hne : lv.ownBlock ≠ some bb := fun e => by
    obtain ⟨c, t', q1, q2⟩ := own_kind (S := fun x => x = 99) HW2.out.row rfl e
    rw [HW2.out.book.cell] at q1
    injection q1 with q1
    injection q1 with _ q1 _
    subst q1
    cases q2
  go_wp2_with fail
  refine (num6_any _ _ (by omega) (by omega)).mono ?_
  rintro e w' ⟨rfl, rfl⟩
  have hlo := HW2.out.lo
  go_wp2_with (at_builtin; refine wpList_append_lies _ rfl _ _ _ rfl B 99 i0 _ 2 16 Tryz.underlying68 hi0 hz0 hz1 hz2 rfl (by omega) lv T.length (T.flatMap Twin.cells) rfl (HW2.out.row.alloc _) ⟨w'.heap.size, 0, none⟩ 1 1 [.pointer (some ⟨pb, 0, none⟩), .pointer (some ⟨rb, 0, none⟩)] rfl rfl (World.news_of_block (cs := #[.pointer (some ⟨pb, 0, none⟩), .pointer (some ⟨rb, 0, none⟩)]) (t := 99) (fr := (0, 0)) (heap_alloc_new w' _)) (by simp [Value.oneCell']) (by omega) (by unfold maxLen; omega) (by omega) (by simp; omega) (w'.heap.size + 1) (by simp) ?_; intro g cap2 w3 hown3 hgrow hat hlt3; have hc3 : w3.cell? ⟨bb, 0, none⟩ = some lv := (hgrow.cell_far ⟨bb, 0, none⟩ (by simp; omega) (Ne.symm hne)).trans ((alloc_keep (w := w') _ hlt).1.trans hc0); have hf3 : w3.frozen? ⟨bb, 0, none⟩ = false := (hgrow.frozen_far ⟨bb, 0, none⟩ (by simp; omega) (Ne.symm hne)).trans ((alloc_keep (w := w') _ hlt).2.trans hf0))
  have R := WAt.begun (t := ⟨pb, rg, cap, ms, rb, sg, vs, List.replicate n []⟩) HW.out HB2.out hT HX2.out HR2.out hgrow hown3
  have HE : Hid (∃ lv' t, WAt (w3.setCell ⟨bb, 0, none⟩ (.slice (some ⟨g, 0, none⟩) (T.length + 1) cap2)) B bb K lv' kv (T ++ [t]) ∧ Below B w (w3.setCell ⟨bb, 0, none⟩ (.slice (some ⟨g, 0, none⟩) (T.length + 1) cap2)) ∧ t.Fs = List.replicate n []) := by
    refine ⟨_, _, R, ?_, rfl⟩
    have b1 : Below B w w' := HB2.out.mono HW.out.lo
    have b2 : Below B w w3 := (b1.alloc hlo _).grown hgrow (by simp; omega) (fun q e => (HW2.out.row.lt q e).1)
    exact b2.setCell HW2.out.book.lo _
  clear R hown3 hgrow hat hlt3
  go_wp2
  go_ret
  exact ⟨rfl, HE.out⟩
end Go.Proofs.YtgdfipmdmgkidaaGreatDoor
