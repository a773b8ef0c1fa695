/- Does one of some cells lean on a patch: leansOn, and what it calls. -/
import Derived.Test.YtgdfipmdmgkidaaGreatDoorNidx
import Derived.Test.YtgdfipmdmgkidaaGreatDoorQneed
namespace Go.Proofs.YtgdfipmdmgkidaaGreatDoor
open Go.RowKit

theorem run_eql_id (i j : Pid) (w : World) : (binOp .eql 113 (.agg #[.int .u8 i.a, .int .u8 i.b, .int .u8 i.c, .int .u8 i.d]) (.agg #[.int .u8 j.a, .int .u8 j.b, .int .u8 j.c, .int .u8 j.d])).run Tryz.prog w = .ok (.bool (decide (i = j))) w := by
  rw [run_eql_struct, run_eq_id 9998]
  have : (i.a = j.a ∧ i.b = j.b ∧ i.c = j.c ∧ i.d = j.d) ↔ i = j := by
    cases i; cases j; simp
  simp [this]

theorem idx_mem (S : List Spot) (t : Spot) : decide (idxInt (idxS S t) ≥ 0) = decide (t ∈ S) := by
  unfold idxS
  rw [idx_any]
  by_cases h : t ∈ S
  · rw [decide_eq_true h, List.any_eq_true]
    exact ⟨t, h, by simp⟩
  · rw [decide_eq_false h, List.any_eq_false]
    intro s hs e
    simp at e
    exact h (e ▸ hs)

set_option maxRecDepth 100000 in
theorem contains257_any (S : List Spot) (t : Spot) (v0 : Value) (w : World) (hv : SV w v0 S) (hlen : S.length ≤ 1000000) :
    Calls Tryz.prog 257 #[v0, spV t] w fun e w' => e = .returned (.bool (decide (t ∈ S))) ∧ Below w.heap.size w w' := by
  obtain ⟨ao, cap, rfl⟩ := hv.shape
  obtain ⟨w1, hw1⟩ : ∃ w1, w1 = w.alloc (.cells #[.int .u8 t.a, .int .u8 t.b, .int .u8 t.c, .int .u8 t.d, .int .i64 t.num, .string t.line, .bool t.alive] 313) := ⟨_, rfl⟩
  have hb1 : Below w.heap.size w w1 := by rw [hw1]; exact (Below.refl _ _).alloc (Nat.le_refl _) _
  have hk1 := (MapKept.heap_alloc w (.cells #[.int .u8 t.a, .int .u8 t.b, .int .u8 t.c, .int .u8 t.d, .int .i64 t.num, .string t.line, .bool t.alive] 313)).1
  rw [← hw1] at hk1
  have HC : Hid (Calls Tryz.prog 284 #[.slice ao S.length cap, .agg #[.int .u8 t.a, .int .u8 t.b, .int .u8 t.c, .int .u8 t.d, .int .i64 t.num, .string t.line, .bool t.alive]] w1 fun e w' => e = .returned (.int .i64 (idxInt (idxS S t))) ∧ Below w1.heap.size w1 w') := index253_any S t _ w1 (hv.below hb1 (Nat.le_refl _)) hlen
  have HD : Hid (decide (idxInt (idxS S t) ≥ 0) = decide (t ∈ S)) := idx_mem S t
  obtain ⟨n, hn⟩ : ∃ n, idxInt (idxS S t) = n := ⟨_, rfl⟩
  rw [hn] at HC HD
  have d0 : w1.cell? ⟨w.heap.size, 0, none⟩ = some (.int .u8 t.a) := by simp [World.cell?, hk1]
  have d1 : w1.cell? ⟨w.heap.size, 1, none⟩ = some (.int .u8 t.b) := by simp [World.cell?, hk1]
  have d2 : w1.cell? ⟨w.heap.size, 2, none⟩ = some (.int .u8 t.c) := by simp [World.cell?, hk1]
  have d3 : w1.cell? ⟨w.heap.size, 3, none⟩ = some (.int .u8 t.d) := by simp [World.cell?, hk1]
  have d4 : w1.cell? ⟨w.heap.size, 4, none⟩ = some (.int .i64 t.num) := by simp [World.cell?, hk1]
  have d5 : w1.cell? ⟨w.heap.size, 5, none⟩ = some (.string t.line) := by simp [World.cell?, hk1]
  have d6 : w1.cell? ⟨w.heap.size, 6, none⟩ = some (.bool t.alive) := by simp [World.cell?, hk1]
  clear hv hn hk1
  unfold spV
  subst hw1
  go_enter Tryz.func257, Tryz.ntmps257
  go_wp2_with fail
  refine HC.out.mono ?_
  rintro e w' ⟨rfl, hb⟩
  clear HC d0 d1 d2 d3 d4 d5 d6
  go_wp2
  go_ret
  exact ⟨by rw [← HD.out]; rfl, hb1.trans (hb.mono hb1.size)⟩

/-- One cell leans: brought by the patch, or killed by it. -/
def leansB (i : Pid) (K : List Spot) (s : Spot) : Bool := decide (sid s = i) || decide (s ∈ K)

set_option maxRecDepth 100000 in
set_option maxHeartbeats 1600000 in
theorem leans256_any (i : Pid) (K : List Spot) (kv : Value) (ib rb : Nat) (s : Spot) (w : World) (hi : w.heap[ib]? = some (.cells #[.int .u8 i.a, .int .u8 i.b, .int .u8 i.c, .int .u8 i.d] 113 (0, 0))) (hr : w.heap[rb]? = some (.cells #[kv] 183 (0, 0))) (hk : SV w kv K) (hlen : K.length ≤ 1000000) :
    Calls Tryz.prog 256 #[spV s, .pointer (some ⟨ib, 0, none⟩), .pointer (some ⟨rb, 0, none⟩)] w fun e w' => e = .returned (.bool (leansB i K s)) ∧ Below w.heap.size w w' := by
  obtain ⟨ka, kc, rfl⟩ := hk.shape
  have hib := (Array.getElem?_eq_some_iff.1 hi).1
  have hrb := (Array.getElem?_eq_some_iff.1 hr).1
  obtain ⟨w1, hw1⟩ : ∃ w1, w1 = w.alloc (.cells #[.int .u8 s.a, .int .u8 s.b, .int .u8 s.c, .int .u8 s.d, .int .i64 s.num, .string s.line, .bool s.alive] 313) := ⟨_, rfl⟩
  have hb1 : Below w.heap.size w w1 := by rw [hw1]; exact (Below.refl _ _).alloc (Nat.le_refl _) _
  have hk1 := (MapKept.heap_alloc w (.cells #[.int .u8 s.a, .int .u8 s.b, .int .u8 s.c, .int .u8 s.d, .int .i64 s.num, .string s.line, .bool s.alive] 313)).1
  rw [← hw1] at hk1
  have HC : Hid (Calls Tryz.prog 257 #[.slice ka K.length kc, .agg #[.int .u8 s.a, .int .u8 s.b, .int .u8 s.c, .int .u8 s.d, .int .i64 s.num, .string s.line, .bool s.alive]] w1 fun e w' => e = .returned (.bool (decide (s ∈ K))) ∧ Below w1.heap.size w1 w') := contains257_any K s _ w1 (hk.below hb1 (Nat.le_refl _)) hlen
  have d0 : w1.cell? ⟨w.heap.size, 0, none⟩ = some (.int .u8 s.a) := by simp [World.cell?, hk1]
  have d1 : w1.cell? ⟨w.heap.size, 1, none⟩ = some (.int .u8 s.b) := by simp [World.cell?, hk1]
  have d2 : w1.cell? ⟨w.heap.size, 2, none⟩ = some (.int .u8 s.c) := by simp [World.cell?, hk1]
  have d3 : w1.cell? ⟨w.heap.size, 3, none⟩ = some (.int .u8 s.d) := by simp [World.cell?, hk1]
  have d4 : w1.cell? ⟨w.heap.size, 4, none⟩ = some (.int .i64 s.num) := by simp [World.cell?, hk1]
  have d5 : w1.cell? ⟨w.heap.size, 5, none⟩ = some (.string s.line) := by simp [World.cell?, hk1]
  have d6 : w1.cell? ⟨w.heap.size, 6, none⟩ = some (.bool s.alive) := by simp [World.cell?, hk1]
  have hi1 := (hb1.block ib hib).trans hi
  have hr1 := (hb1.block rb hrb).trans hr
  have i0 : w1.cell? ⟨ib, 0, none⟩ = some (.int .u8 i.a) := by simp [World.cell?, hi1]
  have i1 : w1.cell? ⟨ib, 1, none⟩ = some (.int .u8 i.b) := by simp [World.cell?, hi1]
  have i2 : w1.cell? ⟨ib, 2, none⟩ = some (.int .u8 i.c) := by simp [World.cell?, hi1]
  have i3 : w1.cell? ⟨ib, 3, none⟩ = some (.int .u8 i.d) := by simp [World.cell?, hi1]
  have r0 : w1.cell? ⟨rb, 0, none⟩ = some (.slice ka K.length kc) := by simp [World.cell?, hr1]
  obtain ⟨bq, hbq⟩ : ∃ b, decide (sid s = i) = b := ⟨_, rfl⟩
  have hq : ∀ u : World, (binOp .eql 113 (.agg #[.int .u8 s.a, .int .u8 s.b, .int .u8 s.c, .int .u8 s.d]) (.agg #[.int .u8 i.a, .int .u8 i.b, .int .u8 i.c, .int .u8 i.d])).run Tryz.prog u = .ok (.bool bq) u := fun u => by
    rw [← hbq]
    exact run_eql_id (sid s) i u
  clear hk hk1 hi hr hi1 hr1
  unfold spV
  subst hw1
  go_enter Tryz.func256, Tryz.ntmps256
  cases bq
  · have HE : Hid (decide (sid s = i) = false) := hbq
    clear hbq
    go_wp2_with fail
    refine HC.out.mono ?_
    rintro e w' ⟨rfl, hb⟩
    clear HC d0 d1 d2 d3 d4 d5 d6 i0 i1 i2 i3 r0 hq
    go_wp2
    go_ret
    exact ⟨by unfold leansB; rw [HE.out, Bool.false_or]; rfl, hb1.trans (hb.mono hb1.size)⟩
  · have HE : Hid (decide (sid s = i) = true) := hbq
    clear hbq HC
    go_wp2
    go_ret
    exact ⟨by unfold leansB; rw [HE.out, Bool.true_or]; rfl, hb1⟩

set_option maxRecDepth 100000 in
set_option maxHeartbeats 1600000 in
theorem leans226_any (N : List Spot) (i : Pid) (K : List Spot) (nv kv : Value) (w : World) (hn : SV w nv N) (hk : SV w kv K) (hN : N.length ≤ 1000000) (hK : K.length ≤ 1000000) :
    Calls Tryz.prog 226 #[nv, .agg #[.int .u8 i.a, .int .u8 i.b, .int .u8 i.c, .int .u8 i.d], kv] w fun e w' => e = .returned (.bool (N.any (leansB i K))) ∧ Below w.heap.size w w' := by
  obtain ⟨na, nc, rfl⟩ := hn.shape
  obtain ⟨ka, kc, rfl⟩ := hk.shape
  obtain ⟨w2, hw2⟩ : ∃ w2, w2 = (w.alloc (.cells #[.int .u8 i.a, .int .u8 i.b, .int .u8 i.c, .int .u8 i.d] 113)).alloc (.cells #[.slice ka K.length kc] 183) := ⟨_, rfl⟩
  obtain ⟨hb2, hs2, hA, hR⟩ := two_blocks' w _ _ hw2
  have HC : Hid (Calls Tryz.prog 255 #[.slice na N.length nc, .func (.func 256) #[] #[.pointer (some ⟨w.heap.size, 0, none⟩), .pointer (some ⟨w.heap.size + 1, 0, none⟩)]] w2 fun e w' => e = .returned (.bool (N.any (leansB i K))) ∧ Below w2.heap.size w2 w') := by
    refine anyf255_any N (leansB i K) 256 _ (fun _ _ => by kernel_rfl) _ w2 (hn.below hb2 (Nat.le_refl _)) hN (fun s _ u hu => ?_)
    refine leans256_any i K (.slice ka K.length kc) w.heap.size (w.heap.size + 1) s u ((hu.block _ (by omega)).trans hA) ((hu.block _ (by omega)).trans hR) (hk.below (hb2.trans (hu.mono hb2.size)) (Nat.le_refl _)) hK
  clear hn hk hA hR
  go_enter Tryz.func226, Tryz.ntmps226
  go_wp2_with fail
  rw [← hw2]
  clear hw2
  refine HC.out.mono ?_
  rintro e w' ⟨rfl, hb⟩
  clear HC
  go_wp2
  go_ret
  exact ⟨rfl, hb2.trans (hb.mono hb2.size)⟩

set_option maxRecDepth 100000 in
theorem whole337_any (i : Pid) (al : Bool) (w : World) :
    Calls Tryz.prog 337 #[.agg #[.int .u8 i.a, .int .u8 i.b, .int .u8 i.c, .int .u8 i.d], .bool al] w fun e w' => ∃ g, e = .returned (.slice (some ⟨g, 0, none⟩) 1 1) ∧ w'.ownsRow w.heap.size 313 7 (.slice (some ⟨g, 0, none⟩) 1 1) 1 (rowC [wholeS i al]) ∧ Below w.heap.size w w' := by
  obtain ⟨w1, hw1⟩ : ∃ w1, w1 = w.alloc (.cells #[.int .u8 i.a, .int .u8 i.b, .int .u8 i.c, .int .u8 i.d] 113) := ⟨_, rfl⟩
  have hb1 : Below w.heap.size w w1 := by rw [hw1]; exact (Below.refl _ _).alloc (Nat.le_refl _) _
  have hk1 := (MapKept.heap_alloc w (.cells #[.int .u8 i.a, .int .u8 i.b, .int .u8 i.c, .int .u8 i.d] 113)).1
  rw [← hw1] at hk1
  have i0 : w1.cell? ⟨w.heap.size, 0, none⟩ = some (.int .u8 i.a) := by simp [World.cell?, hk1]
  have i1 : w1.cell? ⟨w.heap.size, 1, none⟩ = some (.int .u8 i.b) := by simp [World.cell?, hk1]
  have i2 : w1.cell? ⟨w.heap.size, 2, none⟩ = some (.int .u8 i.c) := by simp [World.cell?, hk1]
  have i3 : w1.cell? ⟨w.heap.size, 3, none⟩ = some (.int .u8 i.d) := by simp [World.cell?, hk1]
  have hs1 : w1.heap.size = w.heap.size + 1 := by rw [hw1]; simp
  clear hk1
  subst hw1
  go_enter Tryz.func337, Tryz.ntmps337
  go_wp2
  go_ret
  generalize w.alloc (.cells #[.int .u8 i.a, .int .u8 i.b, .int .u8 i.c, .int .u8 i.d] 113) = w1 at *
  refine ⟨w.heap.size + 1, rfl, ?_, hb1.alloc (by omega) _⟩
  have := own_new w1 [wholeS i al] #[.int .u8 i.a, .int .u8 i.b, .int .u8 i.c, .int .u8 i.d, .int .i64 (-3), .string ⟨#[]⟩, .bool al] rfl (by simp)
  rw [hs1] at this
  exact ownsRow_mono this (by omega)
end Go.Proofs.YtgdfipmdmgkidaaGreatDoor

/- What a change names. -/
namespace Go.Proofs.YtgdfipmdmgkidaaGreatDoor
open Go.RowKit

set_option maxRecDepth 100000 in
theorem names335_any (i l : Pid) (rv : Value) (S : List Spot) (w : World) (hr : SV w rv S) :
    Calls Tryz.prog 335 #[.agg #[.int .u8 i.a, .int .u8 i.b, .int .u8 i.c, .int .u8 i.d, .int .u8 l.a, .int .u8 l.b, .int .u8 l.c, .int .u8 l.d, rv]] w fun e w' => ∃ v, e = .returned v ∧ SV w' v [wholeS l false] ∧ Below w.heap.size w w' := by
  obtain ⟨ra, rc, rfl⟩ := hr.shape
  obtain ⟨w1, hw1⟩ : ∃ w1, w1 = w.alloc (.cells #[.int .u8 i.a, .int .u8 i.b, .int .u8 i.c, .int .u8 i.d, .int .u8 l.a, .int .u8 l.b, .int .u8 l.c, .int .u8 l.d, .slice ra S.length rc] 282) := ⟨_, rfl⟩
  have hb1 : Below w.heap.size w w1 := by rw [hw1]; exact (Below.refl _ _).alloc (Nat.le_refl _) _
  have hk1 := (MapKept.heap_alloc w (.cells #[.int .u8 i.a, .int .u8 i.b, .int .u8 i.c, .int .u8 i.d, .int .u8 l.a, .int .u8 l.b, .int .u8 l.c, .int .u8 l.d, .slice ra S.length rc] 282)).1
  rw [← hw1] at hk1
  have i0 : w1.cell? ⟨w.heap.size, 4, none⟩ = some (.int .u8 l.a) := by simp [World.cell?, hk1]
  have i1 : w1.cell? ⟨w.heap.size, 5, none⟩ = some (.int .u8 l.b) := by simp [World.cell?, hk1]
  have i2 : w1.cell? ⟨w.heap.size, 6, none⟩ = some (.int .u8 l.c) := by simp [World.cell?, hk1]
  have i3 : w1.cell? ⟨w.heap.size, 7, none⟩ = some (.int .u8 l.d) := by simp [World.cell?, hk1]
  have HC := whole337_any l false w1
  clear hk1 hr
  subst hw1
  go_enter Tryz.func335, Tryz.ntmps335
  go_wp2_with fail
  refine HC.mono ?_
  rintro e w' ⟨g, rfl, ho, hb⟩
  clear HC i0 i1 i2 i3
  go_wp2
  go_ret
  exact ⟨_, rfl, SV.own ho, hb1.trans (hb.mono hb1.size)⟩

theorem HV.nth {w : World} {ha : Option Addr} {hn hc : Nat} {Hs : List Hk} (h : HV w (.slice ha hn hc) Hs) {k : Nat} {x : Hk} (hk : Hs[k]? = some x) : ∃ b o, ha = some ⟨b, o, none⟩ ∧ TB w b 327 ∧ w.cell? ⟨b, o + k * 2, none⟩ = some x.nv ∧ w.cell? ⟨b, o + k * 2 + 1, none⟩ = some x.bv ∧ SV w x.nv x.N ∧ SV w x.bv x.Br := by
  obtain ⟨_, _, e, hcc⟩ := h
  cases e
  exact hcc k x hk
/-- What the first hunks name, behind the file itself. -/
def nmTo (i : Pid) (Hs : List Hk) (k : Nat) : List Spot := wholeS i true :: (Hs.take k).flatMap (·.N)
theorem nmTo_succ {i : Pid} {Hs : List Hk} {k : Nat} {x : Hk} (h : Hs[k]? = some x) : nmTo i Hs (k + 1) = nmTo i Hs k ++ x.N := by
  unfold nmTo
  rw [List.take_add_one, h]
  simp
theorem nmTo_len {i : Pid} {Hs : List Hk} (k : Nat) {m : Nat} (h : ∀ x ∈ Hs, x.N.length ≤ m) : (nmTo i Hs k).length ≤ 1 + Hs.length * m := by
  unfold nmTo
  have h1 : ∀ L : List Hk, (∀ x ∈ L, x.N.length ≤ m) → (L.flatMap (·.N)).length ≤ L.length * m := by
    intro L
    induction L with
    | nil => simp
    | cons x L ih =>
      intro hL
      have := ih (fun y hy => hL y (List.mem_cons_of_mem _ hy))
      have := hL x List.mem_cons_self
      simp only [List.flatMap_cons, List.length_append, List.length_cons, Nat.add_mul]
      omega
  have h2 := h1 (Hs.take k) (fun x hx => h x (List.mem_of_mem_take hx))
  have h3 : (Hs.take k).length * m ≤ Hs.length * m := Nat.mul_le_mul_right _ (by simp; omega)
  simp only [List.length_cons]
  omega

set_option maxRecDepth 100000 in
set_option maxHeartbeats 3200000 in
theorem names353_any (i : Pid) (hv : Value) (Hs : List Hk) (w : World) (hh : HV w hv Hs) (hl : Hs.length ≤ 1000) (hN : ∀ x ∈ Hs, x.N.length ≤ 1000) :
    Calls Tryz.prog 353 #[.agg #[.int .u8 i.a, .int .u8 i.b, .int .u8 i.c, .int .u8 i.d, hv]] w fun e w' => ∃ v, e = .returned v ∧ SV w' v (wholeS i true :: Hs.flatMap (·.N)) ∧ Below w.heap.size w w' := by
  have HH : Hid (HV w hv Hs) := hh
  obtain ⟨ha, hc, rfl, _⟩ := hh
  obtain ⟨w1, hw1⟩ : ∃ w1, w1 = w.alloc (.cells #[.int .u8 i.a, .int .u8 i.b, .int .u8 i.c, .int .u8 i.d, .slice ha Hs.length hc] 288) := ⟨_, rfl⟩
  have hb1 : Below w.heap.size w w1 := by rw [hw1]; exact (Below.refl _ _).alloc (Nat.le_refl _) _
  have hk1 := (MapKept.heap_alloc w (.cells #[.int .u8 i.a, .int .u8 i.b, .int .u8 i.c, .int .u8 i.d, .slice ha Hs.length hc] 288)).1
  rw [← hw1] at hk1
  obtain ⟨i0, i1, i2, i3, i4⟩ := cells5_of hk1
  have HK : Hid (w1.heap[w.heap.size]? = some (.cells #[.int .u8 i.a, .int .u8 i.b, .int .u8 i.c, .int .u8 i.d, .slice ha Hs.length hc] 288 (0, 0))) := hk1
  have hs1 : w.heap.size < w1.heap.size := by rw [hw1]; simp
  have HC := whole337_any i true w1
  have HN : Hid (∀ k, (nmTo i Hs k).length ≤ 1 + Hs.length * 1000) := fun k => nmTo_len k hN
  have hl3 : Hs.length * 1000 ≤ 1000000 := by omega
  clear hk1 hN
  go_enter Tryz.func353, Tryz.ntmps353
  go_wp2_with fail
  rw [← hw1]
  clear hw1
  go_wp2_with fail
  refine HC.mono ?_
  rintro e w2 ⟨g, rfl, ho, hb2⟩
  clear HC i0 i1 i2 i3 i4
  have i4 : w2.cell? ⟨w.heap.size, 4, none⟩ = some (.slice ha Hs.length hc) := (cells5_of ((hb2.block _ hs1).trans HK.out)).2.2.2.2
  have hb02 : Below w.heap.size w w2 := hb1.trans (hb2.mono hb1.size)
  have HO : Hid (w2.ownsRow w.heap.size 313 7 (.slice (some ⟨g, 0, none⟩) 1 1) (nmTo i Hs 0).length (rowC (nmTo i Hs 0))) := ownsRow_mono ho hb1.size
  clear ho hb2 HK
  go_wp2
  clear i4
  go_loopw [3, 12] (fun v x wr => ∃ k : Nat, k ≤ Hs.length ∧ x = .int .i64 k ∧ Hid (wr.ownsRow w.heap.size 313 7 v (nmTo i Hs k).length (rowC (nmTo i Hs k))) ∧ Below w.heap.size w wr) (fun _ x _ => Hs.length - (intOf x).toNat)
  case atStart => exact ⟨0, Nat.zero_le _, rfl, HO, hb02⟩
  case round =>
    clear HO
    obtain ⟨k, hk, rfl, HO, hbw⟩ := hrel
    have hsz := hbw.size
    by_cases hlt : k < Hs.length
    · obtain ⟨x, hx⟩ : ∃ x, Hs[k]? = some x := ⟨_, List.getElem?_eq_getElem hlt⟩
      obtain ⟨b, o, rfl, hb, c0, c1, s0, s1⟩ := (HH.out.below hbw (Nat.le_refl _)).nth hx
      obtain ⟨na, nc, hne⟩ := s0.shape
      obtain ⟨ba, bc, hbe⟩ := s1.shape
      rw [hne] at c0 s0
      rw [hbe] at c1
      have HS : Hid (nmTo i Hs (k + 1) = nmTo i Hs k ++ x.N) := nmTo_succ hx
      have hlen := HN.out (k + 1)
      rw [HS.out, List.length_append] at hlen
      obtain ⟨w4, hw4⟩ : ∃ w4, w4 = wr.alloc (.cells #[.slice na x.N.length nc, .slice ba x.Br.length bc] 327) := ⟨_, rfl⟩
      have hb4 : Below wr.heap.size wr w4 := by rw [hw4]; exact (Below.refl _ _).alloc (Nat.le_refl _) _
      have hk4 := (MapKept.heap_alloc wr (.cells #[.slice na x.N.length nc, .slice ba x.Br.length bc] 327)).1
      rw [← hw4] at hk4
      obtain ⟨d0, d1⟩ := cells2_of hk4
      have ho4 := own_below HO.out hb4 (Nat.le_refl _)
      have s4 := s0.below hb4 (Nat.le_refl _)
      have hb04 : Below w.heap.size w w4 := hbw.trans (hb4.mono hsz)
      have hsz4 := hb04.size
      clear hx hne hbe s0 s1 hk4 hb4
      generalize nmTo i Hs k = A at *
      generalize x.N = D at *
      subst hw4
      go_wp2_with (at_builtin; refine wpList_append_row _ rfl _ _ rfl w.heap.size _ A D _ rfl ho4 rfl s4 (by omega) hsz4 ?_)
      intro v' w5 h1 h2
      have hb5 := step_any (Nat.le_refl _) ho4 hb04 hsz4 h2
      clear h2 ho4 hb04 d0 d1 s4
      go_wp2
      go_roundw
      case rel => exact ⟨k + 1, by omega, by go_num, by show World.ownsRow _ _ _ _ _ _ _; rw [HS.out, rowC_app, List.length_append]; exact h1, hb5⟩
      case measure => simp [intOf]; omega
    · obtain rfl : k = Hs.length := by omega
      go_wp2
      go_ret
      refine ⟨_, rfl, ?_, hbw⟩
      have := SV.own HO.out
      unfold nmTo at this
      rw [List.take_length] at this
      exact this
end Go.Proofs.YtgdfipmdmgkidaaGreatDoor
