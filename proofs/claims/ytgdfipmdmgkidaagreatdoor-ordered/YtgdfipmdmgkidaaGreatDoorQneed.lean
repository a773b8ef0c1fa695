/- Mathematics: what a change names and kills; a patch that was made last is needed by none. -/
import Derived.Test.YtgdfipmdmgkidaaGreatDoorPstand
import Derived.Test.YtgdfipmdmgkidaaGreatDoorPmake
namespace Go.Proofs.YtgdfipmdmgkidaaGreatDoor
open Go.RowKit

abbrev zid : Pid := ⟨0, 0, 0, 0⟩
/-- The whole file, as a cell. -/
def wholeS (i : Pid) (al : Bool) : Spot := ⟨i.a, i.b, i.c, i.d, -3, ByteArray.empty, al⟩
/-- What is killed of some cells. -/
def killedS (S : List Spot) : List Spot := deadRow (aliveOf S)
def namesOf : ChM → List Spot
  | .add _ l _ _ => [wholeS l false]
  | .remove i _ S => wholeS i true :: S
  | .alter i _ Hs => wholeS i true :: Hs.flatMap (·.N)
def killsOf : ChM → List Spot
  | .add .. => []
  | .remove i _ S => killedS (wholeS i true :: S)
  | .alter _ _ Hs => Hs.flatMap fun h => killedS (midRow h.N)
def leansOn (N : List Spot) (i : Pid) (K : List Spot) : Prop := ∃ s ∈ N, sid s = i ∨ s ∈ K
def NeedsP (P Q : PM) : Prop := ∃ c ∈ P.Cs, ∃ d ∈ Q.Cs, c.1 = d.1 ∧ leansOn (namesOf c.2) Q.id (killsOf d.2)

theorem killed_mem {S : List Spot} {s : Spot} (h : s ∈ killedS S) : ∃ t ∈ S, t.alive = true ∧ s = deadS t := by
  obtain ⟨t, ht, rfl⟩ := List.mem_map.1 h
  obtain ⟨h1, h2⟩ := List.mem_filter.1 ht
  exact ⟨t, h1, h2, rfl⟩
/-- The cells that live in a file, and the file itself. -/
def liveC (p : PL) : List (Pid × Int) := if p.alive = true then (p.by_, -3) :: (aliveOf p.S).map cid else []
theorem live_mem {p : PL} {s : Spot} (ha : p.alive = true) (hs : s ∈ p.S) (h : s.alive = true) : cid s ∈ liveC p := by
  unfold liveC
  rw [if_pos ha]
  exact List.mem_cons_of_mem _ (List.mem_map.2 ⟨s, List.mem_filter.2 ⟨hs, h⟩, rfl⟩)
theorem live_inv {p : PL} {c : Pid × Int} (h : c ∈ liveC p) : p.alive = true ∧ (c = (p.by_, -3) ∨ ∃ s ∈ p.S, s.alive = true ∧ c = cid s) := by
  unfold liveC at h
  split at h
  · rename_i ha
    rcases List.mem_cons.1 h with h | h
    · exact ⟨ha, .inl h⟩
    · obtain ⟨s, hs, rfl⟩ := List.mem_map.1 h
      obtain ⟨h1, h2⟩ := List.mem_filter.1 hs
      exact ⟨ha, .inr ⟨s, h1, h2, rfl⟩⟩
  · simp at h

/-- The cells of a file are in order. -/
structure CellsOK (ids : List Pid) (p : PL) : Prop where
  nd : (p.S.map cid).Nodup
  own : ∀ s ∈ p.S, sid s ∈ ids ∧ 0 ≤ s.num
  byA : p.alive = true → p.by_ ∈ ids
  byZ : p.by_ ∈ ids ∨ p.by_ = zid
  dead : p.alive = false → ∀ s ∈ p.S, s.alive = false
/-- What some changes of a file name: nothing of other patches; and what they name dead lives no more. -/
def NamedOK (ids : List Pid) (c : ChM) (p : PL) : Prop := ∀ t ∈ namesOf c, (sid t ∈ ids ∨ sid t = zid) ∧ (t.alive = false → cid t ∉ liveC p)

theorem nd_alive {S : List Spot} (h : (S.map cid).Nodup) {s t : Spot} (hs : s ∈ S) (ht : t ∈ S) (e : cid s = cid t) : s = t := by
  induction S with
  | nil => simp at hs
  | cons x S ih =>
    rw [List.map_cons, List.nodup_cons] at h
    rcases List.mem_cons.1 hs with e1 | hs' <;> rcases List.mem_cons.1 ht with e2 | ht'
    · rw [e1, e2]
    · exact absurd (List.mem_map.2 ⟨t, ht', by rw [← e, e1]⟩) h.1
    · exact absurd (List.mem_map.2 ⟨s, hs', by rw [e, e2]⟩) h.1
    · exact ih h.2 hs' ht'

theorem midRow_mem {N : List Spot} {s : Spot} (h : s ∈ midRow N) : s ∈ N := List.mem_of_mem_take (List.mem_of_mem_drop h)
theorem named_mem {F : List Spot} {q : Quad} {s : Spot} (h : s ∈ namedOf F q) : s ∈ F := List.mem_of_mem_take (List.mem_of_mem_drop h)
theorem framed_mem {S : List Spot} {s : Spot} (h : s ∈ framed S) : s = begS ∨ s ∈ S ∨ s = endS := by
  unfold framed at h
  rcases List.mem_cons.1 h with h | h
  · exact .inl h
  · rcases List.mem_append.1 h with h | h
    · exact .inr (.inl h)
    · exact .inr (.inr (List.mem_singleton.1 h))
theorem cids_framed {ids : List Pid} {p : PL} (h : CellsOK ids p) (_hz : zid ∉ ids) : ((framed p.S).map cid).Nodup := by
  unfold framed
  rw [List.map_cons, List.map_append, List.nodup_cons, List.nodup_append]
  have hS : ∀ c ∈ p.S.map cid, 0 ≤ c.2 := fun c hc => by
    obtain ⟨s, hs, rfl⟩ := List.mem_map.1 hc
    exact (h.own s hs).2
  refine ⟨fun hm => ?_, h.nd, by simp, fun a ha b hb e => ?_⟩
  · rcases List.mem_append.1 hm with hm | hm
    · have := hS _ hm
      simp [cid, begS, edgeS] at this
    · simp [cid, begS, endS, edgeS] at hm
  · subst e
    have := hS _ ha
    simp only [List.map_cons, List.map_nil, List.mem_singleton] at hb
    rw [hb] at this
    simp [cid, endS, edgeS] at this
theorem nodup_of_map {S : List Spot} (h : (S.map cid).Nodup) : S.Nodup := by
  rw [List.Nodup, List.pairwise_map] at h
  exact h.imp fun hne e => hne (by rw [e])
theorem fresh_framed {ids : List Pid} {p : PL} (h : CellsOK ids p) {i : Pid} (hi : i ∉ ids) (hz : i ≠ zid) : ∀ s ∈ framed p.S, ¬ (s.a = i.a ∧ s.b = i.b ∧ s.c = i.c ∧ s.d = i.d) := by
  rintro s hs ⟨h1, h2, h3, h4⟩
  have e : sid s = i := by unfold sid; rw [h1, h2, h3, h4]
  rcases framed_mem hs with rfl | hs | rfl
  · exact hz (by rw [← e]; rfl)
  · exact hi (e ▸ (h.own s hs).1)
  · exact hz (by rw [← e]; rfl)

/-- What a change that is made now names and kills. -/
theorem made_names {ids : List Pid} {p : PL} (h : CellsOK ids p) {i : Pid} {n n' : Int} {there : Bool} {text : ByteArray} {c : ChM} (hc : ChMade p i n there text c n') : ∀ t ∈ namesOf c, (sid t ∈ ids ∨ sid t = zid) ∧ (t.alive = false → cid t ∉ liveC p) := by
  have hrow : p.alive = true → ∀ t, t ∈ p.S → (sid t ∈ ids ∨ sid t = zid) ∧ (t.alive = false → cid t ∉ liveC p) := fun ha t ht => by
    refine ⟨.inl (h.own t ht).1, fun hd hl => ?_⟩
    obtain ⟨_, hl⟩ := live_inv hl
    rcases hl with hl | ⟨s, hs, h2, h3⟩
    · have := (h.own t ht).2
      have e2 : t.num = -3 := congrArg Prod.snd hl
      omega
    · have := nd_alive h.nd ht hs h3
      subst this
      rw [hd] at h2
      cases h2
  have hwh : ∀ al, p.alive = true → al = true → (sid (wholeS p.by_ al) ∈ ids ∨ sid (wholeS p.by_ al) = zid) ∧ ((wholeS p.by_ al).alive = false → cid (wholeS p.by_ al) ∉ liveC p) := fun al ha e => by
    subst e
    exact ⟨.inl (h.byA ha), fun hd => by cases hd⟩
  cases c with
  | add i' l rv S =>
    obtain ⟨h1, _, rfl, _⟩ := hc
    intro t ht
    rw [List.mem_singleton.1 ht]
    refine ⟨h.byZ, fun _ hl => ?_⟩
    have := (live_inv hl).1
    rw [h1] at this
    cases this
  | remove i' rv S =>
    obtain ⟨h1, _, rfl, rfl, _⟩ := hc
    intro t ht
    rcases List.mem_cons.1 ht with rfl | ht
    · exact hwh true h1 rfl
    · exact hrow h1 t ht
  | alter i' hv Hs =>
    obtain ⟨h1, _, rfl, Q, hg, hm, _⟩ := hc
    intro t ht
    rcases List.mem_cons.1 ht with rfl | ht
    · exact hwh true h1 rfl
    · obtain ⟨x, hx, ht⟩ := List.mem_flatMap.1 ht
      obtain ⟨k, hk⟩ := List.mem_iff_getElem?.1 hx
      obtain ⟨q, _, e, _⟩ := hm.2 k x hk
      rw [e] at ht
      rcases framed_mem (named_mem ht) with rfl | hs | rfl
      · exact ⟨.inr rfl, fun hd => by cases hd⟩
      · exact hrow h1 t hs
      · exact ⟨.inr rfl, fun hd => by cases hd⟩
theorem mid_inner {S : List Spot} {q : Quad} (hik : q.i ≤ q.k) (hk : q.k + 1 < (living (framed S)).length) {s : Spot} (h : s ∈ midRow (namedOf (framed S) q)) : s ∈ S := by
  have h1 : av (framed S) q < bv (framed S) q ∧ bv (framed S) q < (framed S).length := by
    have := GOrd.at (F := framed S) (x := 0) (q := q) (R := []) ⟨Nat.zero_le _, hik, hk, trivial⟩
    exact ⟨this.2.1, this.2.2.1⟩
  have e : midRow (namedOf (framed S) q) = ((framed S).take (bv (framed S) q)).drop (av (framed S) q + 1) := mid_named h1.1 h1.2
  rw [e] at h
  have hl : (framed S).length = S.length + 2 := by simp [framed]
  have hb : bv (framed S) q ≤ (begS :: S).length := by
    have := h1.2
    rw [hl] at this
    rw [List.length_cons]
    omega
  have e2 : (framed S).take (bv (framed S) q) = (begS :: S).take (bv (framed S) q) := by
    show ((begS :: S) ++ [endS]).take _ = _
    rw [List.take_append_of_le_length hb]
  obtain ⟨b', hb'⟩ : ∃ b', bv (framed S) q = b' + 1 := ⟨bv (framed S) q - 1, by have := h1.1; omega⟩
  rw [e2, hb', List.take_succ_cons, List.drop_succ_cons] at h
  exact List.mem_of_mem_take (List.mem_of_mem_drop h)
theorem made_kills {ids : List Pid} {p : PL} (_h : CellsOK ids p) {i : Pid} {n n' : Int} {there : Bool} {text : ByteArray} {c : ChM} (hc : ChMade p i n there text c n') : ∀ s ∈ killsOf c, s.alive = false ∧ cid s ∈ liveC p := by
  cases c with
  | add i' l rv S => intro s hs; simp [killsOf] at hs
  | remove i' rv S =>
    obtain ⟨h1, _, rfl, rfl, _⟩ := hc
    intro s hs
    obtain ⟨t, ht, ha, rfl⟩ := killed_mem hs
    refine ⟨rfl, ?_⟩
    rw [cid_dead]
    rcases List.mem_cons.1 ht with rfl | ht
    · unfold liveC
      rw [if_pos h1]
      exact List.mem_cons_self
    · exact live_mem h1 ht ha
  | alter i' hv Hs =>
    obtain ⟨h1, _, rfl, Q, hg, hm, _⟩ := hc
    intro s hs
    obtain ⟨x, hx, hs⟩ := List.mem_flatMap.1 hs
    obtain ⟨t, ht, ha, rfl⟩ := killed_mem hs
    refine ⟨rfl, ?_⟩
    rw [cid_dead]
    obtain ⟨k, hk⟩ := List.mem_iff_getElem?.1 hx
    obtain ⟨q, hq, e, _⟩ := hm.2 k x hk
    rw [e] at ht
    have ho := hg.ord (Nat.zero_le _) (Nat.zero_le _)
    have hqo := gord_mem ho (List.mem_of_getElem? hq)
    have hlf := living_framed p.S
    exact live_mem h1 (mid_inner hqo.1 (by omega) ht) ha
where
  gord_mem {m : Nat} : ∀ {x : Nat} {Q : List Quad}, GOrd m x Q → ∀ {q : Quad}, q ∈ Q → q.i ≤ q.k ∧ q.k + 1 < m
    | _, [], _, _, hq => by simp at hq
    | _, q' :: R, h, q, hq => by
      rcases List.mem_cons.1 hq with rfl | hq
      · exact ⟨h.2.1, h.2.2.1⟩
      · exact gord_mem h.2.2.2 hq
end Go.Proofs.YtgdfipmdmgkidaaGreatDoor

/- Does one of some cells lean on a patch: leansOn, and what it calls. -/
namespace Go.Proofs.YtgdfipmdmgkidaaGreatDoor
open Go.RowKit

theorem run_eql_id (i j : Pid) (w : World) : (binOp .eql 113 (.agg #[.int .u8 i.a, .int .u8 i.b, .int .u8 i.c, .int .u8 i.d]) (.agg #[.int .u8 j.a, .int .u8 j.b, .int .u8 j.c, .int .u8 j.d])).run Tryz.prog w = .ok (.bool (decide (i = j))) w := by
  rw [run_eql_struct, run_eq_id 9998]
  have : (i.a = j.a ∧ i.b = j.b ∧ i.c = j.c ∧ i.d = j.d) ↔ i = j := by
    cases i; cases j; simp
  simp [this]

theorem idx_mem (S : List Spot) (t : Spot) : decide (idxInt (idxS S t) ≥ 0) = decide (t ∈ S) := by
  unfold idxS
  rw [idx_any]
  by_cases h : t ∈ S
  · rw [decide_eq_true h, List.any_eq_true]
    exact ⟨t, h, by simp⟩
  · rw [decide_eq_false h, List.any_eq_false]
    intro s hs e
    simp at e
    exact h (e ▸ hs)

set_option maxRecDepth 100000 in
theorem contains257_any (S : List Spot) (t : Spot) (v0 : Value) (w : World) (hv : SV w v0 S) (hlen : S.length ≤ 1000000) :
    Calls Tryz.prog 257 #[v0, spV t] w fun e w' => e = .returned (.bool (decide (t ∈ S))) ∧ Below w.heap.size w w' := by
  obtain ⟨ao, cap, rfl⟩ := hv.shape
  obtain ⟨w1, hw1⟩ : ∃ w1, w1 = w.alloc (.cells #[.int .u8 t.a, .int .u8 t.b, .int .u8 t.c, .int .u8 t.d, .int .i64 t.num, .string t.line, .bool t.alive] 313) := ⟨_, rfl⟩
  have hb1 : Below w.heap.size w w1 := by rw [hw1]; exact (Below.refl _ _).alloc (Nat.le_refl _) _
  have hk1 := (MapKept.heap_alloc w (.cells #[.int .u8 t.a, .int .u8 t.b, .int .u8 t.c, .int .u8 t.d, .int .i64 t.num, .string t.line, .bool t.alive] 313)).1
  rw [← hw1] at hk1
  have HC : Hid (Calls Tryz.prog 284 #[.slice ao S.length cap, .agg #[.int .u8 t.a, .int .u8 t.b, .int .u8 t.c, .int .u8 t.d, .int .i64 t.num, .string t.line, .bool t.alive]] w1 fun e w' => e = .returned (.int .i64 (idxInt (idxS S t))) ∧ Below w1.heap.size w1 w') := index253_any S t _ w1 (hv.below hb1 (Nat.le_refl _)) hlen
  have HD := hid (idx_mem S t)
  obtain ⟨n, hn⟩ : ∃ n, idxInt (idxS S t) = n := ⟨_, rfl⟩
  rw [hn] at HC HD
  have d0 : w1.cell? ⟨w.heap.size, 0, none⟩ = some (.int .u8 t.a) := by simp [World.cell?, hk1]
  have d1 : w1.cell? ⟨w.heap.size, 1, none⟩ = some (.int .u8 t.b) := by simp [World.cell?, hk1]
  have d2 : w1.cell? ⟨w.heap.size, 2, none⟩ = some (.int .u8 t.c) := by simp [World.cell?, hk1]
  have d3 : w1.cell? ⟨w.heap.size, 3, none⟩ = some (.int .u8 t.d) := by simp [World.cell?, hk1]
  have d4 : w1.cell? ⟨w.heap.size, 4, none⟩ = some (.int .i64 t.num) := by simp [World.cell?, hk1]
  have d5 : w1.cell? ⟨w.heap.size, 5, none⟩ = some (.string t.line) := by simp [World.cell?, hk1]
  have d6 : w1.cell? ⟨w.heap.size, 6, none⟩ = some (.bool t.alive) := by simp [World.cell?, hk1]
  clear hv hn hk1
  unfold spV
  subst hw1
  go_enter Tryz.func257, Tryz.ntmps257
  go_wp2_with fail
  refine HC.out.mono ?_
  rintro e w' ⟨rfl, hb⟩
  clear HC d0 d1 d2 d3 d4 d5 d6
  go_wp2
  go_ret
  exact ⟨by rw [← HD.out]; rfl, hb1.trans (hb.mono hb1.size)⟩

/-- One cell leans: brought by the patch, or killed by it. -/
def leansB (i : Pid) (K : List Spot) (s : Spot) : Bool := decide (sid s = i) || decide (s ∈ K)

set_option maxRecDepth 100000 in
set_option maxHeartbeats 1600000 in
theorem leans256_any (i : Pid) (K : List Spot) (kv : Value) (ib rb : Nat) (s : Spot) (w : World) (hi : w.heap[ib]? = some (.cells #[.int .u8 i.a, .int .u8 i.b, .int .u8 i.c, .int .u8 i.d] 113 (0, 0))) (hr : w.heap[rb]? = some (.cells #[kv] 183 (0, 0))) (hk : SV w kv K) (hlen : K.length ≤ 1000000) :
    Calls Tryz.prog 256 #[spV s, .pointer (some ⟨ib, 0, none⟩), .pointer (some ⟨rb, 0, none⟩)] w fun e w' => e = .returned (.bool (leansB i K s)) ∧ Below w.heap.size w w' := by
  obtain ⟨ka, kc, rfl⟩ := hk.shape
  have hib := (Array.getElem?_eq_some_iff.1 hi).1
  have hrb := (Array.getElem?_eq_some_iff.1 hr).1
  obtain ⟨w1, hw1⟩ : ∃ w1, w1 = w.alloc (.cells #[.int .u8 s.a, .int .u8 s.b, .int .u8 s.c, .int .u8 s.d, .int .i64 s.num, .string s.line, .bool s.alive] 313) := ⟨_, rfl⟩
  have hb1 : Below w.heap.size w w1 := by rw [hw1]; exact (Below.refl _ _).alloc (Nat.le_refl _) _
  have hk1 := (MapKept.heap_alloc w (.cells #[.int .u8 s.a, .int .u8 s.b, .int .u8 s.c, .int .u8 s.d, .int .i64 s.num, .string s.line, .bool s.alive] 313)).1
  rw [← hw1] at hk1
  have HC : Hid (Calls Tryz.prog 257 #[.slice ka K.length kc, .agg #[.int .u8 s.a, .int .u8 s.b, .int .u8 s.c, .int .u8 s.d, .int .i64 s.num, .string s.line, .bool s.alive]] w1 fun e w' => e = .returned (.bool (decide (s ∈ K))) ∧ Below w1.heap.size w1 w') := contains257_any K s _ w1 (hk.below hb1 (Nat.le_refl _)) hlen
  have d0 : w1.cell? ⟨w.heap.size, 0, none⟩ = some (.int .u8 s.a) := by simp [World.cell?, hk1]
  have d1 : w1.cell? ⟨w.heap.size, 1, none⟩ = some (.int .u8 s.b) := by simp [World.cell?, hk1]
  have d2 : w1.cell? ⟨w.heap.size, 2, none⟩ = some (.int .u8 s.c) := by simp [World.cell?, hk1]
  have d3 : w1.cell? ⟨w.heap.size, 3, none⟩ = some (.int .u8 s.d) := by simp [World.cell?, hk1]
  have d4 : w1.cell? ⟨w.heap.size, 4, none⟩ = some (.int .i64 s.num) := by simp [World.cell?, hk1]
  have d5 : w1.cell? ⟨w.heap.size, 5, none⟩ = some (.string s.line) := by simp [World.cell?, hk1]
  have d6 : w1.cell? ⟨w.heap.size, 6, none⟩ = some (.bool s.alive) := by simp [World.cell?, hk1]
  have hi1 := (hb1.block ib hib).trans hi
  have hr1 := (hb1.block rb hrb).trans hr
  have i0 : w1.cell? ⟨ib, 0, none⟩ = some (.int .u8 i.a) := by simp [World.cell?, hi1]
  have i1 : w1.cell? ⟨ib, 1, none⟩ = some (.int .u8 i.b) := by simp [World.cell?, hi1]
  have i2 : w1.cell? ⟨ib, 2, none⟩ = some (.int .u8 i.c) := by simp [World.cell?, hi1]
  have i3 : w1.cell? ⟨ib, 3, none⟩ = some (.int .u8 i.d) := by simp [World.cell?, hi1]
  have r0 : w1.cell? ⟨rb, 0, none⟩ = some (.slice ka K.length kc) := by simp [World.cell?, hr1]
  obtain ⟨bq, hbq⟩ : ∃ b, decide (sid s = i) = b := ⟨_, rfl⟩
  have hq : ∀ u : World, (binOp .eql 113 (.agg #[.int .u8 s.a, .int .u8 s.b, .int .u8 s.c, .int .u8 s.d]) (.agg #[.int .u8 i.a, .int .u8 i.b, .int .u8 i.c, .int .u8 i.d])).run Tryz.prog u = .ok (.bool bq) u := fun u => by
    rw [← hbq]
    exact run_eql_id (sid s) i u
  clear hk hk1 hi hr hi1 hr1
  unfold spV
  subst hw1
  go_enter Tryz.func256, Tryz.ntmps256
  cases bq
  · have HE : Hid (decide (sid s = i) = false) := hbq
    clear hbq
    go_wp2_with fail
    refine HC.out.mono ?_
    rintro e w' ⟨rfl, hb⟩
    clear HC d0 d1 d2 d3 d4 d5 d6 i0 i1 i2 i3 r0 hq
    go_wp2
    go_ret
    exact ⟨by unfold leansB; rw [HE.out, Bool.false_or]; rfl, hb1.trans (hb.mono hb1.size)⟩
  · have HE : Hid (decide (sid s = i) = true) := hbq
    clear hbq HC
    go_wp2
    go_ret
    exact ⟨by unfold leansB; rw [HE.out, Bool.true_or]; rfl, hb1⟩

set_option maxRecDepth 100000 in
set_option maxHeartbeats 1600000 in
theorem leans226_any (N : List Spot) (i : Pid) (K : List Spot) (nv kv : Value) (w : World) (hn : SV w nv N) (hk : SV w kv K) (hN : N.length ≤ 1000000) (hK : K.length ≤ 1000000) :
    Calls Tryz.prog 226 #[nv, .agg #[.int .u8 i.a, .int .u8 i.b, .int .u8 i.c, .int .u8 i.d], kv] w fun e w' => e = .returned (.bool (N.any (leansB i K))) ∧ Below w.heap.size w w' := by
  obtain ⟨na, nc, rfl⟩ := hn.shape
  obtain ⟨ka, kc, rfl⟩ := hk.shape
  obtain ⟨w2, hw2⟩ : ∃ w2, w2 = (w.alloc (.cells #[.int .u8 i.a, .int .u8 i.b, .int .u8 i.c, .int .u8 i.d] 113)).alloc (.cells #[.slice ka K.length kc] 183) := ⟨_, rfl⟩
  obtain ⟨hb2, hs2, hA, hR⟩ := two_blocks' w _ _ hw2
  have HC : Hid (Calls Tryz.prog 255 #[.slice na N.length nc, .func (.func 256) #[] #[.pointer (some ⟨w.heap.size, 0, none⟩), .pointer (some ⟨w.heap.size + 1, 0, none⟩)]] w2 fun e w' => e = .returned (.bool (N.any (leansB i K))) ∧ Below w2.heap.size w2 w') := by
    refine anyf255_any N (leansB i K) 256 _ (fun _ _ => by kernel_rfl) _ w2 (hn.below hb2 (Nat.le_refl _)) hN (fun s _ u hu => ?_)
    refine leans256_any i K (.slice ka K.length kc) w.heap.size (w.heap.size + 1) s u ((hu.block _ (by omega)).trans hA) ((hu.block _ (by omega)).trans hR) (hk.below (hb2.trans (hu.mono hb2.size)) (Nat.le_refl _)) hK
  clear hn hk hA hR
  go_enter Tryz.func226, Tryz.ntmps226
  go_wp2_with fail
  rw [← hw2]
  clear hw2
  refine HC.out.mono ?_
  rintro e w' ⟨rfl, hb⟩
  clear HC
  go_wp2
  go_ret
  exact ⟨rfl, hb2.trans (hb.mono hb2.size)⟩

set_option maxRecDepth 100000 in
theorem whole337_any (i : Pid) (al : Bool) (w : World) :
    Calls Tryz.prog 337 #[.agg #[.int .u8 i.a, .int .u8 i.b, .int .u8 i.c, .int .u8 i.d], .bool al] w fun e w' => ∃ g, e = .returned (.slice (some ⟨g, 0, none⟩) 1 1) ∧ w'.ownsRow w.heap.size 313 7 (.slice (some ⟨g, 0, none⟩) 1 1) 1 (rowC [wholeS i al]) ∧ Below w.heap.size w w' := by
  obtain ⟨w1, hw1⟩ : ∃ w1, w1 = w.alloc (.cells #[.int .u8 i.a, .int .u8 i.b, .int .u8 i.c, .int .u8 i.d] 113) := ⟨_, rfl⟩
  have hb1 : Below w.heap.size w w1 := by rw [hw1]; exact (Below.refl _ _).alloc (Nat.le_refl _) _
  have hk1 := (MapKept.heap_alloc w (.cells #[.int .u8 i.a, .int .u8 i.b, .int .u8 i.c, .int .u8 i.d] 113)).1
  rw [← hw1] at hk1
  have i0 : w1.cell? ⟨w.heap.size, 0, none⟩ = some (.int .u8 i.a) := by simp [World.cell?, hk1]
  have i1 : w1.cell? ⟨w.heap.size, 1, none⟩ = some (.int .u8 i.b) := by simp [World.cell?, hk1]
  have i2 : w1.cell? ⟨w.heap.size, 2, none⟩ = some (.int .u8 i.c) := by simp [World.cell?, hk1]
  have i3 : w1.cell? ⟨w.heap.size, 3, none⟩ = some (.int .u8 i.d) := by simp [World.cell?, hk1]
  have hs1 : w1.heap.size = w.heap.size + 1 := by rw [hw1]; simp
  clear hk1
  subst hw1
  go_enter Tryz.func337, Tryz.ntmps337
  go_wp2
  go_ret
  generalize w.alloc (.cells #[.int .u8 i.a, .int .u8 i.b, .int .u8 i.c, .int .u8 i.d] 113) = w1 at *
  refine ⟨w.heap.size + 1, rfl, ?_, hb1.alloc (by omega) _⟩
  have := own_new w1 [wholeS i al] #[.int .u8 i.a, .int .u8 i.b, .int .u8 i.c, .int .u8 i.d, .int .i64 (-3), .string ⟨#[]⟩, .bool al] rfl (by simp)
  rw [hs1] at this
  exact ownsRow_mono this (by omega)
end Go.Proofs.YtgdfipmdmgkidaaGreatDoor

/- What a change names. -/
namespace Go.Proofs.YtgdfipmdmgkidaaGreatDoor
open Go.RowKit

set_option maxRecDepth 100000 in
theorem names335_any (i l : Pid) (rv : Value) (S : List Spot) (w : World) (hr : SV w rv S) :
    Calls Tryz.prog 335 #[.agg #[.int .u8 i.a, .int .u8 i.b, .int .u8 i.c, .int .u8 i.d, .int .u8 l.a, .int .u8 l.b, .int .u8 l.c, .int .u8 l.d, rv]] w fun e w' => ∃ v, e = .returned v ∧ SV w' v [wholeS l false] ∧ Below w.heap.size w w' := by
  obtain ⟨ra, rc, rfl⟩ := hr.shape
  obtain ⟨w1, hw1⟩ : ∃ w1, w1 = w.alloc (.cells #[.int .u8 i.a, .int .u8 i.b, .int .u8 i.c, .int .u8 i.d, .int .u8 l.a, .int .u8 l.b, .int .u8 l.c, .int .u8 l.d, .slice ra S.length rc] 282) := ⟨_, rfl⟩
  have hb1 : Below w.heap.size w w1 := by rw [hw1]; exact (Below.refl _ _).alloc (Nat.le_refl _) _
  have hk1 := (MapKept.heap_alloc w (.cells #[.int .u8 i.a, .int .u8 i.b, .int .u8 i.c, .int .u8 i.d, .int .u8 l.a, .int .u8 l.b, .int .u8 l.c, .int .u8 l.d, .slice ra S.length rc] 282)).1
  rw [← hw1] at hk1
  have i0 : w1.cell? ⟨w.heap.size, 4, none⟩ = some (.int .u8 l.a) := by simp [World.cell?, hk1]
  have i1 : w1.cell? ⟨w.heap.size, 5, none⟩ = some (.int .u8 l.b) := by simp [World.cell?, hk1]
  have i2 : w1.cell? ⟨w.heap.size, 6, none⟩ = some (.int .u8 l.c) := by simp [World.cell?, hk1]
  have i3 : w1.cell? ⟨w.heap.size, 7, none⟩ = some (.int .u8 l.d) := by simp [World.cell?, hk1]
  have HC := whole337_any l false w1
  clear hk1 hr
  subst hw1
  go_enter Tryz.func335, Tryz.ntmps335
  go_wp2_with fail
  refine HC.mono ?_
  rintro e w' ⟨g, rfl, ho, hb⟩
  clear HC i0 i1 i2 i3
  go_wp2
  go_ret
  exact ⟨_, rfl, SV.own ho, hb1.trans (hb.mono hb1.size)⟩

theorem HV.nth {w : World} {ha : Option Addr} {hn hc : Nat} {Hs : List Hk} (h : HV w (.slice ha hn hc) Hs) {k : Nat} {x : Hk} (hk : Hs[k]? = some x) : ∃ b o, ha = some ⟨b, o, none⟩ ∧ TB w b 327 ∧ w.cell? ⟨b, o + k * 2, none⟩ = some x.nv ∧ w.cell? ⟨b, o + k * 2 + 1, none⟩ = some x.bv ∧ SV w x.nv x.N ∧ SV w x.bv x.Br := by
  obtain ⟨_, _, e, hcc⟩ := h
  cases e
  exact hcc k x hk
/-- What the first hunks name, behind the file itself. -/
def nmTo (i : Pid) (Hs : List Hk) (k : Nat) : List Spot := wholeS i true :: (Hs.take k).flatMap (·.N)
theorem nmTo_succ {i : Pid} {Hs : List Hk} {k : Nat} {x : Hk} (h : Hs[k]? = some x) : nmTo i Hs (k + 1) = nmTo i Hs k ++ x.N := by
  unfold nmTo
  rw [List.take_add_one, h]
  simp
theorem nmTo_len {i : Pid} {Hs : List Hk} (k : Nat) {m : Nat} (h : ∀ x ∈ Hs, x.N.length ≤ m) : (nmTo i Hs k).length ≤ 1 + Hs.length * m := by
  unfold nmTo
  have h1 : ∀ L : List Hk, (∀ x ∈ L, x.N.length ≤ m) → (L.flatMap (·.N)).length ≤ L.length * m := by
    intro L
    induction L with
    | nil => simp
    | cons x L ih =>
      intro hL
      have := ih (fun y hy => hL y (List.mem_cons_of_mem _ hy))
      have := hL x List.mem_cons_self
      simp only [List.flatMap_cons, List.length_append, List.length_cons, Nat.add_mul]
      omega
  have h2 := h1 (Hs.take k) (fun x hx => h x (List.mem_of_mem_take hx))
  have h3 : (Hs.take k).length * m ≤ Hs.length * m := Nat.mul_le_mul_right _ (by simp; omega)
  simp only [List.length_cons]
  omega

set_option maxRecDepth 100000 in
set_option maxHeartbeats 3200000 in
theorem names353_any (i : Pid) (hv : Value) (Hs : List Hk) (w : World) (hh : HV w hv Hs) (hl : Hs.length ≤ 1000) (hN : ∀ x ∈ Hs, x.N.length ≤ 1000) :
    Calls Tryz.prog 353 #[.agg #[.int .u8 i.a, .int .u8 i.b, .int .u8 i.c, .int .u8 i.d, hv]] w fun e w' => ∃ v, e = .returned v ∧ SV w' v (wholeS i true :: Hs.flatMap (·.N)) ∧ Below w.heap.size w w' := by
  have HH := hid hh
  obtain ⟨ha, hc, rfl, _⟩ := hh
  obtain ⟨w1, hw1⟩ : ∃ w1, w1 = w.alloc (.cells #[.int .u8 i.a, .int .u8 i.b, .int .u8 i.c, .int .u8 i.d, .slice ha Hs.length hc] 288) := ⟨_, rfl⟩
  have hb1 : Below w.heap.size w w1 := by rw [hw1]; exact (Below.refl _ _).alloc (Nat.le_refl _) _
  have hk1 := (MapKept.heap_alloc w (.cells #[.int .u8 i.a, .int .u8 i.b, .int .u8 i.c, .int .u8 i.d, .slice ha Hs.length hc] 288)).1
  rw [← hw1] at hk1
  obtain ⟨i0, i1, i2, i3, i4⟩ := cells5_of hk1
  have HK := hid hk1
  have hs1 : w.heap.size < w1.heap.size := by rw [hw1]; simp
  have HC := whole337_any i true w1
  have HN : Hid (∀ k, (nmTo i Hs k).length ≤ 1 + Hs.length * 1000) := fun k => nmTo_len k hN
  have hl3 : Hs.length * 1000 ≤ 1000000 := by omega
  clear hk1 hN
  go_enter Tryz.func353, Tryz.ntmps353
  go_wp2_with fail
  rw [← hw1]
  clear hw1
  go_wp2_with fail
  refine HC.mono ?_
  rintro e w2 ⟨g, rfl, ho, hb2⟩
  clear HC i0 i1 i2 i3 i4
  have i4 : w2.cell? ⟨w.heap.size, 4, none⟩ = some (.slice ha Hs.length hc) := (cells5_of ((hb2.block _ hs1).trans HK.out)).2.2.2.2
  have hb02 : Below w.heap.size w w2 := hb1.trans (hb2.mono hb1.size)
  have HO := hid (ownsRow_mono ho hb1.size)
  clear ho hb2 HK
  go_wp2
  clear i4
  go_loopw [3, 12] (fun v x wr => ∃ k : Nat, k ≤ Hs.length ∧ x = .int .i64 k ∧ Hid (wr.ownsRow w.heap.size 313 7 v (nmTo i Hs k).length (rowC (nmTo i Hs k))) ∧ Below w.heap.size w wr) (fun _ x _ => Hs.length - (intOf x).toNat)
  case atStart => exact ⟨0, Nat.zero_le _, rfl, HO, hb02⟩
  case round =>
    clear HO
    obtain ⟨k, hk, rfl, HO, hbw⟩ := hrel
    have hsz := hbw.size
    by_cases hlt : k < Hs.length
    · obtain ⟨x, hx⟩ : ∃ x, Hs[k]? = some x := ⟨_, List.getElem?_eq_getElem hlt⟩
      obtain ⟨b, o, rfl, hb, c0, c1, s0, s1⟩ := (HH.out.below hbw (Nat.le_refl _)).nth hx
      obtain ⟨na, nc, hne⟩ := s0.shape
      obtain ⟨ba, bc, hbe⟩ := s1.shape
      rw [hne] at c0 s0
      rw [hbe] at c1
      have HS : Hid (nmTo i Hs (k + 1) = nmTo i Hs k ++ x.N) := nmTo_succ hx
      have hlen := HN.out (k + 1)
      rw [HS.out, List.length_append] at hlen
      obtain ⟨w4, hw4⟩ : ∃ w4, w4 = wr.alloc (.cells #[.slice na x.N.length nc, .slice ba x.Br.length bc] 327) := ⟨_, rfl⟩
      have hb4 : Below wr.heap.size wr w4 := by rw [hw4]; exact (Below.refl _ _).alloc (Nat.le_refl _) _
      have hk4 := (MapKept.heap_alloc wr (.cells #[.slice na x.N.length nc, .slice ba x.Br.length bc] 327)).1
      rw [← hw4] at hk4
      obtain ⟨d0, d1⟩ := cells2_of hk4
      have ho4 := own_below HO.out hb4 (Nat.le_refl _)
      have s4 := s0.below hb4 (Nat.le_refl _)
      have hb04 : Below w.heap.size w w4 := hbw.trans (hb4.mono hsz)
      have hsz4 := hb04.size
      clear hx hne hbe s0 s1 hk4 hb4
      generalize nmTo i Hs k = A at *
      generalize x.N = D at *
      subst hw4
      go_wp2_with (at_builtin; refine wpList_append_row _ rfl _ _ rfl w.heap.size _ A D _ rfl ho4 rfl s4 (by omega) hsz4 ?_)
      intro v' w5 h1 h2
      have hb5 := step_any (Nat.le_refl _) ho4 hb04 hsz4 h2
      clear h2 ho4 hb04 d0 d1 s4
      go_wp2
      go_roundw
      case rel => exact ⟨k + 1, by omega, by go_num, by show World.ownsRow _ _ _ _ _ _ _; rw [HS.out, rowC_app, List.length_append]; exact h1, hb5⟩
      case measure => simp [intOf]; omega
    · obtain rfl : k = Hs.length := by omega
      go_wp2
      go_ret
      refine ⟨_, rfl, ?_, hbw⟩
      have := SV.own HO.out
      unfold nmTo at this
      rw [List.take_length] at this
      exact this
end Go.Proofs.YtgdfipmdmgkidaaGreatDoor
