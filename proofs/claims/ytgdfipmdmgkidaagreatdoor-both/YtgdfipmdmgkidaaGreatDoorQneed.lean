/- Mathematics: what a change names and kills; a patch that was made last is needed by none. -/
import Derived.Test.YtgdfipmdmgkidaaGreatDoorPwords
import Derived.Test.YtgdfipmdmgkidaaGreatDoorPmake
import Derived.Test.YtgdfipmdmgkidaaGreatDoorPstand
import Derived.Lib.SliceRun
namespace Go.Proofs.YtgdfipmdmgkidaaGreatDoor
open Go.RowKit
abbrev zid : Pid := ⟨0, 0, 0, 0⟩
def wholeS (i : Pid) (al : Bool) : Spot := ⟨i.a, i.b, i.c, i.d, -3, ByteArray.empty, al⟩
def killedS (S : List Spot) : List Spot := deadRow (aliveOf S)
def namesOf : ChM → List Spot
  | .add _ l _ _ => [wholeS l false]
  | .remove i _ S => wholeS i true :: S
  | .alter i _ Hs => wholeS i true :: Hs.flatMap (·.N)
def killsOf : ChM → List Spot
  | .add .. => []
  | .remove i _ S => killedS (wholeS i true :: S)
  | .alter _ _ Hs => Hs.flatMap fun h => killedS (midRow h.N)
def leansOn (N : List Spot) (i : Pid) (K : List Spot) : Prop := ∃ s ∈ N, sid s = i ∨ s ∈ K
def NeedsP (P Q : PM) : Prop := ∃ c ∈ P.Cs, ∃ d ∈ Q.Cs, c.1 = d.1 ∧ leansOn (namesOf c.2) Q.id (killsOf d.2)
theorem killed_mem {S : List Spot} {s : Spot} (h : s ∈ killedS S) : ∃ t ∈ S, t.alive = true ∧ s = deadS t := by
  obtain ⟨t, ht, rfl⟩ := List.mem_map.1 h
  obtain ⟨h1, h2⟩ := List.mem_filter.1 ht
  exact ⟨t, h1, h2, rfl⟩
def liveC (p : PL) : List (Pid × Int) := if p.alive = true then (p.by_, -3) :: (aliveOf p.S).map cid else []
theorem live_mem {p : PL} {s : Spot} (ha : p.alive = true) (hs : s ∈ p.S) (h : s.alive = true) : cid s ∈ liveC p := by
  unfold liveC
  rw [if_pos ha]
  exact List.mem_cons_of_mem _ (List.mem_map.2 ⟨s, List.mem_filter.2 ⟨hs, h⟩, rfl⟩)
theorem live_inv {p : PL} {c : Pid × Int} (h : c ∈ liveC p) : p.alive = true ∧ (c = (p.by_, -3) ∨ ∃ s ∈ p.S, s.alive = true ∧ c = cid s) := by
  unfold liveC at h
  split at h
  · rename_i ha
    rcases List.mem_cons.1 h with h | h
    · exact ⟨ha, .inl h⟩
    · obtain ⟨s, hs, rfl⟩ := List.mem_map.1 h
      obtain ⟨h1, h2⟩ := List.mem_filter.1 hs
      exact ⟨ha, .inr ⟨s, h1, h2, rfl⟩⟩
  · simp at h
structure CellsOK (ids : List Pid) (p : PL) : Prop where
  nd : (p.S.map cid).Nodup
  own : ∀ s ∈ p.S, sid s ∈ ids ∧ 0 ≤ s.num
  byA : p.alive = true → p.by_ ∈ ids
  byZ : p.by_ ∈ ids ∨ p.by_ = zid
  dead : p.alive = false → ∀ s ∈ p.S, s.alive = false
def NamedOK (ids : List Pid) (c : ChM) (p : PL) : Prop := ∀ t ∈ namesOf c, (sid t ∈ ids ∨ sid t = zid) ∧ (t.alive = false → cid t ∉ liveC p)
theorem nd_alive {S : List Spot} (h : (S.map cid).Nodup) {s t : Spot} (hs : s ∈ S) (ht : t ∈ S) (e : cid s = cid t) : s = t := by
  induction S with
  | nil => simp at hs
  | cons x S ih =>
    rw [List.map_cons, List.nodup_cons] at h
    rcases List.mem_cons.1 hs with e1 | hs' <;> rcases List.mem_cons.1 ht with e2 | ht'
    · rw [e1, e2]
    · exact absurd (List.mem_map.2 ⟨t, ht', by rw [← e, e1]⟩) h.1
    · exact absurd (List.mem_map.2 ⟨s, hs', by rw [e, e2]⟩) h.1
    · exact ih h.2 hs' ht'
theorem midRow_mem {N : List Spot} {s : Spot} (h : s ∈ midRow N) : s ∈ N := List.mem_of_mem_take (List.mem_of_mem_drop h)
theorem named_mem {F : List Spot} {q : Quad} {s : Spot} (h : s ∈ namedOf F q) : s ∈ F := List.mem_of_mem_take (List.mem_of_mem_drop h)
theorem framed_mem {S : List Spot} {s : Spot} (h : s ∈ framed S) : s = begS ∨ s ∈ S ∨ s = endS := by
  unfold framed at h
  rcases List.mem_cons.1 h with h | h
  · exact .inl h
  · rcases List.mem_append.1 h with h | h
    · exact .inr (.inl h)
    · exact .inr (.inr (List.mem_singleton.1 h))
theorem cids_framed {ids : List Pid} {p : PL} (h : CellsOK ids p) (_hz : zid ∉ ids) : ((framed p.S).map cid).Nodup := by
  unfold framed
  rw [List.map_cons, List.map_append, List.nodup_cons, List.nodup_append]
  have hS : ∀ c ∈ p.S.map cid, 0 ≤ c.2 := fun c hc => by
    obtain ⟨s, hs, rfl⟩ := List.mem_map.1 hc
    exact (h.own s hs).2
  refine ⟨fun hm => ?_, h.nd, by simp, fun a ha b hb e => ?_⟩
  · rcases List.mem_append.1 hm with hm | hm
    · have := hS _ hm
      simp [cid, begS, edgeS] at this
    · simp [cid, begS, endS, edgeS] at hm
  · subst e
    have := hS _ ha
    simp only [List.map_cons, List.map_nil, List.mem_singleton] at hb
    rw [hb] at this
    simp [cid, endS, edgeS] at this
theorem nodup_of_map {S : List Spot} (h : (S.map cid).Nodup) : S.Nodup := by
  rw [List.Nodup, List.pairwise_map] at h
  exact h.imp fun hne e => hne (by rw [e])
theorem fresh_framed {ids : List Pid} {p : PL} (h : CellsOK ids p) {i : Pid} (hi : i ∉ ids) (hz : i ≠ zid) : ∀ s ∈ framed p.S, ¬ (s.a = i.a ∧ s.b = i.b ∧ s.c = i.c ∧ s.d = i.d) := by
  rintro s hs ⟨h1, h2, h3, h4⟩
  have e : sid s = i := by unfold sid; rw [h1, h2, h3, h4]
  rcases framed_mem hs with rfl | hs | rfl
  · exact hz (by rw [← e]; rfl)
  · exact hi (e ▸ (h.own s hs).1)
  · exact hz (by rw [← e]; rfl)
theorem made_names {ids : List Pid} {p : PL} (h : CellsOK ids p) {i : Pid} {n n' : Int} {there : Bool} {text : ByteArray} {c : ChM} (hc : ChMade p i n there text c n') : ∀ t ∈ namesOf c, (sid t ∈ ids ∨ sid t = zid) ∧ (t.alive = false → cid t ∉ liveC p) := by
  have hrow : p.alive = true → ∀ t, t ∈ p.S → (sid t ∈ ids ∨ sid t = zid) ∧ (t.alive = false → cid t ∉ liveC p) := fun ha t ht => by
    refine ⟨.inl (h.own t ht).1, fun hd hl => ?_⟩
    obtain ⟨_, hl⟩ := live_inv hl
    rcases hl with hl | ⟨s, hs, h2, h3⟩
    · have := (h.own t ht).2
      have e2 : t.num = -3 := congrArg Prod.snd hl
      omega
    · have := nd_alive h.nd ht hs h3
      subst this
      rw [hd] at h2
      cases h2
  have hwh : ∀ al, p.alive = true → al = true → (sid (wholeS p.by_ al) ∈ ids ∨ sid (wholeS p.by_ al) = zid) ∧ ((wholeS p.by_ al).alive = false → cid (wholeS p.by_ al) ∉ liveC p) := fun al ha e => by
    subst e
    exact ⟨.inl (h.byA ha), fun hd => by cases hd⟩
  cases c with
  | add i' l rv S =>
    obtain ⟨h1, _, rfl, _⟩ := hc
    intro t ht
    rw [List.mem_singleton.1 ht]
    refine ⟨h.byZ, fun _ hl => ?_⟩
    have := (live_inv hl).1
    rw [h1] at this
    cases this
  | remove i' rv S =>
    obtain ⟨h1, _, rfl, rfl, _⟩ := hc
    intro t ht
    rcases List.mem_cons.1 ht with rfl | ht
    · exact hwh true h1 rfl
    · exact hrow h1 t ht
  | alter i' hv Hs =>
    obtain ⟨h1, _, rfl, Q, hg, hm, _⟩ := hc
    intro t ht
    rcases List.mem_cons.1 ht with rfl | ht
    · exact hwh true h1 rfl
    · obtain ⟨x, hx, ht⟩ := List.mem_flatMap.1 ht
      obtain ⟨k, hk⟩ := List.mem_iff_getElem?.1 hx
      obtain ⟨q, _, e, _⟩ := hm.2 k x hk
      rw [e] at ht
      rcases framed_mem (named_mem ht) with rfl | hs | rfl
      · exact ⟨.inr rfl, fun hd => by cases hd⟩
      · exact hrow h1 t hs
      · exact ⟨.inr rfl, fun hd => by cases hd⟩
theorem mid_inner {S : List Spot} {q : Quad} (hik : q.i ≤ q.k) (hk : q.k + 1 < (living (framed S)).length) {s : Spot} (h : s ∈ midRow (namedOf (framed S) q)) : s ∈ S := by
  have h1 : av (framed S) q < bv (framed S) q ∧ bv (framed S) q < (framed S).length := by
    have := GOrd.at (F := framed S) (x := 0) (q := q) (R := []) ⟨Nat.zero_le _, hik, hk, trivial⟩
    exact ⟨this.2.1, this.2.2.1⟩
  have e : midRow (namedOf (framed S) q) = ((framed S).take (bv (framed S) q)).drop (av (framed S) q + 1) := mid_named h1.1 h1.2
  rw [e] at h
  have hl : (framed S).length = S.length + 2 := by simp [framed]
  have hb : bv (framed S) q ≤ (begS :: S).length := by
    have := h1.2
    rw [hl] at this
    rw [List.length_cons]
    omega
  have e2 : (framed S).take (bv (framed S) q) = (begS :: S).take (bv (framed S) q) := by
    show ((begS :: S) ++ [endS]).take _ = _
    rw [List.take_append_of_le_length hb]
  obtain ⟨b', hb'⟩ : ∃ b', bv (framed S) q = b' + 1 := ⟨bv (framed S) q - 1, by have := h1.1; omega⟩
  rw [e2, hb', List.take_succ_cons, List.drop_succ_cons] at h
  exact List.mem_of_mem_take (List.mem_of_mem_drop h)
theorem made_kills {ids : List Pid} {p : PL} (_h : CellsOK ids p) {i : Pid} {n n' : Int} {there : Bool} {text : ByteArray} {c : ChM} (hc : ChMade p i n there text c n') : ∀ s ∈ killsOf c, s.alive = false ∧ cid s ∈ liveC p := by
  cases c with
  | add i' l rv S => intro s hs; simp [killsOf] at hs
  | remove i' rv S =>
    obtain ⟨h1, _, rfl, rfl, _⟩ := hc
    intro s hs
    obtain ⟨t, ht, ha, rfl⟩ := killed_mem hs
    refine ⟨rfl, ?_⟩
    rw [cid_dead]
    rcases List.mem_cons.1 ht with rfl | ht
    · unfold liveC
      rw [if_pos h1]
      exact List.mem_cons_self
    · exact live_mem h1 ht ha
  | alter i' hv Hs =>
    obtain ⟨h1, _, rfl, Q, hg, hm, _⟩ := hc
    intro s hs
    obtain ⟨x, hx, hs⟩ := List.mem_flatMap.1 hs
    obtain ⟨t, ht, ha, rfl⟩ := killed_mem hs
    refine ⟨rfl, ?_⟩
    rw [cid_dead]
    obtain ⟨k, hk⟩ := List.mem_iff_getElem?.1 hx
    obtain ⟨q, hq, e, _⟩ := hm.2 k x hk
    rw [e] at ht
    have ho := hg.ord (Nat.zero_le _) (Nat.zero_le _)
    have hqo := gord_mem ho (List.mem_of_getElem? hq)
    have hlf := living_framed p.S
    exact live_mem h1 (mid_inner hqo.1 (by omega) ht) ha
where
  gord_mem {m : Nat} : ∀ {x : Nat} {Q : List Quad}, GOrd m x Q → ∀ {q : Quad}, q ∈ Q → q.i ≤ q.k ∧ q.k + 1 < m
    | _, [], _, _, hq => by simp at hq
    | _, q' :: R, h, q, hq => by
      rcases List.mem_cons.1 hq with rfl | hq
      · exact ⟨h.2.1, h.2.2.1⟩
      · exact gord_mem h.2.2.2 hq
end Go.Proofs.YtgdfipmdmgkidaaGreatDoor

/- Mathematics: a change that is made of what is kept: what it makes, and how it is told. -/
namespace Go.Proofs.YtgdfipmdmgkidaaGreatDoor
open Go.RowKit
theorem numTo_app (N : List ByteArray) : ∀ (A B : List Quad) (n : Int), numTo n N (A ++ B) = numTo (numTo n N A) N B
  | [], B, n => rfl
  | q :: A, B, n => by simp only [List.cons_append, numTo]; exact numTo_app N A B _
theorem numTo_gap (N : List ByteArray) (n : Int) (i k j l : Nat) (hjl : j ≤ l) (hl : l ≤ N.length) : numTo n N (gapOf i k j l) = n + (l - j : Nat) := by
  unfold gapOf
  split
  · simp only [numTo, linesAt]
    simp
    omega
  · have : l = j := by omega
    subst this
    simp [numTo]
theorem GapsR.num {O N : List ByteArray} {i j : Nat} {Q : List Quad} (h : GapsR O N i j Q) (hi : i ≤ O.length) (hj : j ≤ N.length) (n : Int) : numTo n N Q ≤ n + (N.length - j : Nat) := by
  induction h generalizing n with
  | stop h1 h2 =>
    have p := nxt_at hi hj h1
    have hl := p.2.2.2.1
    have hjl := p.2.1
    rw [numTo_gap N n _ _ _ _ (by omega) (by omega)]
    omega
  | go h1 h2 h3 ih =>
    have p := nxt_at hi hj h1
    rcases p.2.2.2.2 with h | h
    · have h4 := h.2.1
      have q := ih (by omega) h4
      rw [numTo_app, numTo_gap N n _ _ _ _ (by omega) (by omega)]
      refine Int.le_trans (q _) ?_
      omega
    · omega
section
variable {S : List Spot} {N : List ByteArray} {i : Pid} {n : Int} {Q : List Quad} {Hs : List Hk}
theorem brAll_len : ∀ (Q : List Quad) (n : Int), n + (brAll i N n Q).length = numTo n N Q
  | [], n => by simp [brAll, numTo]
  | q :: Q, n => by
    unfold brAll
    rw [List.length_append, bring_len]
    simp only [numTo]
    rw [← brAll_len Q (n + (linesAt N q).length)]
    omega
theorem made_steps2 (hm : Made (framed S) i n N Q Hs) (hg : GapsR (rowLines S) N 0 0 Q) (hF : (framed S).Nodup) (hid : ∀ s ∈ framed S, ¬ (s.a = i.a ∧ s.b = i.b ∧ s.c = i.c ∧ s.d = i.d)) (hS : S.length ≤ 9000) (hR : (rowLines S).length ≤ 400) (hN : N.length ≤ 400) :
    Steps (fSeq (framed S) (qbOf Q Hs)) Hs ∧ rowLines (midRow (fSeq (framed S) (qbOf Q Hs) Hs.length)) = N ∧ (fSeq (framed S) (qbOf Q Hs) Hs.length).length ≤ 200000 := by
  have ho := hg.ord (Nat.zero_le _) (Nat.zero_le _)
  have hlen := ho.len
  have hlf := living_framed S
  have hQH : Hs.length = Q.length := hm.1
  have hB : ∀ r ∈ qbOf Q Hs, ∀ s ∈ r.2, s ∉ framed S := fun r hr s hs hsF => by
    obtain ⟨m, h⟩ := qb_mem hm r hr
    rw [h] at hs
    exact hid s hsF (bring_id hs)
  have hM : ∀ r ∈ qbOf Q Hs, r.2.length ≤ 400 := fun r hr => by
    obtain ⟨m, h⟩ := qb_mem hm r hr
    have := linesAt_len N r.1
    rw [h, bring_len]
    omega
  have h0 : HkAt (framed S) (qbOf Q Hs) 0 := HkAt.start (living_first S) (by omega) (by rw [qb_map hm, hlf]; exact ho)
  have hql := qb_len hm
  have hFl : (framed S).length = S.length + 2 := by simp [framed]
  have hbig : ∀ k, k ≤ Hs.length → (fSeq (framed S) (qbOf Q Hs) k).length ≤ 200000 ∧ 2 ≤ (fSeq (framed S) (qbOf Q Hs) k).length := fun k hk => by
    obtain ⟨a, b⟩ := fSeq_len hF hB h0 400 hM k (by omega)
    have : k * 400 ≤ 402 * 400 := Nat.mul_le_mul_right _ (by omega)
    omega
  refine ⟨⟨fun k h hk => ?_, fun k h hk => ?_, (hbig _ (Nat.le_refl _)).2, by have := (hbig _ (Nat.le_refl _)).1; omega⟩, ?_, (hbig _ (Nat.le_refl _)).1⟩
  · have hkl : k < Hs.length := (List.getElem?_eq_some_iff.1 hk).1
    obtain ⟨q, e1, e2, e3, e4⟩ := qb_at hm hk
    obtain ⟨_, p, a1, a2, a3, a4, a5, a6, a7⟩ := (HkAt.all hF hB h0 k (by omega)).step hF e2 (hB _ (List.mem_of_getElem? e2))
    rw [e3]
    exact ⟨_, p, a1, a2, a3, a4, a6⟩
  · have hkl : k < Hs.length := (List.getElem?_eq_some_iff.1 hk).1
    obtain ⟨q, e1, e2, e3, e4⟩ := qb_at hm hk
    obtain ⟨_, p, a1, a2, a3, a4, a5, a6, a7⟩ := (HkAt.all hF hB h0 k (by omega)).step hF e2 (hB _ (List.mem_of_getElem? e2))
    have b1 := (hbig k (by omega)).1
    have b2 := hM _ (List.mem_of_getElem? e2)
    rw [e3]
    simp only at b2
    omega
  · rw [← hql, (HkAt.all hF hB h0 _ (Nat.le_refl _)).last, rows_laid S N _ (by rw [qb_map hm]; exact ho) (fun r hr => ?_), qb_map hm]
    · have := hg.gives (Nat.zero_le _) (Nat.zero_le _)
      rw [this, List.drop_zero]
    · obtain ⟨m, h⟩ := qb_mem hm r hr
      rw [h, rowLines_bring]
end
theorem made_next {ids : List Pid} {p : PL} (h : CellsOK ids p) {i : Pid} (hi : i ∉ ids) (hz : zid ∉ ids) (hiz : i ≠ zid) {n n' : Int} (hn : 0 ≤ n) {there : Bool} {text : ByteArray} {c : ChM} (hc : ChMade p i n there text c n') (hth : p.alive = false → there = true) (hS : p.S.length ≤ 9000) (hR : (rowLines p.S).length ≤ 90) (hN : (cutAll text).length ≤ 20) :
    ∃ p', ApplyP c p p' ∧ CellsOK (ids ++ [i]) p' ∧ (∀ x ∈ liveC p', x ∈ liveC p ∨ x.1 = i) ∧ p'.alive = there ∧ (there = true → rowLines p'.S = cutAll text) ∧ p'.S.length ≤ p.S.length + (cutAll text).length := by
  cases c with
  | add i' l rv S =>
    obtain ⟨h1, rfl, _, rfl, _⟩ := hc
    refine ⟨⟨i', true, bring i' n (cutAll text)⟩, rfl, ⟨bring_cids _ _ _, fun s hs => ?_, fun _ => by simp, .inl (by simp), fun e => by cases e⟩, fun x hx => ?_, (hth h1).symm, fun _ => rowLines_bring _ _ _, by simp only [bring_len]; omega⟩
    · have hs' : s ∈ bring i' n (cutAll text) := hs
      obtain ⟨a, b, c, d⟩ := bring_id hs'
      refine ⟨?_, ?_⟩
      · have : sid s = i' := by unfold sid; rw [a, b, c, d]
        rw [this]; simp
      · unfold bring brTo at hs'
        obtain ⟨k, _, rfl⟩ := List.mem_map.1 hs'
        simp only [brS]
        omega
    · obtain ⟨_, hx⟩ := live_inv hx
      right
      rcases hx with rfl | ⟨s, hs, _, rfl⟩
      · rfl
      · obtain ⟨a, b, c, d⟩ := bring_id (show s ∈ bring i' n (cutAll text) from hs)
        show sid s = i'
        unfold sid; rw [a, b, c, d]
  | remove i' rv S =>
    obtain ⟨h1, h2, rfl, rfl, _⟩ := hc
    refine ⟨⟨p.by_, false, deadRow p.S⟩, ⟨rfl, by omega⟩, ⟨by rw [cids_dead]; exact h.nd, fun s hs => ?_, (fun e => by cases e), ?_, fun _ s hs => ?_⟩, fun x hx => ?_, h2.symm, (fun e => by rw [h2] at e; cases e), ?_⟩
    · obtain ⟨t, ht, rfl⟩ := List.mem_map.1 hs
      obtain ⟨a, b⟩ := h.own t ht
      exact ⟨List.mem_append_left _ a, b⟩
    · rcases h.byZ with a | a
      · exact .inl (List.mem_append_left _ a)
      · exact .inr a
    · obtain ⟨t, ht, rfl⟩ := List.mem_map.1 hs
      rfl
    · have := (live_inv hx).1
      cases this
    · simp [deadRow]
  | alter i' hv Hs =>
    obtain ⟨h1, h2, rfl, Q, hg, hm, _⟩ := hc
    have hFc := cids_framed h hz
    have hF := nodup_of_map hFc
    have hid := fresh_framed h hi hiz
    obtain ⟨s1, s2, s3⟩ := made_steps2 hm hg hF hid hS (by omega) (by omega)
    have hQ := hg.len (Nat.zero_le _) (Nat.zero_le _)
    have hHs : Hs.length = Q.length := hm.1
    have hperm := alt_cids hm hg hF hid
    have hnum := hg.num (Nat.zero_le _) (Nat.zero_le _) n
    have hbl := brAll_len (i := i) (N := cutAll text) Q n
    have hcid : ∀ s ∈ altRow p.S Q Hs, (∃ t ∈ p.S, cid s = cid t) ∨ ∃ t ∈ brAll i (cutAll text) n Q, cid s = cid t := fun s hs => by
      have := hperm.mem_iff.1 (List.mem_map.2 ⟨s, hs, rfl⟩)
      rcases List.mem_append.1 this with h | h
      · obtain ⟨t, ht, e⟩ := List.mem_map.1 h
        exact .inl ⟨t, ht, e.symm⟩
      · obtain ⟨t, ht, e⟩ := List.mem_map.1 h
        exact .inr ⟨t, ht, e.symm⟩
    refine ⟨⟨p.by_, true, altRow p.S Q Hs⟩, ⟨_, rfl, s1, rfl, by omega, by omega⟩, ⟨?_, fun s hs => ?_, fun _ => List.mem_append_left _ (h.byA h1), .inl (List.mem_append_left _ (h.byA h1)), fun e => by cases e⟩, fun x hx => ?_, h2.symm, fun _ => s2, ?_⟩
    · refine hperm.nodup_iff.2 ?_
      rw [List.nodup_append]
      refine ⟨h.nd, brAll_nodup Q n, fun a ha b hb e => ?_⟩
      obtain ⟨s, hs, rfl⟩ := List.mem_map.1 ha
      obtain ⟨t, ht, rfl⟩ := List.mem_map.1 hb
      have h3 := (brAll_mem Q n t ht).1
      have h4 : sid s = sid t := congrArg Prod.fst e
      exact hi (by rw [← h3, ← h4]; exact (h.own s hs).1)
    · rcases hcid s hs with ⟨t, ht, e⟩ | ⟨t, ht, e⟩
      · have e1 : sid s = sid t := congrArg Prod.fst e
        have e2 : s.num = t.num := congrArg Prod.snd e
        rw [e1, e2]
        exact ⟨List.mem_append_left _ (h.own t ht).1, (h.own t ht).2⟩
      · have e1 : sid s = sid t := congrArg Prod.fst e
        have e2 : s.num = t.num := congrArg Prod.snd e
        obtain ⟨b1, b2, _⟩ := brAll_mem Q n t ht
        rw [e1, e2, b1]
        exact ⟨by simp, by omega⟩
    · obtain ⟨_, hx⟩ := live_inv hx
      rcases hx with rfl | ⟨s, hs, ha, rfl⟩
      · left
        unfold liveC
        rw [if_pos h1]
        exact List.mem_cons_self
      · rcases alt_mem hm hg hF hid hs with k | ⟨t, _, rfl⟩ | k
        · rcases hcid s hs with ⟨t, ht, e⟩ | ⟨t, ht, e⟩
          · left
            have e2 : s.num = t.num := congrArg Prod.snd e
            have h0 := (h.own t ht).2
            rcases framed_mem k with rfl | k | rfl
            · simp [begS, edgeS] at e2; omega
            · exact live_mem h1 k ha
            · simp [endS, edgeS] at e2; omega
          · right
            exact (congrArg Prod.fst e).trans (brAll_mem Q n t ht).1
        · cases ha
        · right
          exact (brAll_mem Q n s k).1
    · have hl := hperm.length_eq
      rw [List.length_append, List.length_map, List.length_map, List.length_map] at hl
      show (altRow p.S Q Hs).length ≤ _
      rw [hl]
      omega
end Go.Proofs.YtgdfipmdmgkidaaGreatDoor

/- slices.IndexFunc and ContainsFunc on rows, changes and patches, with any function that answers. -/
set_option maxHeartbeats 3200000
set_option maxRecDepth 100000
namespace Go.Proofs.YtgdfipmdmgkidaaGreatDoor
open Go.RowKit
theorem find_hit {α : Type} {L : List α} {p : α → Bool} {k : Nat} (hk : k < L.length) (h : p L[k] = true) (hno : ∀ i (hi : i < L.length), i < k → p L[i] = false) : L.findIdx? p = some k := by
  rw [List.findIdx?_eq_some_iff_getElem]
  exact ⟨hk, h, fun j hj => by rw [hno j (by omega) hj]; simp⟩
theorem find_miss {α : Type} {L : List α} {p : α → Bool} (hno : ∀ i (hi : i < L.length), p L[i] = false) : L.findIdx? p = none := by
  rw [List.findIdx?_eq_none_iff]
  intro x hx
  obtain ⟨i, hi, rfl⟩ := List.getElem_of_mem hx
  exact hno i hi
theorem idx_any {α : Type} (L : List α) (p : α → Bool) : decide (idxInt (L.findIdx? p) ≥ 0) = L.any p := by
  cases h : L.findIdx? p with
  | none =>
    rw [List.findIdx?_eq_none_iff] at h
    have : L.any p = false := by rw [List.any_eq_false]; intro x hx; rw [h x hx]; simp
    rw [this]
    rfl
  | some k =>
    rw [List.findIdx?_eq_some_iff_getElem] at h
    obtain ⟨h1, h2, _⟩ := h
    have : L.any p = true := List.any_eq_true.2 ⟨_, List.getElem_mem h1, h2⟩
    rw [this]
    simp [idxInt]
def ncV (c : ByteArray × ChM) : Value := .agg #[.string c.1, chV c.2]
def pmV (P : PM) : Value := .agg #[.int .u8 P.id.a, .int .u8 P.id.b, .int .u8 P.id.c, .int .u8 P.id.d, P.cv]
theorem idxf225_any (S : List (ByteArray × ChM)) (p : (ByteArray × ChM) → Bool) (g : FuncId) (lb : Array Value) (eg : ∀ args w, (callFunc g args).run Tryz.prog w = .ok (.enter g args) w) (v0 : Value) (w : World) (hv : CV w v0 S) (hlen : S.length ≤ 1000000)
    (hp : ∀ s ∈ S, ∀ u, Below w.heap.size w u → Calls Tryz.prog g (#[ncV s] ++ lb) u fun e w' => e = .returned (.bool (p s)) ∧ Below u.heap.size u w') :
    Calls Tryz.prog 225 #[v0, .func (.func g) #[] lb] w fun e w' => e = .returned (.int .i64 (idxInt (S.findIdx? p))) ∧ Below w.heap.size w w' := by
  have HV := hid hv
  obtain ⟨ao, cap, rfl, _⟩ := hv
  have HP := hid hp
  clear hp
  go_enter Tryz.func225, Tryz.ntmps225
  go_wp2
  go_loopw [5, 8] (fun _ i wr => ∃ k : Nat, k ≤ S.length ∧ i = .int .i64 k ∧ Hid (∀ i (hi : i < S.length), i < k → p S[i] = false) ∧ Below w.heap.size w wr) (fun _ i _ => S.length - (intOf i).toNat)
  case atStart => exact ⟨0, Nat.zero_le _, rfl, (fun i _ h => by omega), Below.refl _ _⟩
  case round =>
    obtain ⟨k, hk, rfl, HN, hbw⟩ := hrel
    by_cases hlt : k < S.length
    · have hs : S[k]? = some S[k] := List.getElem?_eq_getElem hlt
      obtain ⟨_, _, e1, hcc⟩ := HV.out.below hbw (Nat.le_refl _)
      cases e1
      obtain ⟨b, o, rfl, hb, c0, c1, _⟩ := hcc k _ hs
      clear hcc
      obtain ⟨s, hss⟩ : ∃ s, S[k] = s := ⟨_, rfl⟩
      have hcall := HP.out S[k] (List.getElem_mem hlt) wr hbw
      rw [hss] at c0 c1 hcall
      have HT := hid hss
      clear hss hs
      unfold ncV at hcall
      cases hq : p s with
      | true =>
        rw [hq] at hcall
        go_wp2_with (go_at_fn g; refine hcall.mono ?_; rintro e w' ⟨rfl, hb'⟩)
        go_ret
        exact ⟨ret_int (by rw [find_hit hlt (by rw [HT.out]; exact hq) HN.out]; rfl), hbw.trans (hb'.mono hbw.size)⟩
      | false =>
        rw [hq] at hcall
        go_wp2_with (go_at_fn g; refine hcall.mono ?_; rintro e w' ⟨rfl, hb'⟩)
        go_roundw
        case rel =>
          refine ⟨k + 1, by omega, by go_num, fun i hi h => ?_, hbw.trans (hb'.mono hbw.size)⟩
          by_cases e : i = k
          · subst e; rw [HT.out]; exact hq
          · exact HN.out i hi (by omega)
        case measure => simp [intOf]; omega
    · obtain rfl : k = S.length := by omega
      go_wp2
      go_ret
      exact ⟨ret_int (by rw [find_miss (fun i hi => HN.out i hi hi)]; rfl), hbw⟩
theorem idxf187_any (S : List PM) (p : PM → Bool) (g : FuncId) (lb : Array Value) (eg : ∀ args w, (callFunc g args).run Tryz.prog w = .ok (.enter g args) w) (v0 : Value) (w : World) (hv : PV w v0 S) (hlen : S.length ≤ 1000000)
    (hp : ∀ s ∈ S, ∀ u, Below w.heap.size w u → Calls Tryz.prog g (#[pmV s] ++ lb) u fun e w' => e = .returned (.bool (p s)) ∧ Below u.heap.size u w') :
    Calls Tryz.prog 187 #[v0, .func (.func g) #[] lb] w fun e w' => e = .returned (.int .i64 (idxInt (S.findIdx? p))) ∧ Below w.heap.size w w' := by
  have HV := hid hv
  obtain ⟨ao, cap, rfl, _⟩ := hv
  have HP := hid hp
  clear hp
  go_enter Tryz.func187, Tryz.ntmps187
  go_wp2
  go_loopw [5, 8] (fun _ i wr => ∃ k : Nat, k ≤ S.length ∧ i = .int .i64 k ∧ Hid (∀ i (hi : i < S.length), i < k → p S[i] = false) ∧ Below w.heap.size w wr) (fun _ i _ => S.length - (intOf i).toNat)
  case atStart => exact ⟨0, Nat.zero_le _, rfl, (fun i _ h => by omega), Below.refl _ _⟩
  case round =>
    obtain ⟨k, hk, rfl, HN, hbw⟩ := hrel
    by_cases hlt : k < S.length
    · have hs : S[k]? = some S[k] := List.getElem?_eq_getElem hlt
      obtain ⟨_, _, e1, hcc⟩ := HV.out.below hbw (Nat.le_refl _)
      cases e1
      obtain ⟨b, o, rfl, hb, c0, c1, c2, c3, c4, _⟩ := hcc k _ hs
      clear hcc
      obtain ⟨s, hss⟩ : ∃ s, S[k] = s := ⟨_, rfl⟩
      have hcall := HP.out S[k] (List.getElem_mem hlt) wr hbw
      rw [hss] at c0 c1 c2 c3 c4 hcall
      have HT := hid hss
      clear hss hs
      unfold pmV at hcall
      cases hq : p s with
      | true =>
        rw [hq] at hcall
        go_wp2_with (go_at_fn g; refine hcall.mono ?_; rintro e w' ⟨rfl, hb'⟩)
        go_ret
        exact ⟨ret_int (by rw [find_hit hlt (by rw [HT.out]; exact hq) HN.out]; rfl), hbw.trans (hb'.mono hbw.size)⟩
      | false =>
        rw [hq] at hcall
        go_wp2_with (go_at_fn g; refine hcall.mono ?_; rintro e w' ⟨rfl, hb'⟩)
        go_roundw
        case rel =>
          refine ⟨k + 1, by omega, by go_num, fun i hi h => ?_, hbw.trans (hb'.mono hbw.size)⟩
          by_cases e : i = k
          · subst e; rw [HT.out]; exact hq
          · exact HN.out i hi (by omega)
        case measure => simp [intOf]; omega
    · obtain rfl : k = S.length := by omega
      go_wp2
      go_ret
      exact ⟨ret_int (by rw [find_miss (fun i hi => HN.out i hi hi)]; rfl), hbw⟩
theorem anyf184_any (S : List (ByteArray × ChM)) (p : (ByteArray × ChM) → Bool) (g : FuncId) (lb : Array Value) (eg : ∀ args w, (callFunc g args).run Tryz.prog w = .ok (.enter g args) w) (v0 : Value) (w : World) (hv : CV w v0 S) (hlen : S.length ≤ 1000000)
    (hp : ∀ s ∈ S, ∀ u, Below w.heap.size w u → Calls Tryz.prog g (#[ncV s] ++ lb) u fun e w' => e = .returned (.bool (p s)) ∧ Below u.heap.size u w') :
    Calls Tryz.prog 184 #[v0, .func (.func g) #[] lb] w fun e w' => e = .returned (.bool (S.any p)) ∧ Below w.heap.size w w' := by
  have HC := hid (idxf225_any S p g lb eg v0 w hv hlen hp)
  have HD := hid (idx_any S p)
  obtain ⟨n, hn⟩ : ∃ n, idxInt (S.findIdx? p) = n := ⟨_, rfl⟩
  rw [hn] at HC HD
  clear hp eg hv hn
  go_enter Tryz.func184, Tryz.ntmps184
  go_wp2_with fail
  refine HC.out.mono ?_
  rintro e w' ⟨rfl, hb⟩
  clear HC
  go_wp2
  go_ret
  exact ⟨by rw [← HD.out]; rfl, hb⟩
end Go.Proofs.YtgdfipmdmgkidaaGreatDoor

/- Does one of some cells lean on a patch: leansOn, and what it calls. -/
namespace Go.Proofs.YtgdfipmdmgkidaaGreatDoor
open Go.RowKit
theorem run_eql_id (i j : Pid) (w : World) : (binOp .eql 113 (.agg #[.int .u8 i.a, .int .u8 i.b, .int .u8 i.c, .int .u8 i.d]) (.agg #[.int .u8 j.a, .int .u8 j.b, .int .u8 j.c, .int .u8 j.d])).run Tryz.prog w = .ok (.bool (decide (i = j))) w := by
  rw [run_eql_struct, run_eq_id 9998]
  have : (i.a = j.a ∧ i.b = j.b ∧ i.c = j.c ∧ i.d = j.d) ↔ i = j := by
    cases i; cases j; simp
  simp [this]
def leansB (i : Pid) (K : List Spot) (s : Spot) : Bool := decide (sid s = i) || decide (s ∈ K)
end Go.Proofs.YtgdfipmdmgkidaaGreatDoor

/- slices.DeleteFunc on a row of the call's own. -/
namespace Go.Proofs.YtgdfipmdmgkidaaGreatDoor
open Go.RowKit
section
variable {base size g cap n : Nat} {e : TypeId} {xs : List Value}
theorem own_cut {w : World} (h : w.ownsRow base e size (.slice (some ⟨g, 0, none⟩) n cap) n xs) {i : Nat} (hi : i ≤ n) : w.ownsRow base e size (.slice (some ⟨g, 0, none⟩) i cap) i (xs.take (i * size)) := by
  have hl := h.1
  rcases h.2 with ⟨h', _⟩ | ⟨g', cap', cur, h', hb, hg, hnc, hcm, hcs, htake⟩
  · cases h'
  · cases h'
    have hm : i * size ≤ n * size := Nat.mul_le_mul_right _ hi
    refine ⟨by rw [List.length_take, hl]; omega, .inr ⟨g, cap, cur, rfl, hb, hg, by omega, hcm, hcs, ?_⟩⟩
    rw [← htake, List.take_take, Nat.min_eq_left hm]
theorem grown_trans {a b c : World} {r : Option Nat} (h : a.grownBy b r) (k : b.grownBy c r) : a.grownBy c r :=
  ⟨k.os.trans h.os, k.tape.trans h.tape, k.output.trans h.output, Nat.le_trans h.size k.size, fun j hj hne => (k.block j (Nat.lt_of_lt_of_le hj h.size) hne).trans (h.block j hj hne)⟩
theorem own_setCells : ∀ (vs : List Value) (w : World) (o : Nat), w.ownsRow base e size (.slice (some ⟨g, 0, none⟩) n cap) n xs → xs.length ≤ o → (w.setCells g o vs).ownsRow base e size (.slice (some ⟨g, 0, none⟩) n cap) n xs ∧ w.grownBy (w.setCells g o vs) (some g)
  | [], w, o, h, _ => ⟨h, World.grownBy.refl _ _⟩
  | v :: vs, w, o, h, ho => by
    obtain ⟨h1, h2⟩ := h.stored o v
    rw [List.set_eq_of_length_le ho] at h1
    obtain ⟨h3, h4⟩ := own_setCells vs _ (o + 1) h1 (by omega)
    exact ⟨h3, grown_trans h2 h4⟩
end
theorem zero_cells {z : Array Value} {n : Nat} (h1 : ∀ v ∈ z, v.oneCell' = true) : ∀ v ∈ (Builtin.zeroCells z n).toList, v.oneCell' = true := by
  intro v hv
  unfold Builtin.zeroCells at hv
  rw [Array.toList_map, List.mem_map] at hv
  obtain ⟨a, ha, rfl⟩ := hv
  have ha : a < n * z.size := by simpa using ha
  have hz : 0 < z.size := Nat.pos_of_ne_zero fun e => by rw [e] at ha; omega
  rw [getElem!_pos z _ (Nat.mod_lt _ hz)]
  exact h1 _ (Array.getElem_mem _)
theorem run_clear_row (w : World) (t e ty : TypeId) (z : Value) (ht : Tryz.prog.underlying t = some (.slice e)) (hv : ∀ w, (zeroValue e).run Tryz.prog w = .ok z w) (h1 : ∀ v ∈ z.cells, v.oneCell' = true) (b o n c : Nat) (hn : 0 < n)
    (hc : ∀ j, j < n * z.cells.size → (w.cell? ⟨b, o + j, none⟩).isSome = true) (hf : ∀ j, j < n * z.cells.size → w.frozen? ⟨b, o + j, none⟩ = false) :
    (Builtin.clear_ #[t] ty #[.slice (some ⟨b, o, none⟩) n c]).run Tryz.prog w = .ok (.tuple #[]) (w.setCells b o (Builtin.zeroCells z.cells n).toList) := by
  have hl : (Builtin.zeroCells z.cells n).toList.length = n * z.cells.size := by simp [Builtin.zeroCells]
  have hst := run_storeCells_cells (P := Tryz.prog) b o (Builtin.zeroCells z.cells n).toList 0 w (by rw [hl]; simpa using hc) (by rw [hl]; simpa using hf) (zero_cells h1)
  simp only [Nat.add_zero] at hst
  obtain ⟨m, rfl⟩ : ∃ m, n = m + 1 := ⟨n - 1, by omega⟩
  simp [Builtin.clear_, run_underlying ht, hv, hst]
def keepTo {α : Type} (p : α → Bool) (S : List α) (j : Nat) : List α := (S.take j).filter fun s => !p s
theorem keepTo_succ {α : Type} {p : α → Bool} {S : List α} {j : Nat} {s : α} (h : S[j]? = some s) : keepTo p S (j + 1) = if p s then keepTo p S j else keepTo p S j ++ [s] := by
  unfold keepTo
  rw [List.take_add_one, h]
  simp only [Option.toList_some, List.filter_append]
  cases hq : p s <;> simp [hq]
theorem keepTo_first {α : Type} {p : α → Bool} {S : List α} {i : Nat} (h : S.findIdx? p = some i) : i < S.length ∧ keepTo p S (i + 1) = S.take i := by
  rw [List.findIdx?_eq_some_iff_getElem] at h
  obtain ⟨h1, h2, h3⟩ := h
  refine ⟨h1, ?_⟩
  rw [keepTo_succ (List.getElem?_eq_getElem h1), if_pos h2]
  unfold keepTo
  rw [List.filter_eq_self]
  intro x hx
  obtain ⟨j, hj, rfl⟩ := List.getElem_of_mem hx
  have hj' : j < i := by simp at hj; omega
  rw [List.getElem_take]
  have := h3 j hj'
  simpa using this
theorem keep_none {α : Type} {p : α → Bool} {S : List α} (h : S.findIdx? p = none) : (S.filter fun s => !p s) = S := by
  rw [List.findIdx?_eq_none_iff] at h
  rw [List.filter_eq_self]
  intro x hx
  rw [h x hx]
  rfl
theorem set_take {α : Type} {L : List α} {i : Nat} {s : α} (hi : i < L.length) : (L.set i s).take (i + 1) = L.take i ++ [s] := by
  rw [List.take_add_one, List.getElem?_set_self hi, List.take_set_of_le (Nat.le_refl _)]
  rfl
theorem set_drop {α : Type} {L : List α} {i j : Nat} {s : α} (hi : i < j) : (L.set i s).drop j = L.drop j := List.drop_set_of_lt hi
end Go.Proofs.YtgdfipmdmgkidaaGreatDoor

/- What a change kills; what a removal names. -/
namespace Go.Proofs.YtgdfipmdmgkidaaGreatDoor
open Go.RowKit
def chNames : ChM → FuncId
  | .add .. => 335
  | .remove .. => 343
  | .alter .. => 353
def ChSmall : ChM → Prop
  | .add _ _ _ S => S.length ≤ 100000
  | .remove _ _ S => S.length ≤ 100000
  | .alter _ _ Hs => Hs.length ≤ 900 ∧ ∀ x ∈ Hs, x.N.length ≤ 1000 ∧ 2 ≤ x.N.length
end Go.Proofs.YtgdfipmdmgkidaaGreatDoor

/- Does a change, does a patch need another one. -/
namespace Go.Proofs.YtgdfipmdmgkidaaGreatDoor
open Go.RowKit
def needB (c : ByteArray × ChM) (i : Pid) (d : ByteArray × ChM) : Bool := decide (c.1 = d.1) && (namesOf c.2).any (leansB i (killsOf d.2))
def needsP (P Q : PM) : Bool := P.Cs.any fun c => Q.Cs.any (needB c Q.id)
theorem needs_iff (P Q : PM) : needsP P Q = true ↔ NeedsP P Q := by
  unfold needsP NeedsP leansOn needB leansB
  simp only [List.any_eq_true, Bool.and_eq_true, decide_eq_true_eq, Bool.or_eq_true]
end Go.Proofs.YtgdfipmdmgkidaaGreatDoor
