/- Mathematics: a change that is made of what is kept: what it makes, and how it is told. -/
import Derived.Test.YtgdfipmdmgkidaaGreatDoorQneed
import Derived.Test.YtgdfipmdmgkidaaGreatDoorPstand
import Derived.Test.YtgdfipmdmgkidaaGreatDoorNneed
import Derived.Test.YtgdfipmdmgkidaaGreatDoorProw
namespace Go.Proofs.YtgdfipmdmgkidaaGreatDoor
open Go.RowKit

theorem GapsR.det {O N : List ByteArray} {i j : Nat} {Q : List Quad} (h : GapsR O N i j Q) : ∀ {Q' : List Quad}, GapsR O N i j Q' → Q = Q' := by
  induction h with
  | stop h1 h2 =>
    intro Q' h'
    cases h' with
    | stop k1 k2 => rw [h1] at k1; cases k1; rfl
    | go k1 k2 k3 => rw [h1] at k1; cases k1; omega
  | go h1 h2 h3 ih =>
    intro Q' h'
    cases h' with
    | stop k1 k2 => rw [h1] at k1; cases k1; omega
    | go k1 k2 k3 => rw [h1] at k1; cases k1; rw [ih k3]
theorem numTo_app (N : List ByteArray) : ∀ (A B : List Quad) (n : Int), numTo n N (A ++ B) = numTo (numTo n N A) N B
  | [], B, n => rfl
  | q :: A, B, n => by simp only [List.cons_append, numTo]; exact numTo_app N A B _
theorem numTo_gap (N : List ByteArray) (n : Int) (i k j l : Nat) (hjl : j ≤ l) (hl : l ≤ N.length) : numTo n N (gapOf i k j l) = n + (l - j : Nat) := by
  unfold gapOf
  split
  · simp only [numTo, linesAt]
    simp
    omega
  · have : l = j := by omega
    subst this
    simp [numTo]
/-- As many cells come as there are new lines, at most. -/
theorem GapsR.num {O N : List ByteArray} {i j : Nat} {Q : List Quad} (h : GapsR O N i j Q) (hi : i ≤ O.length) (hj : j ≤ N.length) (n : Int) : numTo n N Q ≤ n + (N.length - j : Nat) := by
  induction h generalizing n with
  | stop h1 h2 =>
    have p := nxt_at hi hj h1
    have hl := p.2.2.2.1
    have hjl := p.2.1
    rw [numTo_gap N n _ _ _ _ (by omega) (by omega)]
    omega
  | go h1 h2 h3 ih =>
    have p := nxt_at hi hj h1
    rcases p.2.2.2.2 with h | h
    · have h4 := h.2.1
      have q := ih (by omega) h4
      rw [numTo_app, numTo_gap N n _ _ _ _ (by omega) (by omega)]
      refine Int.le_trans (q _) ?_
      omega
    · omega

section
variable {S : List Spot} {N : List ByteArray} {i : Pid} {n : Int} {Q : List Quad} {Hs : List Hk}
theorem brAll_len : ∀ (Q : List Quad) (n : Int), n + (brAll i N n Q).length = numTo n N Q
  | [], n => by simp [brAll, numTo]
  | q :: Q, n => by
    unfold brAll
    rw [List.length_append, bring_len]
    simp only [numTo]
    rw [← brAll_len Q (n + (linesAt N q).length)]
    omega
/-- Hunks that were made of a row's gaps fit that row, one behind the other, and give the new lines; the row may be long. -/
theorem made_steps2 (hm : Made (framed S) i n N Q Hs) (hg : GapsR (rowLines S) N 0 0 Q) (hF : (framed S).Nodup) (hid : ∀ s ∈ framed S, ¬ (s.a = i.a ∧ s.b = i.b ∧ s.c = i.c ∧ s.d = i.d)) (hS : S.length ≤ 9000) (hR : (rowLines S).length ≤ 400) (hN : N.length ≤ 400) :
    Steps (fSeq (framed S) (qbOf Q Hs)) Hs ∧ rowLines (midRow (fSeq (framed S) (qbOf Q Hs) Hs.length)) = N ∧ (fSeq (framed S) (qbOf Q Hs) Hs.length).length ≤ 200000 := by
  have ho := hg.ord (Nat.zero_le _) (Nat.zero_le _)
  have hlen := ho.len
  have hlf := living_framed S
  have hQH : Hs.length = Q.length := hm.1
  have hB : ∀ r ∈ qbOf Q Hs, ∀ s ∈ r.2, s ∉ framed S := fun r hr s hs hsF => by
    obtain ⟨m, h⟩ := qb_mem hm r hr
    rw [h] at hs
    exact hid s hsF (bring_id hs)
  have hM : ∀ r ∈ qbOf Q Hs, r.2.length ≤ 400 := fun r hr => by
    obtain ⟨m, h⟩ := qb_mem hm r hr
    have := linesAt_len N r.1
    rw [h, bring_len]
    omega
  have h0 : HkAt (framed S) (qbOf Q Hs) 0 := HkAt.start (living_first S) (by omega) (by rw [qb_map hm, hlf]; exact ho)
  have hql := qb_len hm
  have hFl : (framed S).length = S.length + 2 := by simp [framed]
  have hbig : ∀ k, k ≤ Hs.length → (fSeq (framed S) (qbOf Q Hs) k).length ≤ 200000 ∧ 2 ≤ (fSeq (framed S) (qbOf Q Hs) k).length := fun k hk => by
    obtain ⟨a, b⟩ := fSeq_len hF hB h0 400 hM k (by omega)
    have : k * 400 ≤ 402 * 400 := Nat.mul_le_mul_right _ (by omega)
    omega
  refine ⟨⟨fun k h hk => ?_, fun k h hk => ?_, (hbig _ (Nat.le_refl _)).2, by have := (hbig _ (Nat.le_refl _)).1; omega⟩, ?_, (hbig _ (Nat.le_refl _)).1⟩
  · have hkl : k < Hs.length := (List.getElem?_eq_some_iff.1 hk).1
    obtain ⟨q, e1, e2, e3, e4⟩ := qb_at hm hk
    obtain ⟨_, p, a1, a2, a3, a4, a5, a6, a7⟩ := (HkAt.all hF hB h0 k (by omega)).step hF e2 (hB _ (List.mem_of_getElem? e2))
    rw [e3]
    exact ⟨_, p, a1, a2, a3, a4, a6⟩
  · have hkl : k < Hs.length := (List.getElem?_eq_some_iff.1 hk).1
    obtain ⟨q, e1, e2, e3, e4⟩ := qb_at hm hk
    obtain ⟨_, p, a1, a2, a3, a4, a5, a6, a7⟩ := (HkAt.all hF hB h0 k (by omega)).step hF e2 (hB _ (List.mem_of_getElem? e2))
    have b1 := (hbig k (by omega)).1
    have b2 := hM _ (List.mem_of_getElem? e2)
    rw [e3]
    simp only at b2
    omega
  · rw [← hql, (HkAt.all hF hB h0 _ (Nat.le_refl _)).last, rows_laid S N _ (by rw [qb_map hm]; exact ho) (fun r hr => ?_), qb_map hm]
    · have := hg.gives (Nat.zero_le _) (Nat.zero_le _)
      rw [this, List.drop_zero]
    · obtain ⟨m, h⟩ := qb_mem hm r hr
      rw [h, rowLines_bring]
end

/-- What a change that is made now makes of the file. -/
theorem made_next {ids : List Pid} {p : PL} (h : CellsOK ids p) {i : Pid} (hi : i ∉ ids) (hz : zid ∉ ids) (hiz : i ≠ zid) {n n' : Int} (hn : 0 ≤ n) {there : Bool} {text : ByteArray} {c : ChM} (hc : ChMade p i n there text c n') (hth : p.alive = false → there = true) (hS : p.S.length ≤ 9000) (hR : (rowLines p.S).length ≤ 90) (hN : (cutAll text).length ≤ 20) :
    ∃ p', ApplyP c p p' ∧ CellsOK (ids ++ [i]) p' ∧ (∀ x ∈ liveC p', x ∈ liveC p ∨ x.1 = i) ∧ p'.alive = there ∧ (there = true → rowLines p'.S = cutAll text) ∧ p'.S.length ≤ p.S.length + (cutAll text).length := by
  cases c with
  | add i' l rv S =>
    obtain ⟨h1, rfl, _, rfl, _⟩ := hc
    refine ⟨⟨i', true, bring i' n (cutAll text)⟩, rfl, ⟨bring_cids _ _ _, fun s hs => ?_, fun _ => by simp, .inl (by simp), fun e => by cases e⟩, fun x hx => ?_, (hth h1).symm, fun _ => rowLines_bring _ _ _, by simp only [bring_len]; omega⟩
    · have hs' : s ∈ bring i' n (cutAll text) := hs
      obtain ⟨a, b, c, d⟩ := bring_id hs'
      refine ⟨?_, ?_⟩
      · have : sid s = i' := by unfold sid; rw [a, b, c, d]
        rw [this]; simp
      · unfold bring brTo at hs'
        obtain ⟨k, _, rfl⟩ := List.mem_map.1 hs'
        simp only [brS]
        omega
    · obtain ⟨_, hx⟩ := live_inv hx
      right
      rcases hx with rfl | ⟨s, hs, _, rfl⟩
      · rfl
      · obtain ⟨a, b, c, d⟩ := bring_id (show s ∈ bring i' n (cutAll text) from hs)
        show sid s = i'
        unfold sid; rw [a, b, c, d]
  | remove i' rv S =>
    obtain ⟨h1, h2, rfl, rfl, _⟩ := hc
    refine ⟨⟨p.by_, false, deadRow p.S⟩, ⟨rfl, by omega⟩, ⟨by rw [cids_dead]; exact h.nd, fun s hs => ?_, (fun e => by cases e), ?_, fun _ s hs => ?_⟩, fun x hx => ?_, h2.symm, (fun e => by rw [h2] at e; cases e), ?_⟩
    · obtain ⟨t, ht, rfl⟩ := List.mem_map.1 hs
      obtain ⟨a, b⟩ := h.own t ht
      exact ⟨List.mem_append_left _ a, b⟩
    · rcases h.byZ with a | a
      · exact .inl (List.mem_append_left _ a)
      · exact .inr a
    · obtain ⟨t, ht, rfl⟩ := List.mem_map.1 hs
      rfl
    · have := (live_inv hx).1
      cases this
    · simp [deadRow]
  | alter i' hv Hs =>
    obtain ⟨h1, h2, rfl, Q, hg, hm, _⟩ := hc
    have hFc := cids_framed h hz
    have hF := nodup_of_map hFc
    have hid := fresh_framed h hi hiz
    obtain ⟨s1, s2, s3⟩ := made_steps2 hm hg hF hid hS (by omega) (by omega)
    have hQ := hg.len (Nat.zero_le _) (Nat.zero_le _)
    have hHs : Hs.length = Q.length := hm.1
    have hperm := alt_cids hm hg hF hid
    have hnum := hg.num (Nat.zero_le _) (Nat.zero_le _) n
    have hbl := brAll_len (i := i) (N := cutAll text) Q n
    have hcid : ∀ s ∈ altRow p.S Q Hs, (∃ t ∈ p.S, cid s = cid t) ∨ ∃ t ∈ brAll i (cutAll text) n Q, cid s = cid t := fun s hs => by
      have := hperm.mem_iff.1 (List.mem_map.2 ⟨s, hs, rfl⟩)
      rcases List.mem_append.1 this with h | h
      · obtain ⟨t, ht, e⟩ := List.mem_map.1 h
        exact .inl ⟨t, ht, e.symm⟩
      · obtain ⟨t, ht, e⟩ := List.mem_map.1 h
        exact .inr ⟨t, ht, e.symm⟩
    refine ⟨⟨p.by_, true, altRow p.S Q Hs⟩, ⟨_, rfl, s1, rfl, by omega, by omega⟩, ⟨?_, fun s hs => ?_, fun _ => List.mem_append_left _ (h.byA h1), .inl (List.mem_append_left _ (h.byA h1)), fun e => by cases e⟩, fun x hx => ?_, h2.symm, fun _ => s2, ?_⟩
    · refine hperm.nodup_iff.2 ?_
      rw [List.nodup_append]
      refine ⟨h.nd, brAll_nodup Q n, fun a ha b hb e => ?_⟩
      obtain ⟨s, hs, rfl⟩ := List.mem_map.1 ha
      obtain ⟨t, ht, rfl⟩ := List.mem_map.1 hb
      have h3 := (brAll_mem Q n t ht).1
      have h4 : sid s = sid t := congrArg Prod.fst e
      exact hi (by rw [← h3, ← h4]; exact (h.own s hs).1)
    · rcases hcid s hs with ⟨t, ht, e⟩ | ⟨t, ht, e⟩
      · have e1 : sid s = sid t := congrArg Prod.fst e
        have e2 : s.num = t.num := congrArg Prod.snd e
        rw [e1, e2]
        exact ⟨List.mem_append_left _ (h.own t ht).1, (h.own t ht).2⟩
      · have e1 : sid s = sid t := congrArg Prod.fst e
        have e2 : s.num = t.num := congrArg Prod.snd e
        obtain ⟨b1, b2, _⟩ := brAll_mem Q n t ht
        rw [e1, e2, b1]
        exact ⟨by simp, by omega⟩
    · obtain ⟨_, hx⟩ := live_inv hx
      rcases hx with rfl | ⟨s, hs, ha, rfl⟩
      · left
        unfold liveC
        rw [if_pos h1]
        exact List.mem_cons_self
      · rcases alt_mem hm hg hF hid hs with k | ⟨t, _, rfl⟩ | k
        · rcases hcid s hs with ⟨t, ht, e⟩ | ⟨t, ht, e⟩
          · left
            have e2 : s.num = t.num := congrArg Prod.snd e
            have h0 := (h.own t ht).2
            rcases framed_mem k with rfl | k | rfl
            · simp [begS, edgeS] at e2; omega
            · exact live_mem h1 k ha
            · simp [endS, edgeS] at e2; omega
          · right
            exact (congrArg Prod.fst e).trans (brAll_mem Q n t ht).1
        · cases ha
        · right
          exact (brAll_mem Q n s k).1
    · have hl := hperm.length_eq
      rw [List.length_append, List.length_map, List.length_map, List.length_map] at hl
      show (altRow p.S Q Hs).length ≤ _
      rw [hl]
      omega
end Go.Proofs.YtgdfipmdmgkidaaGreatDoor

/- Mathematics: patches that were recorded one behind the other: what each record keeps. -/
namespace Go.Proofs.YtgdfipmdmgkidaaGreatDoor
open Go.RowKit

/-- What holds of patches and of what they make. -/
structure GoodT (Ps : List PM) (s : ByteArray → PL) : Prop where
  cells : ∀ x, CellsOK (Ps.map (·.id)) (s x)
  named : ∀ P ∈ Ps, ∀ c ∈ P.Cs, NamedOK (Ps.map (·.id)) c.2 (s c.1)
  noz : zid ∉ Ps.map (·.id)
  small : ∀ P ∈ Ps, P.Cs.length ≤ 1000 ∧ ∀ c ∈ P.Cs, ChSmall c.2
  len : ∀ x, (s x).S.length ≤ 20 * Ps.length
  lines : ∀ x, (rowLines (s x).S).length ≤ 20
  lsz : ∀ x, ∀ l ∈ rowLines (s x).S, l.size ≤ 1000
theorem GoodT.nil : GoodT [] (fun _ => pl0) :=
  ⟨fun _ => ⟨by simp [pl0], by simp [pl0], (fun h => by cases h), .inr rfl, by simp [pl0]⟩, by simp, by simp, by simp, fun _ => by simp [pl0], fun _ => by simp [pl0, rowLines, living, livTo], fun _ => by simp [pl0, rowLines, living, livTo]⟩

theorem made_up {p : PL} {i : Pid} {n n' : Int} {there : Bool} {text : ByteArray} {c : ChM} (h : ChMade p i n there text c n') : n ≤ n' := by
  cases c with
  | add i' l rv S => obtain ⟨_, _, _, _, rfl⟩ := h; omega
  | remove i' rv S => obtain ⟨_, _, _, _, rfl⟩ := h; omega
  | alter i' hv Hs =>
    obtain ⟨_, _, _, Q, _, _, rfl⟩ := h
    exact numTo_le _ _ _
theorem made_chsmall {ids : List Pid} {p : PL} (h : CellsOK ids p) {i : Pid} (hi : i ∉ ids) (hz : zid ∉ ids) (hiz : i ≠ zid) {n n' : Int} {there : Bool} {text : ByteArray} {c : ChM} (hc : ChMade p i n there text c n') (hS : p.S.length ≤ 900) (hR : (rowLines p.S).length ≤ 90) (hN : (cutAll text).length ≤ 20) : ChSmall c := by
  cases c with
  | add i' l rv S =>
    obtain ⟨_, _, _, rfl, _⟩ := hc
    show (bring i n (cutAll text)).length ≤ 100000
    rw [bring_len]
    omega
  | remove i' rv S =>
    obtain ⟨_, _, _, rfl, _⟩ := hc
    show p.S.length ≤ 100000
    omega
  | alter i' hv Hs =>
    obtain ⟨h1, h2, rfl, Q, hg, hm, _⟩ := hc
    have hF := nodup_of_map (cids_framed h hz)
    have hid := fresh_framed h hi hiz
    obtain ⟨s1, _, _⟩ := made_steps2 hm hg hF hid (by omega) (by omega) (by omega)
    have hQ := hg.len (Nat.zero_le _) (Nat.zero_le _)
    have hHs : Hs.length = Q.length := hm.1
    refine ⟨by omega, fun x hx => ?_⟩
    obtain ⟨k, hk⟩ := List.mem_iff_getElem?.1 hx
    obtain ⟨_, _, _, _, _, h2', _⟩ := s1.step k x hk
    obtain ⟨q, _, e, _⟩ := hm.2 k x hk
    refine ⟨?_, h2'⟩
    rw [e]
    have : (namedOf (framed p.S) q).length ≤ (framed p.S).length := by unfold namedOf; simp; omega
    have : (framed p.S).length = p.S.length + 2 := by simp [framed]
    omega

/-- A file that may be recorded. -/
structure FlGood (s : ByteArray → PL) (g : Fl) : Prop where
  lines : (cutAll g.text).length ≤ 20
  there : (s g.name).alive = false → g.there = true
  lsz : ∀ l ∈ cutAll g.text, l.size ≤ 1000

theorem MadeAll.pos {s : ByteArray → PL} {i : Pid} {Fs : List Fl} {Cs : List (ByteArray × ChM)} {m : Nat → Int} (h : MadeAll s i Fs Cs m) : ∀ k, k ≤ Cs.length → 0 ≤ m k
  | 0, _ => by rw [h.zero]; exact Int.le_refl _
  | k + 1, hk => by
    have ih := MadeAll.pos h k (by omega)
    have hkF : k < Fs.length := by rw [← h.len]; omega
    obtain ⟨_, hc⟩ := h.at_ k _ _ (List.getElem?_eq_getElem hkF) (List.getElem?_eq_getElem (by omega))
    exact Int.le_trans ih (made_up hc)

/-- What is kept behind the first changes of a patch. -/
noncomputable def stAt (s : ByteArray → PL) (Cs : List (ByteArray × ChM)) (P' : Nat → PL) (k : Nat) (x : ByteArray) : PL := match (Cs.take k).findIdx? (fun c => decide (c.1 = x)) with
  | some j => P' j
  | none => s x
theorem stAt_zero (s : ByteArray → PL) (Cs : List (ByteArray × ChM)) (P' : Nat → PL) : stAt s Cs P' 0 = s := by
  funext x
  simp [stAt]
theorem names_inj {Cs : List (ByteArray × ChM)} (hnd : (Cs.map (·.1)).Nodup) {j k : Nat} {c d : ByteArray × ChM} (hj : Cs[j]? = some c) (hk : Cs[k]? = some d) (e : c.1 = d.1) : j = k := by
  obtain ⟨h1, h1'⟩ := List.getElem?_eq_some_iff.1 hj
  obtain ⟨h2, h2'⟩ := List.getElem?_eq_some_iff.1 hk
  rw [List.Nodup, List.pairwise_map] at hnd
  have hp := List.pairwise_iff_getElem.1 hnd
  rcases Nat.lt_trichotomy j k with h | h | h
  · exact absurd (by rw [h1', h2']; exact e) (hp j k h1 h2 h)
  · exact h
  · exact absurd (by rw [h1', h2']; exact e.symm) (hp k j h2 h1 h)
theorem stAt_hit {s : ByteArray → PL} {Cs : List (ByteArray × ChM)} {P' : Nat → PL} (hnd : (Cs.map (·.1)).Nodup) {j k : Nat} {c : ByteArray × ChM} (hj : Cs[j]? = some c) (hjk : j < k) : stAt s Cs P' k c.1 = P' j := by
  have : (Cs.take k).findIdx? (fun d => decide (d.1 = c.1)) = some j := by
    have hl := (List.getElem?_eq_some_iff.1 hj).1
    have hl2 : j < (Cs.take k).length := by rw [List.length_take]; omega
    have e : (Cs.take k)[j] = c := by
      rw [List.getElem_take]
      exact (List.getElem?_eq_some_iff.1 hj).2
    refine find_hit hl2 (by simp [e]) (fun t ht htj => ?_)
    rw [List.getElem_take]
    simp only [decide_eq_false_iff_not]
    intro e2
    have ht2 : t < Cs.length := by rw [List.length_take] at ht; omega
    have := names_inj hnd (List.getElem?_eq_getElem ht2) hj e2
    omega
  simp only [stAt, this]
theorem stAt_miss {s : ByteArray → PL} {Cs : List (ByteArray × ChM)} {P' : Nat → PL} {k : Nat} {x : ByteArray} (h : ∀ (j : Nat) (c : ByteArray × ChM), j < k → Cs[j]? = some c → c.1 ≠ x) : stAt s Cs P' k x = s x := by
  have : (Cs.take k).findIdx? (fun d => decide (d.1 = x)) = none := by
    refine find_miss (fun t ht => ?_)
    rw [List.getElem_take]
    have h2 : t < k ∧ t < Cs.length := by rw [List.length_take] at ht; omega
    simpa using h t _ h2.1 (List.getElem?_eq_getElem h2.2)
  simp only [stAt, this]

section
variable {Ps : List PM} {s : ByteArray → PL} {i : Pid} {Fs : List Fl} {Cs : List (ByteArray × ChM)} {m : Nat → Int}
theorem good_next (h : GoodT Ps s) (hl : Ps.length ≤ 40) (hi : i ∉ Ps.map (·.id)) (hiz : i ≠ zid) (hF : ∀ g ∈ Fs, FlGood s g) (hM : MadeAll s i Fs Cs m) :
    ∃ P' : Nat → PL, ∀ (k : Nat) (g : Fl) (c : ByteArray × ChM), Fs[k]? = some g → Cs[k]? = some c → ApplyP c.2 (s c.1) (P' k) ∧ CellsOK (Ps.map (·.id) ++ [i]) (P' k) ∧ (∀ x ∈ liveC (P' k), x ∈ liveC (s c.1) ∨ x.1 = i) ∧ (P' k).alive = g.there ∧ (g.there = true → rowLines (P' k).S = cutAll g.text) ∧ (P' k).S.length ≤ (s c.1).S.length + (cutAll g.text).length := by
  have : ∀ k : Nat, ∃ p' : PL, ∀ (g : Fl) (c : ByteArray × ChM), Fs[k]? = some g → Cs[k]? = some c → ApplyP c.2 (s c.1) p' ∧ CellsOK (Ps.map (·.id) ++ [i]) p' ∧ (∀ x ∈ liveC p', x ∈ liveC (s c.1) ∨ x.1 = i) ∧ p'.alive = g.there ∧ (g.there = true → rowLines p'.S = cutAll g.text) ∧ p'.S.length ≤ (s c.1).S.length + (cutAll g.text).length := fun k => by
    by_cases hk : k < Cs.length
    · have hkF : k < Fs.length := by rw [← hM.len]; exact hk
      obtain ⟨e1, hc⟩ := hM.at_ k _ _ (List.getElem?_eq_getElem hkF) (List.getElem?_eq_getElem hk)
      have hg := hF _ (List.getElem_mem hkF)
      have hlen := h.len Fs[k].name
      have hlin := h.lines Fs[k].name
      obtain ⟨p', h'⟩ := made_next (h.cells Fs[k].name) hi h.noz hiz (hM.pos k (by omega)) hc hg.there (by omega) (by omega) hg.lines
      refine ⟨p', fun g c hg' hc' => ?_⟩
      rw [List.getElem?_eq_getElem hkF] at hg'
      rw [List.getElem?_eq_getElem hk] at hc'
      cases hg'
      cases hc'
      rw [e1]
      exact h'
    · exact ⟨pl0, fun g c _ hc' => by rw [List.getElem?_eq_none (by omega)] at hc'; cases hc'⟩
  exact ⟨fun k => (this k).choose, fun k => (this k).choose_spec⟩

/-- A patch is recorded. -/
theorem good_record (h : GoodT Ps s) (hl : Ps.length < 40) (hi : i ∉ Ps.map (·.id)) (hiz : i ≠ zid) (hF : ∀ g ∈ Fs, FlGood s g) (hM : MadeAll s i Fs Cs m) (hnd : (Cs.map (·.1)).Nodup) (hFs : Fs.length ≤ 50) (cv : Value) :
    ∃ P' : Nat → PL, (∀ (k : Nat) (c : ByteArray × ChM), Cs[k]? = some c → ApplyP c.2 (stAt s Cs P' k c.1) (stAt s Cs P' (k + 1) c.1)) ∧ GoodT (Ps ++ [⟨i, cv, Cs⟩]) (stAt s Cs P' Cs.length) ∧
      (∀ (k : Nat) (g : Fl), Fs[k]? = some g → (stAt s Cs P' Cs.length g.name).alive = g.there ∧ (g.there = true → rowLines (stAt s Cs P' Cs.length g.name).S = cutAll g.text)) ∧ (∀ x, (∀ g ∈ Fs, g.name ≠ x) → stAt s Cs P' Cs.length x = s x) ∧
      ∀ Q ∈ Ps ++ [⟨i, cv, Cs⟩], needsP Q ⟨i, cv, Cs⟩ = false := by
  obtain ⟨P', hP'⟩ := good_next h (by omega) hi hiz hF hM
  have fl : ∀ (k : Nat) (c : ByteArray × ChM), Cs[k]? = some c → ∃ g, Fs[k]? = some g ∧ c.1 = g.name ∧ ChMade (s g.name) i (m k) g.there g.text c.2 (m (k + 1)) := fun k c hk => by
    have hkF : k < Fs.length := by rw [← hM.len]; exact (List.getElem?_eq_some_iff.1 hk).1
    exact ⟨_, List.getElem?_eq_getElem hkF, hM.at_ k _ c (List.getElem?_eq_getElem hkF) hk⟩
  have before : ∀ (k : Nat) (c : ByteArray × ChM), Cs[k]? = some c → stAt s Cs P' k c.1 = s c.1 := fun k c hk => stAt_miss fun j d hj hd e => by
    have := names_inj hnd hd hk e
    omega
  have final : ∀ (k : Nat) (c : ByteArray × ChM), Cs[k]? = some c → stAt s Cs P' Cs.length c.1 = P' k := fun k c hk => stAt_hit hnd hk (List.getElem?_eq_some_iff.1 hk).1
  -- of a name: it is changed, or it is as it was
  have cases_ : ∀ x, (∃ (k : Nat) (c : ByteArray × ChM) (g : Fl), Cs[k]? = some c ∧ Fs[k]? = some g ∧ c.1 = x ∧ stAt s Cs P' Cs.length x = P' k) ∨ stAt s Cs P' Cs.length x = s x := fun x => by
    by_cases hx : ∃ (k : Nat) (c : ByteArray × ChM), Cs[k]? = some c ∧ c.1 = x
    · obtain ⟨k, c, hk, rfl⟩ := hx
      obtain ⟨g, hg, _⟩ := fl k c hk
      exact .inl ⟨k, c, g, hk, hg, rfl, final k c hk⟩
    · exact .inr (stAt_miss fun j c _ hc e => hx ⟨j, c, hc, e⟩)
  have ids : (Ps ++ [(⟨i, cv, Cs⟩ : PM)]).map (·.id) = Ps.map (·.id) ++ [i] := by simp
  have live : ∀ x y, y ∈ liveC (stAt s Cs P' Cs.length x) → y ∈ liveC (s x) ∨ y.1 = i := fun x y hy => by
    rcases cases_ x with ⟨k, c, g, hk, hg, rfl, e⟩ | e
    · rw [e] at hy
      exact (hP' k g c hg hk).2.2.1 y hy
    · rw [e] at hy
      exact .inl hy
  have wid : ∀ c x, NamedOK (Ps.map (·.id)) c (s x) → NamedOK (Ps.map (·.id) ++ [i]) c (stAt s Cs P' Cs.length x) := fun c x hN t ht => by
    obtain ⟨h1, h2⟩ := hN t ht
    refine ⟨h1.elim (fun a => .inl (List.mem_append_left _ a)) .inr, fun hd hlv => ?_⟩
    rcases live x _ hlv with a | a
    · exact h2 hd a
    · have a' : sid t = i := a
      rcases h1 with b | b
      · exact hi (a' ▸ b)
      · exact hiz (a'.symm.trans b)
  have newN : ∀ c ∈ Cs, NamedOK (Ps.map (·.id)) c.2 (s c.1) := fun c hc => by
    obtain ⟨k, hk⟩ := List.mem_iff_getElem?.1 hc
    obtain ⟨g, _, e, hcm⟩ := fl k c hk
    rw [e]
    exact made_names (h.cells g.name) hcm
  refine ⟨P', fun k c hk => ?_, ⟨fun x => ?_, fun P hP c hc => ?_, ?_, fun P hP => ?_, fun x => ?_, fun x => ?_, fun x => ?_⟩, fun k g hg => ?_, fun x hx => ?_, fun Q hQ => ?_⟩
  · obtain ⟨g, hg, _⟩ := fl k c hk
    rw [before k c hk, stAt_hit hnd hk (Nat.lt_succ_self k)]
    exact (hP' k g c hg hk).1
  · rw [ids]
    rcases cases_ x with ⟨k, c, g, hk, hg, rfl, e⟩ | e
    · rw [e]
      exact (hP' k g c hg hk).2.1
    · rw [e]
      have hc := h.cells x
      exact ⟨hc.nd, fun t ht => ⟨List.mem_append_left _ (hc.own t ht).1, (hc.own t ht).2⟩, fun ha => List.mem_append_left _ (hc.byA ha), hc.byZ.elim (fun a => .inl (List.mem_append_left _ a)) .inr, hc.dead⟩
  · rw [ids]
    rcases List.mem_append.1 hP with hP | hP
    · exact wid _ _ (h.named P hP c hc)
    · rw [List.mem_singleton.1 hP] at hc
      exact wid _ _ (newN c hc)
  · rw [ids, List.mem_append, List.mem_singleton]
    rintro (a | a)
    · exact h.noz a
    · exact hiz a.symm
  · rcases List.mem_append.1 hP with hP | hP
    · exact h.small P hP
    · rw [List.mem_singleton.1 hP]
      refine ⟨by show Cs.length ≤ 1000; rw [hM.len]; omega, fun c hc => ?_⟩
      obtain ⟨k, hk⟩ := List.mem_iff_getElem?.1 hc
      obtain ⟨g, hg, e, hcm⟩ := fl k c hk
      have hlen := h.len g.name
      have hlin := h.lines g.name
      exact made_chsmall (h.cells g.name) hi h.noz hiz hcm (by omega) (by omega) (hF g (List.mem_of_getElem? hg)).lines
  · rw [List.length_append, List.length_singleton]
    rcases cases_ x with ⟨k, c, g, hk, hg, rfl, e⟩ | e
    · rw [e]
      have h1 := (hP' k g c hg hk).2.2.2.2.2
      have h2 := h.len c.1
      have h3 := (hF g (List.mem_of_getElem? hg)).lines
      omega
    · rw [e]
      have := h.len x
      omega
  · rcases cases_ x with ⟨k, c, g, hk, hg, rfl, e⟩ | e
    · rw [e]
      obtain ⟨_, hco, _, hal, hli, _⟩ := hP' k g c hg hk
      cases hth : g.there with
      | true =>
        rw [hli hth]
        exact (hF g (List.mem_of_getElem? hg)).lines
      | false =>
        have hd := hco.dead (by rw [hal, hth])
        have : rowLines (P' k).S = [] := by
          rw [rowLines_eq]
          unfold aliveOf
          rw [List.filter_eq_nil_iff.2 (fun t ht => by rw [hd t ht]; simp)]
          rfl
        rw [this]
        simp
    · rw [e]
      exact h.lines x
  · rcases cases_ x with ⟨k, c, g, hk, hg, rfl, e⟩ | e
    · rw [e]
      obtain ⟨_, hco, _, hal, hli, _⟩ := hP' k g c hg hk
      cases hth : g.there with
      | true =>
        rw [hli hth]
        exact (hF g (List.mem_of_getElem? hg)).lsz
      | false =>
        have hd := hco.dead (by rw [hal, hth])
        have : rowLines (P' k).S = [] := by
          rw [rowLines_eq]
          unfold aliveOf
          rw [List.filter_eq_nil_iff.2 (fun t ht => by rw [hd t ht]; simp)]
          rfl
        rw [this]
        simp
    · rw [e]
      exact h.lsz x
  · have hkC : k < Cs.length := by rw [hM.len]; exact (List.getElem?_eq_some_iff.1 hg).1
    obtain ⟨e1, _⟩ := hM.at_ k g _ hg (List.getElem?_eq_getElem hkC)
    have e2 := final k _ (List.getElem?_eq_getElem hkC)
    rw [e1] at e2
    rw [e2]
    have := hP' k g _ hg (List.getElem?_eq_getElem hkC)
    exact ⟨this.2.2.2.1, this.2.2.2.2.1⟩
  · refine stAt_miss fun j c _ hc e => ?_
    obtain ⟨g, hg, e2, _⟩ := fl j c hc
    exact hx g (List.mem_of_getElem? hg) (e2.symm.trans e)
  · cases hn : needsP Q ⟨i, cv, Cs⟩ with
    | false => rfl
    | true =>
      exfalso
      obtain ⟨c, hc, d, hd, he, t, ht, hlean⟩ := (needs_iff Q _).1 hn
      simp only at hd hlean
      have hcN : NamedOK (Ps.map (·.id)) c.2 (s c.1) := by
        rcases List.mem_append.1 hQ with hQ | hQ
        · exact h.named Q hQ c hc
        · rw [List.mem_singleton.1 hQ] at hc
          exact newN c hc
      obtain ⟨h1, h2⟩ := hcN t ht
      rcases hlean with hlean | hlean
      · rcases h1 with b | b
        · exact hi (hlean ▸ b)
        · exact hiz (hlean.symm.trans b)
      · obtain ⟨k, hk⟩ := List.mem_iff_getElem?.1 hd
        obtain ⟨g, _, e, hcm⟩ := fl k d hk
        obtain ⟨hdead, hlv⟩ := made_kills (h.cells g.name) hcm t hlean
        rw [← e, ← he] at hlv
        exact h2 hdead hlv
end
end Go.Proofs.YtgdfipmdmgkidaaGreatDoor

/- Mathematics: a hunk is laid on a row; two hunks that do not lean on one another change places. -/
namespace Go.Proofs.YtgdfipmdmgkidaaGreatDoor
open Go.RowKit

/-- A hunk that names N and brings Br is laid on the row F. -/
def HStep (F N Br F' : List Spot) : Prop := ∃ A a M b C, N = a :: (M ++ [b]) ∧ F = A ++ (N ++ C) ∧ F' = A ++ (a :: (deadRow M ++ (Br ++ (b :: C)))) ∧ a.alive = true ∧ b.alive = true ∧ ((∃ m ∈ M, m.alive = true) ∨ Br ≠ [])
/-- What it kills, dead. -/
def killsH (N : List Spot) : List Spot := deadRow (aliveOf ((N.take (N.length - 1)).drop 1))
theorem mid_of (a b : Spot) (M : List Spot) : ((a :: (M ++ [b])).take ((a :: (M ++ [b])).length - 1)).drop 1 = M := by
  simp
theorem seg_cases {α : Type} {X Z Y A N C : List α} (h : X ++ (Z ++ Y) = A ++ (N ++ C)) (hN : N ≠ []) (hz1 : ∀ t, N.head? = some t → t ∉ Z) (hz2 : ∀ t, N.getLast? = some t → t ∉ Z) (hZ : ∃ z ∈ Z, z ∉ N) :
    (∃ D, X = A ++ (N ++ D) ∧ C = D ++ (Z ++ Y)) ∨ (∃ D, Y = D ++ (N ++ C) ∧ A = X ++ (Z ++ D)) := by
  by_cases h1 : A.length + N.length ≤ X.length
  · left
    have e1 : A ++ N = X.take (A.length + N.length) := by
      have := congrArg (List.take (A.length + N.length)) h
      rw [List.take_append_of_le_length h1, ← List.append_assoc, List.take_left' (by simp)] at this
      exact this.symm
    have e2 : C = X.drop (A.length + N.length) ++ (Z ++ Y) := by
      have := congrArg (List.drop (A.length + N.length)) h
      rw [List.drop_append_of_le_length h1, ← List.append_assoc A N C, List.drop_left' (by simp)] at this
      exact this.symm
    refine ⟨X.drop (A.length + N.length), ?_, e2⟩
    rw [← List.append_assoc, e1, List.take_append_drop]
  · by_cases h2 : X.length + Z.length ≤ A.length
    · right
      have e1 : A.take (X.length + Z.length) = X ++ Z := by
        have := congrArg (List.take (X.length + Z.length)) h
        rw [List.take_append_of_le_length h2, ← List.append_assoc, List.take_left' (by simp)] at this
        exact this.symm
      have e2 : Y = A.drop (X.length + Z.length) ++ (N ++ C) := by
        have := congrArg (List.drop (X.length + Z.length)) h
        rw [List.drop_append_of_le_length h2, ← List.append_assoc X Z Y, List.drop_left' (by simp)] at this
        exact this
      refine ⟨A.drop (X.length + Z.length), e2, ?_⟩
      rw [← List.append_assoc, ← e1, List.take_append_drop]
    · exfalso
      -- positions: X.length - A.length .. : the first of N lies ahead of Z's end, the last behind X's end
      have hat : ∀ j, j < N.length → (X ++ (Z ++ Y))[A.length + j]? = N[j]? := fun j hj => by
        rw [h, List.getElem?_append_right (by omega), List.getElem?_append_left (by omega)]
        congr 1
        omega
      have hzz : ∀ j, j < N.length → X.length ≤ A.length + j → A.length + j < X.length + Z.length → N[j]? = Z[A.length + j - X.length]? := fun j hj h3 h4 => by
        rw [← hat j hj, List.getElem?_append_right h3, List.getElem?_append_left (by omega)]
      have hNl : 0 < N.length := List.length_pos_iff.2 hN
      -- the first is not in Z
      have hA : A.length < X.length := by
        by_cases hc : A.length < X.length
        · exact hc
        · have := hzz 0 hNl (by omega) (by omega)
          have hi : A.length + 0 - X.length < Z.length := by omega
          rw [List.getElem?_eq_getElem hi] at this
          exact absurd (List.getElem_mem hi) (hz1 _ (by rw [List.head?_eq_getElem?]; exact this))
      have hB : X.length + Z.length < A.length + N.length := by
        by_cases hc : X.length + Z.length < A.length + N.length
        · exact hc
        · have := hzz (N.length - 1) (by omega) (by omega) (by omega)
          have hi : A.length + (N.length - 1) - X.length < Z.length := by omega
          rw [List.getElem?_eq_getElem hi] at this
          exact absurd (List.getElem_mem hi) (hz2 _ (by rw [List.getLast?_eq_getElem?]; exact this))
      obtain ⟨z, hz, hzN⟩ := hZ
      obtain ⟨k, hk, rfl⟩ := List.getElem_of_mem hz
      have := hzz (X.length + k - A.length) (by omega) (by omega) (by omega)
      have e : A.length + (X.length + k - A.length) - X.length = k := by omega
      rw [e, List.getElem?_eq_getElem hk] at this
      exact hzN (List.mem_of_getElem? this)
theorem hstep_swap {F F1 F12 N1 B1 N2 B2 : List Spot} (h1 : HStep F N1 B1 F1) (h2 : HStep F1 N2 B2 F12) (hb : ∀ t ∈ N2, t ∉ B1) (hk : ∀ t ∈ N2, t ∉ killsH N1) : ∃ F2, HStep F N2 B2 F2 ∧ HStep F2 N1 B1 F12 := by
  obtain ⟨A1, a1, M1, b1, C1, rfl, rfl, rfl, la1, lb1, e1⟩ := h1
  obtain ⟨A2, a2, M2, b2, C2, rfl, hF, rfl, la2, lb2, e2⟩ := h2
  unfold killsH at hk
  rw [mid_of] at hk
  have hZ : (A1 ++ [a1]) ++ ((deadRow M1 ++ B1) ++ (b1 :: C1)) = A2 ++ ((a2 :: (M2 ++ [b2])) ++ C2) := by
    rw [← hF]
    simp
  have hdead : ∀ t, t.alive = true → t ∈ a2 :: (M2 ++ [b2]) → t ∉ deadRow M1 ++ B1 := fun t ha ht hm => by
    rcases List.mem_append.1 hm with hm | hm
    · obtain ⟨u, _, rfl⟩ := List.mem_map.1 hm
      cases ha
    · exact hb t ht hm
  have hz : ∃ z ∈ deadRow M1 ++ B1, z ∉ a2 :: (M2 ++ [b2]) := by
    rcases e1 with ⟨m, hm, hma⟩ | hne
    · refine ⟨deadS m, List.mem_append.2 (.inl (List.mem_map.2 ⟨m, hm, rfl⟩)), fun hin => ?_⟩
      exact hk _ hin (List.mem_map.2 ⟨m, List.mem_filter.2 ⟨hm, hma⟩, rfl⟩)
    · obtain ⟨z, hz⟩ := List.exists_mem_of_ne_nil _ hne
      exact ⟨z, List.mem_append.2 (.inr hz), fun hin => hb _ hin hz⟩
  have hc := seg_cases hZ (by simp) (fun t ht => by simp at ht; subst ht; exact hdead _ la2 (by simp)) (fun t ht => by
    have : t = b2 := by
      rw [show a2 :: (M2 ++ [b2]) = (a2 :: M2) ++ [b2] by simp, List.getLast?_concat] at ht
      simpa using ht.symm
    subst this
    exact hdead _ lb2 (by simp)) hz
  rcases hc with ⟨D, hX, rfl⟩ | ⟨D, hY, rfl⟩
  · -- the second hunk lies ahead of the first
    have hE : ∃ E, A2 ++ (a2 :: (deadRow M2 ++ (B2 ++ (b2 :: D)))) = E ++ [a1] := by
      by_cases hD : D = []
      · subst hD
        have : b2 = a1 := by
          have := congrArg List.getLast? hX
          rw [List.getLast?_concat, List.append_nil, show A2 ++ (a2 :: (M2 ++ [b2])) = (A2 ++ (a2 :: M2)) ++ [b2] by simp, List.getLast?_concat] at this
          simpa using this.symm
        subst this
        exact ⟨A2 ++ (a2 :: (deadRow M2 ++ B2)), by simp⟩
      · obtain ⟨D', d, rfl⟩ : ∃ D' d, D = D' ++ [d] := ⟨_, _, (List.dropLast_concat_getLast hD).symm⟩
        have : d = a1 := by
          have := congrArg List.getLast? hX
          rw [List.getLast?_concat, show A2 ++ ((a2 :: (M2 ++ [b2])) ++ (D' ++ [d])) = (A2 ++ ((a2 :: (M2 ++ [b2])) ++ D')) ++ [d] by simp, List.getLast?_concat] at this
          simpa using this.symm
        subst this
        exact ⟨A2 ++ (a2 :: (deadRow M2 ++ (B2 ++ (b2 :: D')))), by simp⟩
    obtain ⟨E, hE⟩ := hE
    refine ⟨A2 ++ (a2 :: (deadRow M2 ++ (B2 ++ (b2 :: (D ++ (M1 ++ (b1 :: C1))))))), ⟨A2, a2, M2, b2, D ++ (M1 ++ (b1 :: C1)), rfl, ?_, rfl, la2, lb2, e2⟩, ⟨E, a1, M1, b1, C1, rfl, ?_, ?_, la1, lb1, e1⟩⟩
    · have : A1 ++ ((a1 :: (M1 ++ [b1])) ++ C1) = (A1 ++ [a1]) ++ (M1 ++ (b1 :: C1)) := by simp
      rw [this, hX]
      simp
    · have : E ++ ((a1 :: (M1 ++ [b1])) ++ C1) = (E ++ [a1]) ++ (M1 ++ (b1 :: C1)) := by simp
      rw [this, ← hE]
      simp
    · have : E ++ (a1 :: (deadRow M1 ++ (B1 ++ (b1 :: C1)))) = (E ++ [a1]) ++ ((deadRow M1 ++ B1) ++ (b1 :: C1)) := by simp
      rw [this, ← hE]
      simp
  · -- behind it
    have hE : ∃ E, D ++ (a2 :: (deadRow M2 ++ (B2 ++ (b2 :: C2)))) = b1 :: E := by
      cases D with
      | nil =>
        have : b1 = a2 := by simpa using congrArg List.head? hY
        subst this
        exact ⟨_, rfl⟩
      | cons d D' =>
        have : b1 = d := by simpa using congrArg List.head? hY
        subst this
        exact ⟨_, rfl⟩
    obtain ⟨E, hE⟩ := hE
    refine ⟨(A1 ++ (a1 :: M1)) ++ (D ++ (a2 :: (deadRow M2 ++ (B2 ++ (b2 :: C2))))), ⟨A1 ++ (a1 :: (M1 ++ D)), a2, M2, b2, C2, rfl, ?_, by simp, la2, lb2, e2⟩, ⟨A1, a1, M1, b1, E, rfl, ?_, ?_, la1, lb1, e1⟩⟩
    · have : A1 ++ ((a1 :: (M1 ++ [b1])) ++ C1) = (A1 ++ (a1 :: M1)) ++ (b1 :: C1) := by simp
      rw [this, hY]
      simp
    · rw [hE]
      simp
    · have : A1 ++ (a1 :: (deadRow M1 ++ (B1 ++ (b1 :: E)))) = ((A1 ++ [a1]) ++ (deadRow M1 ++ B1)) ++ (b1 :: E) := by simp
      rw [this, ← hE]
      simp
end Go.Proofs.YtgdfipmdmgkidaaGreatDoor

/- Mathematics: the hunks of a change, one behind the other; a change of a file; two that do not lean on one another change places. -/
namespace Go.Proofs.YtgdfipmdmgkidaaGreatDoor
open Go.RowKit

def HSteps : List Spot → List Hk → List Spot → Prop
  | F, [], F' => F' = F
  | F, h :: Hs, F' => ∃ F1, HStep F h.N h.Br F1 ∧ HSteps F1 Hs F'
theorem hsteps_past : ∀ {Hs : List Hk} {F F1 N B F2 : List Spot}, HSteps F Hs F1 → HStep F1 N B F2 → (∀ h ∈ Hs, ∀ t ∈ N, t ∉ h.Br ∧ t ∉ killsH h.N) → ∃ F0, HStep F N B F0 ∧ HSteps F0 Hs F2
  | [], F, F1, N, B, F2, h, hk, _ => by
    cases h
    exact ⟨F2, hk, rfl⟩
  | h :: Hs, F, F1, N, B, F2, ⟨Fa, h1, h2⟩, hk, hb => by
    obtain ⟨Fb, k1, k2⟩ := hsteps_past h2 hk (fun x hx => hb x (List.mem_cons_of_mem _ hx))
    obtain ⟨F0, j1, j2⟩ := hstep_swap h1 k1 (fun t ht => (hb h List.mem_cons_self t ht).1) (fun t ht => (hb h List.mem_cons_self t ht).2)
    exact ⟨F0, j1, Fb, j2, k2⟩
theorem hsteps_swap : ∀ {Ks Hs : List Hk} {F F1 F2 : List Spot}, HSteps F Hs F1 → HSteps F1 Ks F2 → (∀ k ∈ Ks, ∀ h ∈ Hs, ∀ t ∈ k.N, t ∉ h.Br ∧ t ∉ killsH h.N) → ∃ F0, HSteps F Ks F0 ∧ HSteps F0 Hs F2
  | [], Hs, F, F1, F2, h, hk, _ => by
    cases hk
    exact ⟨F, rfl, h⟩
  | k :: Ks, Hs, F, F1, F2, h, ⟨Fa, h1, h2⟩, hb => by
    obtain ⟨F0, j1, j2⟩ := hsteps_past h h1 (fun x hx => hb k List.mem_cons_self x hx)
    obtain ⟨G, g1, g2⟩ := hsteps_swap j2 h2 (fun x hx => hb x (List.mem_cons_of_mem _ hx))
    exact ⟨G, ⟨F0, j1, g1⟩, g2⟩

/- What a hunk leaves. -/
section
variable {F N B F' : List Spot}
theorem HStep.len (h : HStep F N B F') : F'.length = F.length + B.length := by
  obtain ⟨A, a, M, b, C, rfl, rfl, rfl, _⟩ := h
  simp [deadRow]
  omega
theorem HStep.sub (h : HStep F N B F') : ∀ t ∈ N, t ∈ F := by
  obtain ⟨A, a, M, b, C, rfl, rfl, rfl, _⟩ := h
  intro t ht
  simp only [List.mem_append]
  exact .inr (.inl ht)
theorem HStep.cids (h : HStep F N B F') : (F'.map cid).Perm (F.map cid ++ B.map cid) := by
  obtain ⟨A, a, M, b, C, rfl, rfl, rfl, _⟩ := h
  simp only [List.map_append, List.map_cons, cids_dead, List.append_assoc, List.cons_append, List.nil_append]
  refine List.Perm.append_left _ (List.Perm.cons _ (List.Perm.append_left _ ?_))
  rw [← List.cons_append]
  exact List.perm_append_comm
theorem HStep.mem (h : HStep F N B F') {t : Spot} (ht : t ∈ F') : t ∈ F ∨ t ∈ B ∨ ∃ u ∈ midRow N, u ∈ F ∧ t = deadS u := by
  obtain ⟨A, a, M, b, C, rfl, rfl, rfl, _⟩ := h
  have e : midRow (a :: (M ++ [b])) = M := mid_of a b M
  rw [e]
  simp only [List.mem_append, List.mem_cons] at ht
  rcases ht with ht | rfl | ht | ht | rfl | ht
  · exact .inl (by simp [ht])
  · exact .inl (by simp)
  · obtain ⟨u, hu, rfl⟩ := List.mem_map.1 ht
    exact .inr (.inr ⟨u, hu, by simp [hu], rfl⟩)
  · exact .inr (.inl ht)
  · exact .inl (by simp)
  · exact .inl (by simp [ht])
theorem HStep.head (h : HStep F N B F') {x : Spot} (hx : ∃ Z, F = x :: Z) : ∃ Z, F' = x :: Z := by
  obtain ⟨A, a, M, b, C, rfl, rfl, rfl, _⟩ := h
  obtain ⟨Z, hZ⟩ := hx
  cases A with
  | nil =>
    have : a = x := by simpa using congrArg List.head? hZ
    subst this
    exact ⟨_, rfl⟩
  | cons y A =>
    have : y = x := by simpa using congrArg List.head? hZ
    subst this
    exact ⟨_, rfl⟩
theorem HStep.last (h : HStep F N B F') {x : Spot} (hx : ∃ Y, F = Y ++ [x]) : ∃ Y, F' = Y ++ [x] := by
  obtain ⟨A, a, M, b, C, rfl, rfl, rfl, _⟩ := h
  obtain ⟨Y, hY⟩ := hx
  by_cases hC : C = []
  · subst hC
    have : b = x := by
      have := congrArg List.getLast? hY
      rw [List.append_nil, show A ++ (a :: (M ++ [b])) = (A ++ (a :: M)) ++ [b] by simp, List.getLast?_concat, List.getLast?_concat] at this
      simpa using this
    subst this
    exact ⟨A ++ (a :: (deadRow M ++ B)), by simp⟩
  · obtain ⟨C', c, rfl⟩ : ∃ C' c, C = C' ++ [c] := ⟨_, _, (List.dropLast_concat_getLast hC).symm⟩
    have : c = x := by
      have := congrArg List.getLast? hY
      rw [show A ++ ((a :: (M ++ [b])) ++ (C' ++ [c])) = (A ++ ((a :: (M ++ [b])) ++ C')) ++ [c] by simp, List.getLast?_concat, List.getLast?_concat] at this
      simpa using this
    subst this
    exact ⟨A ++ (a :: (deadRow M ++ (B ++ (b :: C')))), by simp⟩
theorem pre_unique {α : Type} {a : α} : ∀ {A A' X X' : List α}, (A ++ a :: X).Nodup → A ++ a :: X = A' ++ a :: X' → A = A' ∧ X = X'
  | [], [], X, X', _, h => ⟨rfl, by simpa using h⟩
  | [], y :: A', X, X', hn, h => by
    simp only [List.nil_append, List.cons_append, List.cons.injEq] at h
    obtain ⟨rfl, rfl⟩ := h
    simp at hn
  | x :: A, [], X, X', hn, h => by
    simp only [List.nil_append, List.cons_append, List.cons.injEq] at h
    obtain ⟨rfl, _⟩ := h
    simp at hn
  | x :: A, y :: A', X, X', hn, h => by
    simp only [List.cons_append, List.cons.injEq] at h
    obtain ⟨rfl, h⟩ := h
    rw [List.cons_append, List.nodup_cons] at hn
    obtain ⟨rfl, rfl⟩ := pre_unique hn.2 h
    exact ⟨rfl, rfl⟩
theorem HStep.det (h : HStep F N B F') {F'' : List Spot} (k : HStep F N B F'') (hn : F.Nodup) : F'' = F' := by
  obtain ⟨A, a, M, b, C, rfl, hF, rfl, _⟩ := h
  obtain ⟨A', a', M', b', C', e, hF', rfl, _⟩ := k
  simp only [List.cons.injEq] at e
  obtain ⟨rfl, e⟩ := e
  obtain ⟨rfl, e2⟩ : M = M' ∧ [b] = [b'] := List.append_inj' e rfl
  cases e2
  subst hF
  simp only [List.cons_append] at hn hF'
  obtain ⟨rfl, e3⟩ := pre_unique hn hF'
  have : C = C' := List.append_cancel_left e3
  rw [this]
theorem HStep.apply (h : HStep F N B F') (hn : F.Nodup) : ∃ t p, N[0]? = some t ∧ idxS F t = some p ∧ p + N.length ≤ F.length ∧ 2 ≤ N.length ∧ F' = hApply F N B p := by
  obtain ⟨A, a, M, b, C, rfl, rfl, rfl, _⟩ := h
  refine ⟨a, A.length, rfl, ?_, by simp, by simp, ?_⟩
  · have ha : ∀ x ∈ A, ¬ a = x := fun x hx e => by
      subst e
      rw [List.nodup_append] at hn
      exact hn.2.2 a hx a (by simp) rfl
    unfold idxS
    rw [List.findIdx?_append]
    have : List.findIdx? (fun s => decide (a = s)) A = none := by
      rw [List.findIdx?_eq_none_iff]
      intro x hx
      simp [ha x hx]
    rw [this]
    simp [List.findIdx?_cons]
  · unfold hApply
    have e : midRow (a :: (M ++ [b])) = M := mid_of a b M
    rw [e]
    have t1 : (A ++ ((a :: (M ++ [b])) ++ C)).take (A.length + 1) = A ++ [a] := by
      rw [show A ++ ((a :: (M ++ [b])) ++ C) = (A ++ [a]) ++ (M ++ ([b] ++ C)) by simp]
      exact List.take_left' (by simp)
    have t2 : (A ++ ((a :: (M ++ [b])) ++ C)).drop (A.length + (a :: (M ++ [b])).length - 1) = b :: C := by
      rw [show A ++ ((a :: (M ++ [b])) ++ C) = (A ++ (a :: M)) ++ (b :: C) by simp]
      exact List.drop_left' (by simp)
    rw [t1, t2]
    simp
end

section
variable {i : Pid}
theorem HSteps.seq : ∀ {Hs : List Hk} {F F' : List Spot}, HSteps F Hs F' → ∃ g : Nat → List Spot, g 0 = F ∧ g Hs.length = F' ∧ ∀ (k : Nat) (h : Hk), Hs[k]? = some h → HStep (g k) h.N h.Br (g (k + 1))
  | [], F, F', h => ⟨fun _ => F, rfl, by cases h; rfl, fun k x hk => by simp at hk⟩
  | h :: Hs, F, F', ⟨F1, h1, h2⟩ => by
    obtain ⟨g, g0, g1, g2⟩ := h2.seq
    refine ⟨fun k => match k with | 0 => F | k + 1 => g k, rfl, g1, fun k x hk => ?_⟩
    cases k with
    | zero =>
      simp at hk
      subst hk
      show HStep F h.N h.Br (g 0)
      rw [g0]
      exact h1
    | succ k => exact g2 k x (by simpa using hk)
theorem HSteps.of_seq : ∀ {Hs : List Hk} (g : Nat → List Spot), (∀ (k : Nat) (h : Hk), Hs[k]? = some h → HStep (g k) h.N h.Br (g (k + 1))) → HSteps (g 0) Hs (g Hs.length)
  | [], _, _ => rfl
  | h :: Hs, g, hg => ⟨g 1, hg 0 h rfl, HSteps.of_seq (fun k => g (k + 1)) (fun k x hk => hg (k + 1) x (by simpa using hk))⟩
theorem HSteps.len : ∀ {Hs : List Hk} {F F' : List Spot}, HSteps F Hs F' → F'.length = F.length + (Hs.flatMap (·.Br)).length
  | [], F, F', h => by cases h; simp
  | h :: Hs, F, F', ⟨F1, h1, h2⟩ => by
    have := h1.len
    have := h2.len
    simp only [List.flatMap_cons, List.length_append]
    omega
theorem HSteps.cids : ∀ {Hs : List Hk} {F F' : List Spot}, HSteps F Hs F' → (F'.map cid).Perm (F.map cid ++ (Hs.flatMap (·.Br)).map cid)
  | [], F, F', h => by cases h; simp
  | h :: Hs, F, F', ⟨F1, h1, h2⟩ => by
    refine h2.cids.trans ?_
    simp only [List.flatMap_cons, List.map_append]
    rw [← List.append_assoc]
    exact List.Perm.append_right _ h1.cids
theorem HSteps.mem : ∀ {Hs : List Hk} {F F' : List Spot}, HSteps F Hs F' → ∀ {t : Spot}, t ∈ F' → ∃ u, (u ∈ F ∨ u ∈ Hs.flatMap (·.Br)) ∧ (t = u ∨ t = deadS u)
  | [], F, F', h, t, ht => by cases h; exact ⟨t, .inl ht, .inl rfl⟩
  | h :: Hs, F, F', ⟨F1, h1, h2⟩, t, ht => by
    obtain ⟨u, hu, e⟩ := h2.mem ht
    have key : ∀ v, v ∈ F1 → ∃ x, (x ∈ F ∨ x ∈ (h :: Hs).flatMap (·.Br)) ∧ (v = x ∨ v = deadS x) := fun v hv => by
      rcases h1.mem hv with hv | hv | ⟨x, _, hx, rfl⟩
      · exact ⟨v, .inl hv, .inl rfl⟩
      · exact ⟨v, .inr (by simp [hv]), .inl rfl⟩
      · exact ⟨x, .inl hx, .inr rfl⟩
    rcases hu with hu | hu
    · obtain ⟨x, hx, e2⟩ := key u hu
      refine ⟨x, hx, ?_⟩
      rcases e with rfl | rfl <;> rcases e2 with rfl | rfl
      · exact .inl rfl
      · exact .inr rfl
      · exact .inr rfl
      · exact .inr rfl
    · exact ⟨u, .inr (by rw [List.flatMap_cons]; exact List.mem_append.2 (.inr hu)), e⟩
theorem HSteps.ends : ∀ {Hs : List Hk} {F F' : List Spot}, HSteps F Hs F' → (∃ Z, F = begS :: Z) → (∃ Y, F = Y ++ [endS]) → (∃ Z, F' = begS :: Z) ∧ ∃ Y, F' = Y ++ [endS]
  | [], F, F', h, a, b => by cases h; exact ⟨a, b⟩
  | h :: Hs, F, F', ⟨F1, h1, h2⟩, a, b => h2.ends (h1.head a) (h1.last b)
theorem HSteps.framed {Hs : List Hk} {S F' : List Spot} (h : HSteps (framed S) Hs F') : F' = Go.Proofs.YtgdfipmdmgkidaaGreatDoor.framed (midRow F') := by
  obtain ⟨a, b⟩ := h.ends ⟨_, rfl⟩ ⟨begS :: S, rfl⟩
  exact framed_mid a b
theorem HSteps.det : ∀ {Hs : List Hk} {F F' F'' : List Spot}, HSteps F Hs F' → HSteps F Hs F'' → ((F.map cid) ++ (Hs.flatMap (·.Br)).map cid).Nodup → F'' = F'
  | [], F, F', F'', h, k, _ => by cases h; cases k; rfl
  | h :: Hs, F, F', F'', ⟨F1, h1, h2⟩, ⟨F2, k1, k2⟩, hn => by
    have hF : F.Nodup := nodup_of_map (List.nodup_append.1 hn).1
    have e := h1.det k1 hF
    subst e
    refine h2.det k2 ?_
    simp only [List.flatMap_cons, List.map_append] at hn
    rw [← List.append_assoc] at hn
    exact (List.Perm.append_right _ h1.cids).nodup_iff.2 hn
end
end Go.Proofs.YtgdfipmdmgkidaaGreatDoor
