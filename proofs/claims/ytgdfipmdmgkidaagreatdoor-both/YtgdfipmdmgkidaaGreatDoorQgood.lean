/- Mathematics: patches that were recorded one behind the other: what each record keeps. -/
import Derived.Test.YtgdfipmdmgkidaaGreatDoorQneed
import Derived.Laws.BytesArg
namespace Go.Proofs.YtgdfipmdmgkidaaGreatDoor
open Go.RowKit
structure GoodT (Ps : List PM) (s : ByteArray → PL) : Prop where
  cells : ∀ x, CellsOK (Ps.map (·.id)) (s x)
  named : ∀ P ∈ Ps, ∀ c ∈ P.Cs, NamedOK (Ps.map (·.id)) c.2 (s c.1)
  noz : zid ∉ Ps.map (·.id)
  small : ∀ P ∈ Ps, P.Cs.length ≤ 1000 ∧ ∀ c ∈ P.Cs, ChSmall c.2
  len : ∀ x, (s x).S.length ≤ 20 * Ps.length
  lines : ∀ x, (rowLines (s x).S).length ≤ 20
  lsz : ∀ x, ∀ l ∈ rowLines (s x).S, l.size ≤ 1000
theorem GoodT.nil : GoodT [] (fun _ => pl0) :=
  ⟨fun _ => ⟨by simp [pl0], by simp [pl0], (fun h => by cases h), .inr rfl, by simp [pl0]⟩, by simp, by simp, by simp, fun _ => by simp [pl0], fun _ => by simp [pl0, rowLines, living, livTo], fun _ => by simp [pl0, rowLines, living, livTo]⟩
theorem made_up {p : PL} {i : Pid} {n n' : Int} {there : Bool} {text : ByteArray} {c : ChM} (h : ChMade p i n there text c n') : n ≤ n' := by
  cases c with
  | add i' l rv S => obtain ⟨_, _, _, _, rfl⟩ := h; omega
  | remove i' rv S => obtain ⟨_, _, _, _, rfl⟩ := h; omega
  | alter i' hv Hs =>
    obtain ⟨_, _, _, Q, _, _, rfl⟩ := h
    exact numTo_le _ _ _
theorem made_chsmall {ids : List Pid} {p : PL} (h : CellsOK ids p) {i : Pid} (hi : i ∉ ids) (hz : zid ∉ ids) (hiz : i ≠ zid) {n n' : Int} {there : Bool} {text : ByteArray} {c : ChM} (hc : ChMade p i n there text c n') (hS : p.S.length ≤ 900) (hR : (rowLines p.S).length ≤ 90) (hN : (cutAll text).length ≤ 20) : ChSmall c := by
  cases c with
  | add i' l rv S =>
    obtain ⟨_, _, _, rfl, _⟩ := hc
    show (bring i n (cutAll text)).length ≤ 100000
    rw [bring_len]
    omega
  | remove i' rv S =>
    obtain ⟨_, _, _, rfl, _⟩ := hc
    show p.S.length ≤ 100000
    omega
  | alter i' hv Hs =>
    obtain ⟨h1, h2, rfl, Q, hg, hm, _⟩ := hc
    have hF := nodup_of_map (cids_framed h hz)
    have hid := fresh_framed h hi hiz
    obtain ⟨s1, _, _⟩ := made_steps2 hm hg hF hid (by omega) (by omega) (by omega)
    have hQ := hg.len (Nat.zero_le _) (Nat.zero_le _)
    have hHs : Hs.length = Q.length := hm.1
    refine ⟨by omega, fun x hx => ?_⟩
    obtain ⟨k, hk⟩ := List.mem_iff_getElem?.1 hx
    obtain ⟨_, _, _, _, _, h2', _⟩ := s1.step k x hk
    obtain ⟨q, _, e, _⟩ := hm.2 k x hk
    refine ⟨?_, h2'⟩
    rw [e]
    have : (namedOf (framed p.S) q).length ≤ (framed p.S).length := by unfold namedOf; simp; omega
    have : (framed p.S).length = p.S.length + 2 := by simp [framed]
    omega
structure FlGood (s : ByteArray → PL) (g : Fl) : Prop where
  lines : (cutAll g.text).length ≤ 20
  there : (s g.name).alive = false → g.there = true
  lsz : ∀ l ∈ cutAll g.text, l.size ≤ 1000
theorem MadeAll.pos {s : ByteArray → PL} {i : Pid} {Fs : List Fl} {Cs : List (ByteArray × ChM)} {m : Nat → Int} (h : MadeAll s i Fs Cs m) : ∀ k, k ≤ Cs.length → 0 ≤ m k
  | 0, _ => by rw [h.zero]; exact Int.le_refl _
  | k + 1, hk => by
    have ih := MadeAll.pos h k (by omega)
    have hkF : k < Fs.length := by rw [← h.len]; omega
    obtain ⟨_, hc⟩ := h.at_ k _ _ (List.getElem?_eq_getElem hkF) (List.getElem?_eq_getElem (by omega))
    exact Int.le_trans ih (made_up hc)
noncomputable def stAt (s : ByteArray → PL) (Cs : List (ByteArray × ChM)) (P' : Nat → PL) (k : Nat) (x : ByteArray) : PL := match (Cs.take k).findIdx? (fun c => decide (c.1 = x)) with
  | some j => P' j
  | none => s x
theorem stAt_zero (s : ByteArray → PL) (Cs : List (ByteArray × ChM)) (P' : Nat → PL) : stAt s Cs P' 0 = s := by
  funext x
  simp [stAt]
theorem names_inj {Cs : List (ByteArray × ChM)} (hnd : (Cs.map (·.1)).Nodup) {j k : Nat} {c d : ByteArray × ChM} (hj : Cs[j]? = some c) (hk : Cs[k]? = some d) (e : c.1 = d.1) : j = k := by
  obtain ⟨h1, h1'⟩ := List.getElem?_eq_some_iff.1 hj
  obtain ⟨h2, h2'⟩ := List.getElem?_eq_some_iff.1 hk
  rw [List.Nodup, List.pairwise_map] at hnd
  have hp := List.pairwise_iff_getElem.1 hnd
  rcases Nat.lt_trichotomy j k with h | h | h
  · exact absurd (by rw [h1', h2']; exact e) (hp j k h1 h2 h)
  · exact h
  · exact absurd (by rw [h1', h2']; exact e.symm) (hp k j h2 h1 h)
theorem stAt_hit {s : ByteArray → PL} {Cs : List (ByteArray × ChM)} {P' : Nat → PL} (hnd : (Cs.map (·.1)).Nodup) {j k : Nat} {c : ByteArray × ChM} (hj : Cs[j]? = some c) (hjk : j < k) : stAt s Cs P' k c.1 = P' j := by
  have : (Cs.take k).findIdx? (fun d => decide (d.1 = c.1)) = some j := by
    have hl := (List.getElem?_eq_some_iff.1 hj).1
    have hl2 : j < (Cs.take k).length := by rw [List.length_take]; omega
    have e : (Cs.take k)[j] = c := by
      rw [List.getElem_take]
      exact (List.getElem?_eq_some_iff.1 hj).2
    refine find_hit hl2 (by simp [e]) (fun t ht htj => ?_)
    rw [List.getElem_take]
    simp only [decide_eq_false_iff_not]
    intro e2
    have ht2 : t < Cs.length := by rw [List.length_take] at ht; omega
    have := names_inj hnd (List.getElem?_eq_getElem ht2) hj e2
    omega
  simp only [stAt, this]
theorem stAt_miss {s : ByteArray → PL} {Cs : List (ByteArray × ChM)} {P' : Nat → PL} {k : Nat} {x : ByteArray} (h : ∀ (j : Nat) (c : ByteArray × ChM), j < k → Cs[j]? = some c → c.1 ≠ x) : stAt s Cs P' k x = s x := by
  have : (Cs.take k).findIdx? (fun d => decide (d.1 = x)) = none := by
    refine find_miss (fun t ht => ?_)
    rw [List.getElem_take]
    have h2 : t < k ∧ t < Cs.length := by rw [List.length_take] at ht; omega
    simpa using h t _ h2.1 (List.getElem?_eq_getElem h2.2)
  simp only [stAt, this]
section
variable {Ps : List PM} {s : ByteArray → PL} {i : Pid} {Fs : List Fl} {Cs : List (ByteArray × ChM)} {m : Nat → Int}
theorem good_next (h : GoodT Ps s) (hl : Ps.length ≤ 40) (hi : i ∉ Ps.map (·.id)) (hiz : i ≠ zid) (hF : ∀ g ∈ Fs, FlGood s g) (hM : MadeAll s i Fs Cs m) :
    ∃ P' : Nat → PL, ∀ (k : Nat) (g : Fl) (c : ByteArray × ChM), Fs[k]? = some g → Cs[k]? = some c → ApplyP c.2 (s c.1) (P' k) ∧ CellsOK (Ps.map (·.id) ++ [i]) (P' k) ∧ (∀ x ∈ liveC (P' k), x ∈ liveC (s c.1) ∨ x.1 = i) ∧ (P' k).alive = g.there ∧ (g.there = true → rowLines (P' k).S = cutAll g.text) ∧ (P' k).S.length ≤ (s c.1).S.length + (cutAll g.text).length := by
  have : ∀ k : Nat, ∃ p' : PL, ∀ (g : Fl) (c : ByteArray × ChM), Fs[k]? = some g → Cs[k]? = some c → ApplyP c.2 (s c.1) p' ∧ CellsOK (Ps.map (·.id) ++ [i]) p' ∧ (∀ x ∈ liveC p', x ∈ liveC (s c.1) ∨ x.1 = i) ∧ p'.alive = g.there ∧ (g.there = true → rowLines p'.S = cutAll g.text) ∧ p'.S.length ≤ (s c.1).S.length + (cutAll g.text).length := fun k => by
    by_cases hk : k < Cs.length
    · have hkF : k < Fs.length := by rw [← hM.len]; exact hk
      obtain ⟨e1, hc⟩ := hM.at_ k _ _ (List.getElem?_eq_getElem hkF) (List.getElem?_eq_getElem hk)
      have hg := hF _ (List.getElem_mem hkF)
      have hlen := h.len Fs[k].name
      have hlin := h.lines Fs[k].name
      obtain ⟨p', h'⟩ := made_next (h.cells Fs[k].name) hi h.noz hiz (hM.pos k (by omega)) hc hg.there (by omega) (by omega) hg.lines
      refine ⟨p', fun g c hg' hc' => ?_⟩
      rw [List.getElem?_eq_getElem hkF] at hg'
      rw [List.getElem?_eq_getElem hk] at hc'
      cases hg'
      cases hc'
      rw [e1]
      exact h'
    · exact ⟨pl0, fun g c _ hc' => by rw [List.getElem?_eq_none (by omega)] at hc'; cases hc'⟩
  exact ⟨fun k => (this k).choose, fun k => (this k).choose_spec⟩
theorem good_record (h : GoodT Ps s) (hl : Ps.length < 40) (hi : i ∉ Ps.map (·.id)) (hiz : i ≠ zid) (hF : ∀ g ∈ Fs, FlGood s g) (hM : MadeAll s i Fs Cs m) (hnd : (Cs.map (·.1)).Nodup) (hFs : Fs.length ≤ 50) (cv : Value) :
    ∃ P' : Nat → PL, (∀ (k : Nat) (c : ByteArray × ChM), Cs[k]? = some c → ApplyP c.2 (stAt s Cs P' k c.1) (stAt s Cs P' (k + 1) c.1)) ∧ GoodT (Ps ++ [⟨i, cv, Cs⟩]) (stAt s Cs P' Cs.length) ∧
      (∀ (k : Nat) (g : Fl), Fs[k]? = some g → (stAt s Cs P' Cs.length g.name).alive = g.there ∧ (g.there = true → rowLines (stAt s Cs P' Cs.length g.name).S = cutAll g.text)) ∧ (∀ x, (∀ g ∈ Fs, g.name ≠ x) → stAt s Cs P' Cs.length x = s x) ∧
      ∀ Q ∈ Ps ++ [⟨i, cv, Cs⟩], needsP Q ⟨i, cv, Cs⟩ = false := by
  obtain ⟨P', hP'⟩ := good_next h (by omega) hi hiz hF hM
  have fl : ∀ (k : Nat) (c : ByteArray × ChM), Cs[k]? = some c → ∃ g, Fs[k]? = some g ∧ c.1 = g.name ∧ ChMade (s g.name) i (m k) g.there g.text c.2 (m (k + 1)) := fun k c hk => by
    have hkF : k < Fs.length := by rw [← hM.len]; exact (List.getElem?_eq_some_iff.1 hk).1
    exact ⟨_, List.getElem?_eq_getElem hkF, hM.at_ k _ c (List.getElem?_eq_getElem hkF) hk⟩
  have before : ∀ (k : Nat) (c : ByteArray × ChM), Cs[k]? = some c → stAt s Cs P' k c.1 = s c.1 := fun k c hk => stAt_miss fun j d hj hd e => by
    have := names_inj hnd hd hk e
    omega
  have final : ∀ (k : Nat) (c : ByteArray × ChM), Cs[k]? = some c → stAt s Cs P' Cs.length c.1 = P' k := fun k c hk => stAt_hit hnd hk (List.getElem?_eq_some_iff.1 hk).1
  -- of a name: it is changed, or it is as it was
  have cases_ : ∀ x, (∃ (k : Nat) (c : ByteArray × ChM) (g : Fl), Cs[k]? = some c ∧ Fs[k]? = some g ∧ c.1 = x ∧ stAt s Cs P' Cs.length x = P' k) ∨ stAt s Cs P' Cs.length x = s x := fun x => by
    by_cases hx : ∃ (k : Nat) (c : ByteArray × ChM), Cs[k]? = some c ∧ c.1 = x
    · obtain ⟨k, c, hk, rfl⟩ := hx
      obtain ⟨g, hg, _⟩ := fl k c hk
      exact .inl ⟨k, c, g, hk, hg, rfl, final k c hk⟩
    · exact .inr (stAt_miss fun j c _ hc e => hx ⟨j, c, hc, e⟩)
  have ids : (Ps ++ [(⟨i, cv, Cs⟩ : PM)]).map (·.id) = Ps.map (·.id) ++ [i] := by simp
  have live : ∀ x y, y ∈ liveC (stAt s Cs P' Cs.length x) → y ∈ liveC (s x) ∨ y.1 = i := fun x y hy => by
    rcases cases_ x with ⟨k, c, g, hk, hg, rfl, e⟩ | e
    · rw [e] at hy
      exact (hP' k g c hg hk).2.2.1 y hy
    · rw [e] at hy
      exact .inl hy
  have wid : ∀ c x, NamedOK (Ps.map (·.id)) c (s x) → NamedOK (Ps.map (·.id) ++ [i]) c (stAt s Cs P' Cs.length x) := fun c x hN t ht => by
    obtain ⟨h1, h2⟩ := hN t ht
    refine ⟨h1.elim (fun a => .inl (List.mem_append_left _ a)) .inr, fun hd hlv => ?_⟩
    rcases live x _ hlv with a | a
    · exact h2 hd a
    · have a' : sid t = i := a
      rcases h1 with b | b
      · exact hi (a' ▸ b)
      · exact hiz (a'.symm.trans b)
  have newN : ∀ c ∈ Cs, NamedOK (Ps.map (·.id)) c.2 (s c.1) := fun c hc => by
    obtain ⟨k, hk⟩ := List.mem_iff_getElem?.1 hc
    obtain ⟨g, _, e, hcm⟩ := fl k c hk
    rw [e]
    exact made_names (h.cells g.name) hcm
  refine ⟨P', fun k c hk => ?_, ⟨fun x => ?_, fun P hP c hc => ?_, ?_, fun P hP => ?_, fun x => ?_, fun x => ?_, fun x => ?_⟩, fun k g hg => ?_, fun x hx => ?_, fun Q hQ => ?_⟩
  · obtain ⟨g, hg, _⟩ := fl k c hk
    rw [before k c hk, stAt_hit hnd hk (Nat.lt_succ_self k)]
    exact (hP' k g c hg hk).1
  · rw [ids]
    rcases cases_ x with ⟨k, c, g, hk, hg, rfl, e⟩ | e
    · rw [e]
      exact (hP' k g c hg hk).2.1
    · rw [e]
      have hc := h.cells x
      exact ⟨hc.nd, fun t ht => ⟨List.mem_append_left _ (hc.own t ht).1, (hc.own t ht).2⟩, fun ha => List.mem_append_left _ (hc.byA ha), hc.byZ.elim (fun a => .inl (List.mem_append_left _ a)) .inr, hc.dead⟩
  · rw [ids]
    rcases List.mem_append.1 hP with hP | hP
    · exact wid _ _ (h.named P hP c hc)
    · rw [List.mem_singleton.1 hP] at hc
      exact wid _ _ (newN c hc)
  · rw [ids, List.mem_append, List.mem_singleton]
    rintro (a | a)
    · exact h.noz a
    · exact hiz a.symm
  · rcases List.mem_append.1 hP with hP | hP
    · exact h.small P hP
    · rw [List.mem_singleton.1 hP]
      refine ⟨by show Cs.length ≤ 1000; rw [hM.len]; omega, fun c hc => ?_⟩
      obtain ⟨k, hk⟩ := List.mem_iff_getElem?.1 hc
      obtain ⟨g, hg, e, hcm⟩ := fl k c hk
      have hlen := h.len g.name
      have hlin := h.lines g.name
      exact made_chsmall (h.cells g.name) hi h.noz hiz hcm (by omega) (by omega) (hF g (List.mem_of_getElem? hg)).lines
  · rw [List.length_append, List.length_singleton]
    rcases cases_ x with ⟨k, c, g, hk, hg, rfl, e⟩ | e
    · rw [e]
      have h1 := (hP' k g c hg hk).2.2.2.2.2
      have h2 := h.len c.1
      have h3 := (hF g (List.mem_of_getElem? hg)).lines
      omega
    · rw [e]
      have := h.len x
      omega
  · rcases cases_ x with ⟨k, c, g, hk, hg, rfl, e⟩ | e
    · rw [e]
      obtain ⟨_, hco, _, hal, hli, _⟩ := hP' k g c hg hk
      cases hth : g.there with
      | true =>
        rw [hli hth]
        exact (hF g (List.mem_of_getElem? hg)).lines
      | false =>
        have hd := hco.dead (by rw [hal, hth])
        have : rowLines (P' k).S = [] := by
          rw [rowLines_eq]
          unfold aliveOf
          rw [List.filter_eq_nil_iff.2 (fun t ht => by rw [hd t ht]; simp)]
          rfl
        rw [this]
        simp
    · rw [e]
      exact h.lines x
  · rcases cases_ x with ⟨k, c, g, hk, hg, rfl, e⟩ | e
    · rw [e]
      obtain ⟨_, hco, _, hal, hli, _⟩ := hP' k g c hg hk
      cases hth : g.there with
      | true =>
        rw [hli hth]
        exact (hF g (List.mem_of_getElem? hg)).lsz
      | false =>
        have hd := hco.dead (by rw [hal, hth])
        have : rowLines (P' k).S = [] := by
          rw [rowLines_eq]
          unfold aliveOf
          rw [List.filter_eq_nil_iff.2 (fun t ht => by rw [hd t ht]; simp)]
          rfl
        rw [this]
        simp
    · rw [e]
      exact h.lsz x
  · have hkC : k < Cs.length := by rw [hM.len]; exact (List.getElem?_eq_some_iff.1 hg).1
    obtain ⟨e1, _⟩ := hM.at_ k g _ hg (List.getElem?_eq_getElem hkC)
    have e2 := final k _ (List.getElem?_eq_getElem hkC)
    rw [e1] at e2
    rw [e2]
    have := hP' k g _ hg (List.getElem?_eq_getElem hkC)
    exact ⟨this.2.2.2.1, this.2.2.2.2.1⟩
  · refine stAt_miss fun j c _ hc e => ?_
    obtain ⟨g, hg, e2, _⟩ := fl j c hc
    exact hx g (List.mem_of_getElem? hg) (e2.symm.trans e)
  · cases hn : needsP Q ⟨i, cv, Cs⟩ with
    | false => rfl
    | true =>
      exfalso
      obtain ⟨c, hc, d, hd, he, t, ht, hlean⟩ := (needs_iff Q _).1 hn
      simp only at hd hlean
      have hcN : NamedOK (Ps.map (·.id)) c.2 (s c.1) := by
        rcases List.mem_append.1 hQ with hQ | hQ
        · exact h.named Q hQ c hc
        · rw [List.mem_singleton.1 hQ] at hc
          exact newN c hc
      obtain ⟨h1, h2⟩ := hcN t ht
      rcases hlean with hlean | hlean
      · rcases h1 with b | b
        · exact hi (hlean ▸ b)
        · exact hiz (hlean.symm.trans b)
      · obtain ⟨k, hk⟩ := List.mem_iff_getElem?.1 hd
        obtain ⟨g, _, e, hcm⟩ := fl k d hk
        obtain ⟨hdead, hlv⟩ := made_kills (h.cells g.name) hcm t hlean
        rw [← e, ← he] at hlv
        exact h2 hdead hlv
end
end Go.Proofs.YtgdfipmdmgkidaaGreatDoor

/- Where a patch stands; may it leave. -/
set_option maxRecDepth 100000
namespace Go.Proofs.YtgdfipmdmgkidaaGreatDoor
open Go.RowKit
theorem place188_any (P : PM) (i : Pid) (ib : Nat) (w : World) (hcv : ∃ a n c, P.cv = .slice a n c) (hi : w.heap[ib]? = some (.cells #[.int .u8 i.a, .int .u8 i.b, .int .u8 i.c, .int .u8 i.d] 113 (0, 0))) :
    Calls Tryz.prog 188 #[pmV P, .pointer (some ⟨ib, 0, none⟩)] w fun e w' => e = .returned (.bool (decide (P.id = i))) ∧ Below w.heap.size w w' := by
  obtain ⟨ca, cn, cc, hcv⟩ := hcv
  have hib := (Array.getElem?_eq_some_iff.1 hi).1
  obtain ⟨w1, hw1⟩ : ∃ w1, w1 = w.alloc (.cells #[.int .u8 P.id.a, .int .u8 P.id.b, .int .u8 P.id.c, .int .u8 P.id.d, .slice ca cn cc] 149) := ⟨_, rfl⟩
  have hb1 : Below w.heap.size w w1 := by rw [hw1]; exact (Below.refl _ _).alloc (Nat.le_refl _) _
  have hk1 := (MapKept.heap_alloc w (.cells #[.int .u8 P.id.a, .int .u8 P.id.b, .int .u8 P.id.c, .int .u8 P.id.d, .slice ca cn cc] 149)).1
  rw [← hw1] at hk1
  obtain ⟨p0, p1, p2, p3, _⟩ := cells5_of hk1
  obtain ⟨i0, i1, i2, i3⟩ := cells4_at ((hb1.block ib hib).trans hi)
  have hq := run_eql_id P.id i
  clear hk1 hi
  unfold pmV
  rw [hcv]
  subst hw1
  go_enter Tryz.func188, Tryz.ntmps188
  go_wp2
  go_ret
  exact ⟨rfl, hb1⟩
theorem PV.cv {w : World} {pv : Value} {Ps : List PM} (h : PV w pv Ps) {P : PM} (hP : P ∈ Ps) : CV w P.cv P.Cs := by
  obtain ⟨_, _, _, hc⟩ := h
  obtain ⟨k, hk⟩ := List.mem_iff_getElem?.1 hP
  obtain ⟨_, _, _, _, _, _, _, _, _, h⟩ := hc k P hk
  exact h
theorem CV.cvS {w : World} {v : Value} {Cs : List (ByteArray × ChM)} (h : CV w v Cs) : ∃ a n c, v = .slice a n c := by
  obtain ⟨a, c, rfl, _⟩ := h
  exact ⟨a, _, c, rfl⟩
theorem place122_any (Ps : List PM) (pv : Value) (i : Pid) (rg ro : Nat) (w : World) (hp : PV w pv Ps) (hl : Ps.length ≤ 10000) (hr : w.cell? ⟨rg, ro, none⟩ = some pv) (hrg : rg < w.heap.size) :
    Calls Tryz.prog 122 #[.pointer (some ⟨rg, ro, none⟩), .agg #[.int .u8 i.a, .int .u8 i.b, .int .u8 i.c, .int .u8 i.d]] w fun e w' => e = .returned (.int .i64 (idxInt (Ps.findIdx? fun P => decide (P.id = i)))) ∧ Below w.heap.size w w' := by
  obtain ⟨w1, hw1⟩ : ∃ w1, w1 = w.alloc (.cells #[.int .u8 i.a, .int .u8 i.b, .int .u8 i.c, .int .u8 i.d] 113) := ⟨_, rfl⟩
  have hb1 : Below w.heap.size w w1 := by rw [hw1]; exact (Below.refl _ _).alloc (Nat.le_refl _) _
  have hk1 := (MapKept.heap_alloc w (.cells #[.int .u8 i.a, .int .u8 i.b, .int .u8 i.c, .int .u8 i.d] 113)).1
  rw [← hw1] at hk1
  have hs1 : w.heap.size < w1.heap.size := by rw [hw1]; simp
  have r1 : w1.cell? ⟨rg, ro, none⟩ = some pv := (hb1.cell (p := ⟨rg, ro, none⟩) hrg).trans hr
  have HC : Hid (Calls Tryz.prog 187 #[pv, .func (.func 188) #[] #[.pointer (some ⟨w.heap.size, 0, none⟩)]] w1 fun e w' => e = .returned (.int .i64 (idxInt (Ps.findIdx? fun P => decide (P.id = i)))) ∧ Below w1.heap.size w1 w') := by
    refine idxf187_any Ps (fun P => decide (P.id = i)) 188 _ (fun _ _ => by kernel_rfl) pv w1 (hp.below hb1 (Nat.le_refl _)) (by omega) (fun P hP u hu => ?_)
    exact place188_any P i w.heap.size u (hp.cv hP).cvS ((hu.block _ hs1).trans hk1)
  obtain ⟨pa, pc, rfl, _⟩ := hp
  clear hk1 hr
  subst hw1
  go_enter Tryz.func122, Tryz.ntmps122
  go_wp2_with fail
  refine HC.out.mono ?_
  rintro e w' ⟨rfl, hb⟩
  clear HC r1
  go_wp2
  go_ret
  exact ⟨rfl, hb1.trans (hb.mono hb1.size)⟩
def idText (i : Pid) : ByteArray := strOfNums [i.a, i.b, i.c, i.d]
theorem string115_any (i : Pid) (w : World) :
    Calls Tryz.prog 115 #[.agg #[.int .u8 i.a, .int .u8 i.b, .int .u8 i.c, .int .u8 i.d]] w fun e w' => e = .returned (.string (idText i)) ∧ Below w.heap.size w w' := by
  obtain ⟨w1, hw1⟩ : ∃ w1, w1 = w.alloc (.cells #[.int .u8 i.a, .int .u8 i.b, .int .u8 i.c, .int .u8 i.d] 113) := ⟨_, rfl⟩
  have hb1 : Below w.heap.size w w1 := by rw [hw1]; exact (Below.refl _ _).alloc (Nat.le_refl _) _
  have hk1 := (MapKept.heap_alloc w (.cells #[.int .u8 i.a, .int .u8 i.b, .int .u8 i.c, .int .u8 i.d] 113)).1
  rw [← hw1] at hk1
  obtain ⟨i0, i1, i2, i3⟩ := cells4_at hk1
  have hcv : (convert 156 9 (.slice (some ⟨w.heap.size, 0, none⟩) 4 4)).run Tryz.prog w1 = .ok (.string (idText i)) w1 := run_convert_bytes_arg w1 156 5 Tryz.underlying156 Tryz.underlying5 w.heap.size 0 4 4 [i.a, i.b, i.c, i.d] rfl (fun j hj => by
    match j, hj with
    | 0, _ => exact i0
    | 1, _ => exact i1
    | 2, _ => exact i2
    | 3, _ => exact i3) 9 Tryz.underlying9
  clear hk1
  subst hw1
  go_enter Tryz.func115, Tryz.ntmps115
  go_wp2
  go_ret
  exact ⟨rfl, hb1⟩
def leaveR (Ps : List PM) (i : Pid) : ByteArray × Int := match Ps.find? fun P => decide (P.id = i) with
  | none => (⟨#[]⟩, 7)
  | some P => match Ps.find? fun Q => needsP Q P with
    | none => (⟨#[]⟩, 0)
    | some Q => (idText Q.id, 11)
end Go.Proofs.YtgdfipmdmgkidaaGreatDoor

/- A patch leaves: slices.DeleteFunc on the list of patches, drop, unrecord. -/
namespace Go.Proofs.YtgdfipmdmgkidaaGreatDoor
open Go.RowKit
theorem pm_len (S : List PM) : (pmCells S).length = S.length * 5 := by
  induction S with
  | nil => rfl
  | cons x S ih => simp only [pmCells, List.flatMap_cons, List.length_append, List.length_cons, List.length_nil] at *; rw [ih]; omega
theorem pm_app (S T : List PM) : pmCells (S ++ T) = pmCells S ++ pmCells T := List.flatMap_append
theorem pm_take (L : List PM) (i : Nat) (hi : i ≤ L.length) : (pmCells L).take (i * 5) = pmCells (L.take i) := by
  conv => lhs; rw [← List.take_append_drop i L, pm_app]
  rw [List.take_append_of_le_length (by rw [pm_len, List.length_take]; omega), List.take_of_length_le (by rw [pm_len, List.length_take]; omega)]
theorem pm_set5 (L : List PM) (i : Nat) (s : PM) (hi : i < L.length) : pmCells (L.set i s) = (((((pmCells L).set (i * 5) (.int .u8 s.id.a)).set (i * 5 + 1) (.int .u8 s.id.b)).set (i * 5 + 2) (.int .u8 s.id.c)).set (i * 5 + 3) (.int .u8 s.id.d)).set (i * 5 + 4) s.cv := by
  induction L generalizing i with
  | nil => simp at hi
  | cons x L ih =>
    cases i with
    | zero => simp [pmCells]
    | succ i =>
      have := ih i (by simpa using hi)
      simp only [List.set_cons_succ]
      obtain ⟨X, hX⟩ : ∃ X : List Value, X = [.int .u8 x.id.a, .int .u8 x.id.b, .int .u8 x.id.c, .int .u8 x.id.d, x.cv] := ⟨_, rfl⟩
      have hXl : X.length = 5 := by rw [hX]; rfl
      have e : ∀ (u : Value) (T : List Value) (j : Nat), (X ++ T).set ((i + 1) * 5 + j) u = X ++ T.set (i * 5 + j) u := fun u T j => by
        rw [List.set_append_right _ _ (by omega)]
        congr 2
        omega
      have e0 : ∀ (u : Value) (T : List Value), (X ++ T).set ((i + 1) * 5) u = X ++ T.set (i * 5) u := fun u T => e u T 0
      have c1 : pmCells (x :: L.set i s) = X ++ pmCells (L.set i s) := by rw [hX]; rfl
      have c2 : pmCells (x :: L) = X ++ pmCells L := by rw [hX]; rfl
      rw [c1, c2, this, e0, e, e, e, e]
theorem own_set5 {w w1 w2 w3 w4 w5 : World} {base g cap : Nat} {L : List PM} (h : w.ownsRow base 149 5 (.slice (some ⟨g, 0, none⟩) L.length cap) L.length (pmCells L)) {i : Nat} (hi : i < L.length) (s : PM)
    (e1 : w1 = w.setCell ⟨g, i * 5, none⟩ (.int .u8 s.id.a)) (e2 : w2 = w1.setCell ⟨g, i * 5 + 1, none⟩ (.int .u8 s.id.b)) (e3 : w3 = w2.setCell ⟨g, i * 5 + 2, none⟩ (.int .u8 s.id.c)) (e4 : w4 = w3.setCell ⟨g, i * 5 + 3, none⟩ (.int .u8 s.id.d)) (e5 : w5 = w4.setCell ⟨g, i * 5 + 4, none⟩ s.cv) :
    w5.ownsRow base 149 5 (.slice (some ⟨g, 0, none⟩) L.length cap) L.length (pmCells (L.set i s)) ∧ w.grownBy w5 (some g) := by
  obtain ⟨h1, k1⟩ := h.stored (i * 5) (.int .u8 s.id.a)
  rw [← e1] at h1 k1
  obtain ⟨h2, k2⟩ := h1.stored (i * 5 + 1) (.int .u8 s.id.b)
  rw [← e2] at h2 k2
  obtain ⟨h3, k3⟩ := h2.stored (i * 5 + 2) (.int .u8 s.id.c)
  rw [← e3] at h3 k3
  obtain ⟨h4, k4⟩ := h3.stored (i * 5 + 3) (.int .u8 s.id.d)
  rw [← e4] at h4 k4
  obtain ⟨h5, k5⟩ := h4.stored (i * 5 + 4) s.cv
  rw [← e5] at h5 k5
  rw [pm_set5 L i s hi]
  exact ⟨h5, grown_trans k1 (grown_trans k2 (grown_trans k3 (grown_trans k4 k5)))⟩
theorem pm_at {w : World} {base g cap : Nat} {L : List PM} (h : w.ownsRow base 149 5 (.slice (some ⟨g, 0, none⟩) L.length cap) L.length (pmCells L)) {k : Nat} {s : PM} (hk : L[k]? = some s) :
    w.cell? ⟨g, k * 5, none⟩ = some (.int .u8 s.id.a) ∧ w.cell? ⟨g, k * 5 + 1, none⟩ = some (.int .u8 s.id.b) ∧ w.cell? ⟨g, k * 5 + 2, none⟩ = some (.int .u8 s.id.c) ∧ w.cell? ⟨g, k * 5 + 3, none⟩ = some (.int .u8 s.id.d) ∧ w.cell? ⟨g, k * 5 + 4, none⟩ = some s.cv := by
  have hkl := (List.getElem?_eq_some_iff.1 hk).1
  obtain ⟨f0, f1, f2, f3, f4⟩ := pm_flat L k s hk
  refine ⟨?_, ?_, ?_, ?_, ?_⟩
  · rw [World.ownsRow.cellAt h _ (by omega), f0]
  · rw [World.ownsRow.cellAt h _ (by omega), f1]
  · rw [World.ownsRow.cellAt h _ (by omega), f2]
  · rw [World.ownsRow.cellAt h _ (by omega), f3]
  · rw [World.ownsRow.cellAt h _ (by omega), f4]
theorem grown_of {a b : World} (h : Below a.heap.size a b) (r : Option Nat) : a.grownBy b r := ⟨h.os, h.tape, h.output, h.size, fun k hk _ => h.block k hk⟩
structure DropS (w : World) (g base cap : Nat) (L : List PM) (vb i : Nat) (s : Pid) (cv : Value) : Prop where
  d0 : w.cell? ⟨vb, 0, none⟩ = some (.int .u8 s.a)
  d1 : w.cell? ⟨vb, 1, none⟩ = some (.int .u8 s.b)
  d2 : w.cell? ⟨vb, 2, none⟩ = some (.int .u8 s.c)
  d3 : w.cell? ⟨vb, 3, none⟩ = some (.int .u8 s.d)
  d4 : w.cell? ⟨vb, 4, none⟩ = some cv
  r0 : ∃ t, w.cell? ⟨g, i * 5, none⟩ = some (.int .u8 t)
  r1 : ∃ t, w.cell? ⟨g, i * 5 + 1, none⟩ = some (.int .u8 t)
  r2 : ∃ t, w.cell? ⟨g, i * 5 + 2, none⟩ = some (.int .u8 t)
  r3 : ∃ t, w.cell? ⟨g, i * 5 + 3, none⟩ = some (.int .u8 t)
  r4 : ∃ a n c, w.cell? ⟨g, i * 5 + 4, none⟩ = some (.slice a n c)
  fz : ∀ x, w.frozen? ⟨g, x, none⟩ = false
  own : w.ownsRow base 149 5 (.slice (some ⟨g, 0, none⟩) L.length cap) L.length (pmCells L)
theorem DropS.of {w : World} {g base cap : Nat} {L : List PM} {vb i : Nat} {s : Pid} {cv : Value} {t : PM} (ho : w.ownsRow base 149 5 (.slice (some ⟨g, 0, none⟩) L.length cap) L.length (pmCells L)) (hk : w.heap[vb]? = some (.cells #[.int .u8 s.a, .int .u8 s.b, .int .u8 s.c, .int .u8 s.d, cv] 149 (0, 0))) (ht : L[i]? = some t) (hc : ∃ a n c, t.cv = .slice a n c) : DropS w g base cap L vb i s cv := by
  obtain ⟨d0, d1, d2, d3, d4⟩ := cells5_of hk
  obtain ⟨c0, c1, c2, c3, c4⟩ := pm_at ho ht
  obtain ⟨a, n, c, hc⟩ := hc
  rw [hc] at c4
  exact ⟨d0, d1, d2, d3, d4, ⟨_, c0⟩, ⟨_, c1⟩, ⟨_, c2⟩, ⟨_, c3⟩, ⟨a, n, c, c4⟩, fun x => World.ownsRow.frozenAt ho x, ho⟩
set_option maxRecDepth 100000 in
set_option maxHeartbeats 6400000 in
theorem del191_any (S : List PM) (p : PM → Bool) (f : FuncId) (ib : Nat) (io : Obj) (ef : ∀ args w, (callFunc f args).run Tryz.prog w = .ok (.enter f args) w) (v : Value) (base : Nat) (w : World) (ho : w.ownsRow base 149 5 v S.length (pmCells S)) (hcv : ∀ P ∈ S, CV w P.cv P.Cs) (hlen : S.length ≤ 1000000) (hib : w.heap[ib]? = some io) (hio : ∀ A fz, io ≠ .cells A 149 fz)
    (hp : ∀ s ∈ S, ∀ u : World, w.grownBy u v.ownBlock → Calls Tryz.prog f (#[pmV s] ++ #[.pointer (some ⟨ib, 0, none⟩)]) u fun e w' => e = .returned (.bool (p s)) ∧ Below u.heap.size u w') :
    Calls Tryz.prog 191 #[v, .func (.func f) #[] #[.pointer (some ⟨ib, 0, none⟩)]] w fun e w' => ∃ v', e = .returned v' ∧ w'.ownsRow base 149 5 v' (S.filter fun s => !p s).length (pmCells (S.filter fun s => !p s)) ∧ w.grownBy w' v.ownBlock := by
  have hibl := (Array.getElem?_eq_some_iff.1 hib).1
  have HF : Hid (Calls Tryz.prog 187 #[v, .func (.func f) #[] #[.pointer (some ⟨ib, 0, none⟩)]] w fun e w' => e = .returned (.int .i64 (idxInt (S.findIdx? p))) ∧ Below w.heap.size w w') := idxf187_any S p f _ ef v w (pm_view ho hcv) hlen (fun s hs u hu => hp s hs u (grown_of hu _))
  have HP := hid hp
  have HCV : Hid (∀ P ∈ S, ∃ a n c, P.cv = .slice a n c) := fun P hP => (hcv P hP).cvS
  have HIB := hid hib
  clear hp hcv
  cases hq : S.findIdx? p with
  | none =>
    have HQ := hid (keep_none hq)
    rw [hq] at HF
    simp only [idxInt] at HF
    have HO := hid ho
    have HG : Hid (∀ u, Below w.heap.size w u → w.grownBy u v.ownBlock) := fun u hu => grown_of hu _
    obtain ⟨va, vn, vc, rfl⟩ : ∃ a n c, v = .slice a n c := by
      rcases ho.2 with ⟨rfl, _⟩ | ⟨g, cap, cur, rfl, _⟩
      · exact ⟨_, _, _, rfl⟩
      · exact ⟨_, _, _, rfl⟩
    clear ho hq hib
    go_enter Tryz.func191, Tryz.ntmps191
    go_wp2_with fail
    refine HF.out.mono ?_
    rintro e w1 ⟨rfl, hb1⟩
    clear HF
    go_wp2
    go_ret
    refine ⟨_, rfl, ?_, HG.out _ hb1⟩
    rw [HQ.out]
    exact own_below HO.out hb1 (Nat.le_refl _)
  | some i =>
    obtain ⟨hiS, hfirst⟩ := keepTo_first hq
    rw [hq] at HF
    simp only [idxInt] at HF
    rcases ho.2 with ⟨rfl, h0⟩ | ⟨g, cap, cur, rfl, hg0, hgc, _⟩
    · omega
    · have hgi : ib ≠ g := by
        rintro rfl
        rw [hib] at hgc
        injection hgc with e
        exact hio _ _ e
      have HO := hid ho
      have HK1 := hid hfirst
      clear ho hq hfirst hib hgc
      go_enter Tryz.func191, Tryz.ntmps191
      go_wp2_with fail
      refine HF.out.mono ?_
      rintro e w1 ⟨rfl, hb1⟩
      clear HF
      have HO1 : Hid (w1.ownsRow base 149 5 (.slice (some ⟨g, 0, none⟩) S.length cap) S.length (pmCells S)) := own_below HO.out hb1 (Nat.le_refl _)
      have HG1 : Hid (w.grownBy w1 (some g)) := grown_of hb1 _
      have hne : ¬ ((i : Int) = -1) := by omega
      clear HO hb1
      go_wp2
      go_loopw [5, 6] (fun a b wr => ∃ (j : Nat) (L : List PM), j ≤ S.length ∧ (keepTo p S j).length < j ∧ L.length = S.length ∧ a = .int .i64 ((keepTo p S j).length : Nat) ∧ b = .int .i64 j ∧ Hid (L.take (keepTo p S j).length = keepTo p S j ∧ L.drop j = S.drop j ∧ ∀ P ∈ L, P ∈ S) ∧ Hid (wr.ownsRow base 149 5 (.slice (some ⟨g, 0, none⟩) L.length cap) L.length (pmCells L)) ∧ Hid (w.grownBy wr (some g))) (fun _ b _ => S.length - (intOf b).toNat)
      case atStart =>
        refine ⟨i + 1, S, by omega, ?_, rfl, ?_, by go_num, ?_, HO1, HG1⟩
        · rw [HK1.out, List.length_take]; omega
        · rw [HK1.out, List.length_take, Nat.min_eq_left (by omega)]
        · exact ⟨by rw [HK1.out, List.length_take, Nat.min_eq_left (by omega)], rfl, fun _ h => h⟩
      case round =>
        clear HO1 HK1 hne HG1
        obtain ⟨j, L, hj, hkj, hL, rfl, rfl, HL, HO, HG⟩ := hrel
        obtain ⟨K, hK⟩ : ∃ K, keepTo p S j = K := ⟨_, rfl⟩
        rw [hK] at hkj HL ⊢
        by_cases hlt : j < S.length
        · obtain ⟨s, hs⟩ : ∃ s, S[j]? = some s := ⟨_, List.getElem?_eq_getElem hlt⟩
          have hLs : L[j]? = some s := by
            have h : (L.drop j)[0]? = (S.drop j)[0]? := by rw [HL.out.2.1]
            rw [List.getElem?_drop, List.getElem?_drop, Nat.add_zero, hs] at h
            exact h
          obtain ⟨c0, c1, c2, c3, c4⟩ := pm_at HO.out hLs
          obtain ⟨sa, sn, sc, hsv⟩ := HCV.out s (List.mem_of_getElem? hs)
          rw [hsv] at c4
          obtain ⟨w4, hw4⟩ : ∃ w4, w4 = wr.alloc (.cells #[.int .u8 s.id.a, .int .u8 s.id.b, .int .u8 s.id.c, .int .u8 s.id.d, .slice sa sn sc] 149) := ⟨_, rfl⟩
          have hb4 : Below wr.heap.size wr w4 := by rw [hw4]; exact (Below.refl _ _).alloc (Nat.le_refl _) _
          have hk4 := (MapKept.heap_alloc wr (.cells #[.int .u8 s.id.a, .int .u8 s.id.b, .int .u8 s.id.c, .int .u8 s.id.d, .slice sa sn sc] 149)).1
          rw [← hw4] at hk4
          have hs4 : wr.heap.size < w4.heap.size := by rw [hw4]; simp
          have hszw := HG.out.size
          have hib4 : w4.heap[ib]? = some io := (hb4.block ib (by omega)).trans ((HG.out.block ib hibl (by intro e; injection e with e; exact hgi e)).trans HIB.out)
          obtain ⟨d0, d1, d2, d3, d4⟩ := cells5_of hk4
          have HKS : Hid (keepTo p S (j + 1) = if p s then keepTo p S j else keepTo p S j ++ [s]) := keepTo_succ hs
          have hcall := HP.out s (List.mem_of_getElem? hs) w4 (grown_trans HG.out (grown_of hb4 _))
          unfold pmV at hcall
          rw [hsv] at hcall
          have HK4 := hid hk4
          have HKK := hid hK
          have HSM : Hid (s ∈ S) := List.mem_of_getElem? hs
          have HSV := hid hsv
          have HG4 : Hid (w.grownBy w4 (some g)) := grown_trans HG.out (grown_of hb4 _)
          clear hs hLs hk4 hK hib4 hsv
          subst hw4
          cases hq : p s with
          | true =>
            rw [hq] at hcall
            go_wp2_with (go_at_fn f; refine hcall.mono ?_; rintro e w5 ⟨rfl, hb5⟩)
            go_roundw
            case rel =>
              have hb45 : Below wr.heap.size wr w5 := hb4.trans (hb5.mono hb4.size)
              have e1 : keepTo p S (j + 1) = K := by rw [HKS.out, if_pos hq, HKK.out]
              refine ⟨_, _, _, _, _, _, _, _, _, _, _, _, _, _, _, _, _, _, _, _, _, _, _, ⟨j + 1, L, by omega, by rw [e1]; omega, hL, by rw [e1], by go_num, ?_, own_below HO.out hb45 (Nat.le_refl _), grown_trans HG4.out (grown_of hb5 _)⟩, rfl⟩
              rw [e1]
              refine ⟨HL.out.1, ?_, HL.out.2.2⟩
              have := HL.out.2.1
              rw [← List.drop_drop, this, List.drop_drop]
            case measure => simp [intOf]; omega
          | false =>
            rw [hq] at hcall
            have hi : K.length < L.length := by omega
            obtain ⟨t, ht⟩ : ∃ t, L[K.length]? = some t := ⟨_, List.getElem?_eq_getElem hi⟩
            have htc := HCV.out t (HL.out.2.2 t (List.mem_of_getElem? ht))
            have HN : Hid (∀ w5, Below (wr.alloc (.cells #[.int .u8 s.id.a, .int .u8 s.id.b, .int .u8 s.id.c, .int .u8 s.id.d, .slice sa sn sc] 149)).heap.size (wr.alloc (.cells #[.int .u8 s.id.a, .int .u8 s.id.b, .int .u8 s.id.c, .int .u8 s.id.d, .slice sa sn sc] 149)) w5 → DropS w5 g base cap L wr.heap.size K.length s.id (.slice sa sn sc)) := by
              intro w5 hb5
              have hb45 : Below wr.heap.size wr w5 := hb4.trans (hb5.mono hb4.size)
              exact DropS.of (own_below HO.out hb45 (Nat.le_refl _)) ((hb5.block _ hs4).trans HK4.out) ht htc
            clear d0 d1 d2 d3 d4 ht htc
            obtain ⟨d0, d1, d2, d3, d4⟩ := cells5_of HK4.out
            go_wp2_with (go_at_fn f; refine hcall.mono ?_; rintro e w5 ⟨rfl, hb5⟩; clear d0 d1 d2 d3 d4 c0 c1 c2 c3 c4; obtain ⟨d0, d1, d2, d3, d4, ⟨_, r0⟩, ⟨_, r1⟩, ⟨_, r2⟩, ⟨_, r3⟩, ⟨_, _, _, r4⟩, fz, HO5⟩ := HN.out w5 hb5; have f0 := fz (K.length * 5); have f1 := fz (K.length * 5 + 1); have f2 := fz (K.length * 5 + 2); have f3 := fz (K.length * 5 + 3); have f4 := fz (K.length * 5 + 4); clear HN)
            obtain ⟨w7, hw7⟩ : ∃ w7, w7 = ((((w5.setCell ⟨g, K.length * 5, none⟩ (.int .u8 s.id.a)).setCell ⟨g, K.length * 5 + 1, none⟩ (.int .u8 s.id.b)).setCell ⟨g, K.length * 5 + 2, none⟩ (.int .u8 s.id.c)).setCell ⟨g, K.length * 5 + 3, none⟩ (.int .u8 s.id.d)).setCell ⟨g, K.length * 5 + 4, none⟩ (.slice sa sn sc) := ⟨_, rfl⟩
            rw [← hw7]
            obtain ⟨o7, g7⟩ := own_set5 (w5 := w7) HO5 hi s rfl rfl rfl rfl (by rw [HSV.out]; exact hw7)
            have HG7 : Hid (w.grownBy w7 (some g)) := grown_trans HG4.out (grown_trans (grown_of hb5 _) g7)
            have HO7 := hid o7
            clear o7 g7 hw7 d0 d1 d2 d3 d4 r0 r1 r2 r3 r4 f0 f1 f2 f3 f4 fz HO5
            go_wp2
            go_roundw
            case rel =>
              have e1 : keepTo p S (j + 1) = K ++ [s] := by rw [HKS.out, if_neg (by rw [hq]; simp), HKK.out]
              first
                | refine ⟨j + 1, by omega, by rw [e1, List.length_append, List.length_singleton]; omega, L.set K.length s, by rw [List.length_set]; exact hL, by rw [e1, List.length_append, List.length_singleton]; omega, by omega, ?_, ?_, HG7⟩
                | refine ⟨_, _, _, _, _, _, _, _, _, _, _, _, _, _, _, _, _, _, _, _, _, _, _, ⟨j + 1, L.set K.length s, by omega, by rw [e1, List.length_append, List.length_singleton]; omega, by rw [List.length_set]; exact hL, by rw [e1, List.length_append, List.length_singleton]; go_num, by go_num, ?_, ?_, HG7⟩, rfl⟩
              · rw [e1, List.length_append, List.length_singleton]
                refine ⟨by rw [set_take hi, HL.out.1], ?_, fun P hP => ?_⟩
                · rw [set_drop (by omega), ← List.drop_drop, HL.out.2.1, List.drop_drop]
                · rcases List.mem_or_eq_of_mem_set hP with h | h
                  · exact HL.out.2.2 P h
                  · rw [h]; exact HSM.out
              · show World.ownsRow _ _ _ _ _ _ _
                rw [List.length_set]
                exact HO7.out
            case measure => simp [intOf]; omega
        · obtain rfl : j = S.length := by omega
          have HKK : Hid (K = S.filter fun s => !p s) := by
            show _ = _
            rw [← hK]
            unfold keepTo
            rw [List.take_length]
          have hcap : L.length ≤ cap := by
            rcases HO.out.2 with ⟨h', _⟩ | ⟨_, _, _, h', _, _, hnc, _⟩
            · cases h'
            · cases h'; exact hnc
          have hcl : ∀ ty, (Builtin.clear_ #[84] ty #[.slice (some ⟨g, K.length * 5, none⟩) (S.length - K.length) (cap - K.length)]).run Tryz.prog wr = .ok (.tuple #[]) (wr.setCells g (K.length * 5) (Builtin.zeroCells (Value.agg #[.int .u8 0, .int .u8 0, .int .u8 0, .int .u8 0, .slice none 0 0]).cells (S.length - K.length)).toList) := fun ty => by
            refine run_clear_row wr 84 149 ty (Value.agg #[.int .u8 0, .int .u8 0, .int .u8 0, .int .u8 0, .slice none 0 0]) Tryz.underlying84 Tryz.zeroValue149 (by decide) g (K.length * 5) _ _ (by omega) (fun x hx => ?_) (fun x hx => World.ownsRow.frozenAt HO.out _)
            have hx7 : x < (S.length - K.length) * 5 := hx
            rw [World.ownsRow.cellAt HO.out _ (by omega), List.getElem?_eq_getElem (by rw [pm_len]; omega)]
            rfl
          obtain ⟨w6, hw6⟩ : ∃ w6, w6 = wr.setCells g (K.length * 5) (Builtin.zeroCells (Value.agg #[.int .u8 0, .int .u8 0, .int .u8 0, .int .u8 0, .slice none 0 0]).cells (S.length - K.length)).toList := ⟨_, rfl⟩
          rw [← hw6] at hcl
          obtain ⟨o6, g6⟩ := own_setCells (Builtin.zeroCells (Value.agg #[.int .u8 0, .int .u8 0, .int .u8 0, .int .u8 0, .slice none 0 0]).cells (S.length - K.length)).toList wr (K.length * 5) (own_cut HO.out (i := K.length) (by omega)) (by rw [List.length_take]; omega)
          rw [← hw6] at o6 g6
          rw [pm_take L _ (by omega), HL.out.1] at o6
          have HG6 := hid (grown_trans HG.out g6)
          have HO6 := hid o6
          have hk1 : (K.length : Int) ≤ (S.length : Int) := by omega
          have hk2 : (S.length : Int) ≤ (cap : Int) := by omega
          clear o6 g6 hw6 hK HL HO HG
          go_wp2
          go_ret
          refine ⟨_, rfl, ?_, HG6.out⟩
          rw [← HKK.out]
          exact HO6.out
end Go.Proofs.YtgdfipmdmgkidaaGreatDoor
