/- Mathematics: a history's patches stand as the program lays them. -/
import Derived.Test.YtgdfipmdmgkidaaGreatDoorQhunk
import Derived.Test.YtgdfipmdmgkidaaGreatDoorQgood
import Derived.Test.YtgdfipmdmgkidaaGreatDoorQneed
namespace Go.Proofs.YtgdfipmdmgkidaaGreatDoor
open Go.RowKit
theorem mid_framed (S : List Spot) : midRow (framed S) = S := by
  unfold midRow framed
  simp
theorem HSteps.applied : ∀ {Hs : List Hk} {F F' : List Spot}, HSteps F Hs F' → ((F.map cid) ++ (Hs.flatMap (·.Br)).map cid).Nodup → F'.length ≤ 50000 → ∃ g : Nat → List Spot, g 0 = F ∧ g Hs.length = F' ∧ ∀ (k : Nat) (h : Hk), Hs[k]? = some h → (∃ t p, h.N[0]? = some t ∧ idxS (g k) t = some p ∧ p + h.N.length ≤ (g k).length ∧ 2 ≤ h.N.length ∧ g (k + 1) = hApply (g k) h.N h.Br p) ∧ (g k).length + h.N.length + h.Br.length ≤ 300000
  | [], F, F', h, _, _ => ⟨fun _ => F, rfl, by cases h; rfl, fun k x hk => by simp at hk⟩
  | h :: Hs, F, F', ⟨F1, h1, h2⟩, hn, hl => by
    have hF : F.Nodup := nodup_of_map (List.nodup_append.1 hn).1
    have hn1 : ((F1.map cid) ++ (Hs.flatMap (·.Br)).map cid).Nodup := by
      simp only [List.flatMap_cons, List.map_append] at hn
      rw [← List.append_assoc] at hn
      exact (List.Perm.append_right _ h1.cids).nodup_iff.2 hn
    obtain ⟨g, g0, g1, g2⟩ := h2.applied hn1 hl
    obtain ⟨t, p, a1, a2, a3, a4, a5⟩ := h1.apply hF
    have l1 := h1.len
    have l2 := h2.len
    refine ⟨fun k => match k with | 0 => F | k + 1 => g k, rfl, g1, fun k x hk => ?_⟩
    cases k with
    | zero =>
      simp at hk
      subst hk
      refine ⟨⟨t, p, a1, a2, a3, a4, ?_⟩, ?_⟩
      · show g 0 = _
        rw [g0]
        exact a5
      · show F.length + h.N.length + h.Br.length ≤ 300000
        omega
    | succ k => exact g2 k x (by simpa using hk)
section
variable {ids : List Pid} {p p' : PL} {i : Pid} {c : ChM}
theorem app_len (h : AppH i c p p') : p'.S.length ≤ p.S.length + (brOf c).length := by
  cases c with
  | add i' l rv S =>
    obtain ⟨_, _, _, rfl⟩ := h
    exact Nat.le_add_left _ _
  | remove i' rv S =>
    obtain ⟨_, _, rfl, rfl⟩ := h
    simp [deadRow]
  | alter i' hv Hs =>
    have := h.2.2.2.2.2.len
    simp only [framed, List.length_cons, List.length_append, List.length_nil] at this
    show _ ≤ _ + (Hs.flatMap (·.Br)).length
    omega
theorem app_apply (h : AppH i c p p') (hk : CellsOK ids p) (hz : zid ∉ ids) (hi : i ∉ ids) (hiz : i ≠ zid) (w : ChWF i c) (hs : ChSmall c) (hl : p.S.length ≤ 20000) (hl' : p'.S.length ≤ 20000) : ApplyP c p p' := by
  cases c with
  | add i' l rv S =>
    obtain ⟨_, rfl, _, rfl⟩ := h
    exact rfl
  | remove i' rv S =>
    obtain ⟨_, rfl, rfl, rfl⟩ := h
    exact ⟨rfl, by omega⟩
  | alter i' hv Hs =>
    obtain ⟨_, rfl, _, a4, a5, a6⟩ := h
    have hn := br_fresh hk hz hi hiz w
    have hfl : (framed p'.S).length = p'.S.length + 2 := by simp [framed]
    obtain ⟨g, g0, g1, g2⟩ := a6.applied hn (by omega)
    refine ⟨g, g0, ⟨fun k x hx => (g2 k x hx).1, fun k x hx => (g2 k x hx).2, by rw [g1, hfl]; omega, by rw [g1, hfl]; omega⟩, ?_, by omega, by have := hs.1; omega⟩
    rw [g1, mid_framed]
    cases p'
    simp only at a4 a5
    subst a4 a5
    rfl
end
structure SmallP (Ps : List PM) : Prop where
  few : ∀ P ∈ Ps, P.Cs.length ≤ 50
  names : ∀ P ∈ Ps, ∀ c ∈ P.Cs, c.1.size ≤ 1000
  small : ∀ P ∈ Ps, ∀ c ∈ P.Cs, ChSmall c.2
def brsP (P : PM) : List Spot := P.Cs.flatMap fun c => brOf c.2
def weight (Ps : List PM) : Nat := (Ps.flatMap brsP).length
theorem weight_cons (P : PM) (Ps : List PM) : weight (P :: Ps) = (brsP P).length + weight Ps := by simp [weight]
theorem weight_app (A B : List PM) : weight (A ++ B) = weight A + weight B := by simp [weight]
theorem br_le {P : PM} {c : ByteArray × ChM} (h : c ∈ P.Cs) : (brOf c.2).length ≤ (brsP P).length := by
  obtain ⟨A, B, e⟩ := List.append_of_mem h
  unfold brsP
  rw [e]
  simp
  omega
theorem PApp.len {P : PM} {s s' : ByteArray → PL} (h : PApp P s s') (x : ByteArray) : (s' x).S.length ≤ (s x).S.length + (brsP P).length := by
  by_cases hx : ∃ c ∈ P.Cs, c.1 = x
  · obtain ⟨c, hc, rfl⟩ := hx
    have h1 := app_len (h.app c hc)
    have h2 := br_le hc
    omega
  · rw [h.other x (fun c hc e => hx ⟨c, hc, e⟩)]
    omega
theorem PChain.seq : ∀ {Ps : List PM} {s s' : ByteArray → PL}, PChain Ps s s' → ∃ S : Nat → ByteArray → PL, S 0 = s ∧ S Ps.length = s' ∧ ∀ (p : Nat) (P : PM), Ps[p]? = some P → PApp P (S p) (S (p + 1))
  | [], s, s', h => ⟨fun _ => s, rfl, by cases h; rfl, fun p P hp => by simp at hp⟩
  | P :: Ps, s, s', ⟨s1, h1, h2⟩ => by
    obtain ⟨S, e0, e1, e2⟩ := h2.seq
    refine ⟨fun k => match k with | 0 => s | k + 1 => S k, rfl, e1, fun p Q hp => ?_⟩
    cases p with
    | zero =>
      simp at hp
      subst hp
      show PApp P s (S 0)
      rw [e0]
      exact h1
    | succ p => exact e2 p Q (by simpa using hp)
theorem PChain.len : ∀ {Ps : List PM} {s s' : ByteArray → PL}, PChain Ps s s' → ∀ x, (s' x).S.length ≤ (s x).S.length + weight Ps
  | [], s, s', h, x => by cases h; omega
  | P :: Ps, s, s', ⟨s1, h1, h2⟩, x => by
    have a := h1.len x
    have b := h2.len x
    rw [weight_cons]
    omega
open Classical in
noncomputable def midS (P : PM) (s s' : ByteArray → PL) (k : Nat) (x : ByteArray) : PL := if ∃ c ∈ P.Cs.take k, c.1 = x then s' x else s x
theorem midS_zero (P : PM) (s s' : ByteArray → PL) : midS P s s' 0 = s := by
  funext x
  simp [midS]
theorem midS_end {P : PM} {s s' : ByteArray → PL} (h : PApp P s s') : midS P s s' P.Cs.length = s' := by
  funext x
  unfold midS
  rw [List.take_length]
  split
  · rfl
  · rename_i hn
    exact (h.other x (fun c hc e => hn ⟨c, hc, e⟩)).symm
theorem midS_hit {P : PM} (hnd : (P.Cs.map (·.1)).Nodup) {s s' : ByteArray → PL} {k : Nat} {c : ByteArray × ChM} (hc : P.Cs[k]? = some c) : midS P s s' k c.1 = s c.1 ∧ midS P s s' (k + 1) c.1 = s' c.1 := by
  obtain ⟨hk, e⟩ := List.getElem?_eq_some_iff.1 hc
  constructor
  · unfold midS
    rw [if_neg]
    rintro ⟨d, hd, e2⟩
    obtain ⟨j, hj, rfl⟩ := List.getElem_of_mem hd
    rw [List.length_take] at hj
    rw [List.getElem_take] at e2
    have := names_inj hnd (List.getElem?_eq_getElem (show j < P.Cs.length by omega)) hc e2
    omega
  · unfold midS
    rw [if_pos]
    refine ⟨c, ?_, rfl⟩
    rw [List.take_succ_eq_append_getElem hk, e]
    simp
theorem midS_other {P : PM} {s s' : ByteArray → PL} {k : Nat} {c : ByteArray × ChM} (hc : P.Cs[k]? = some c) {x : ByteArray} (hx : x ≠ c.1) : midS P s s' (k + 1) x = midS P s s' k x := by
  obtain ⟨hk, e⟩ := List.getElem?_eq_some_iff.1 hc
  unfold midS
  rw [List.take_succ_eq_append_getElem hk, e]
  have : (∃ d ∈ P.Cs.take k ++ [c], d.1 = x) ↔ ∃ d ∈ P.Cs.take k, d.1 = x := by
    constructor
    · rintro ⟨d, hd, e2⟩
      rcases List.mem_append.1 hd with hd | hd
      · exact ⟨d, hd, e2⟩
      · rw [List.mem_singleton.1 hd] at e2
        exact absurd e2.symm hx
    · rintro ⟨d, hd, e2⟩
      exact ⟨d, List.mem_append.2 (.inl hd), e2⟩
  simp only [this]
theorem Hist.stands {Ps : List PM} {s : ByteArray → PL} (h : Hist Ps s) (hw : weight Ps ≤ 20000) (hs : SmallP Ps) (hl : Ps.length ≤ 40) : ∃ st cnt, Stands Ps st cnt ∧ st Ps.length 0 = s ∧ cnt Ps.length ≤ 50 * Ps.length := by
  obtain ⟨S, e0, e1, e2⟩ := h.chain.seq
  have hpre : ∀ p, p ≤ Ps.length → PChain (Ps.take p) (fun _ => pl0) (S p) := by
    intro p
    induction p with
    | zero => intro _; exact e0
    | succ p ih =>
      intro hp
      have hlt : p < Ps.length := by omega
      rw [List.take_succ_eq_append_getElem hlt]
      exact PChain.app.2 ⟨S p, ih (by omega), S (p + 1), e2 p _ (List.getElem?_eq_getElem hlt), rfl⟩
  have hh : ∀ p, p ≤ Ps.length → Hist (Ps.take p) (S p) := fun p hp => by
    have h1 : Ps.take p ++ Ps.drop p = Ps := List.take_append_drop p Ps
    refine ⟨hpre p hp, ?_, ?_, fun P hP => h.wf P (List.mem_of_mem_take hP)⟩
    · have := h.nd
      rw [← h1, List.map_append] at this
      exact (List.nodup_append.1 this).1
    · have := h.noz
      rw [← h1, List.map_append] at this
      exact fun k => this (List.mem_append.2 (.inl k))
  have hlen : ∀ p, p ≤ Ps.length → ∀ x, (S p x).S.length ≤ 20000 := fun p hp x => by
    have k1 := (hpre p hp).len x
    have k2 : weight Ps = weight (Ps.take p) + weight (Ps.drop p) := by rw [← weight_app, List.take_append_drop]
    have k3 : (pl0).S.length = 0 := rfl
    simp only [k3] at k1
    omega
  let st : Nat → Nat → ByteArray → PL := fun p k => match Ps[p]? with
    | some P => midS P (S p) (S (p + 1)) k
    | none => S p
  have hst : ∀ p P, Ps[p]? = some P → ∀ k, st p k = midS P (S p) (S (p + 1)) k := fun p P hP k => by
    show (match Ps[p]? with | some P => midS P (S p) (S (p + 1)) k | none => S p) = _
    rw [hP]
  have hst0 : ∀ p, st p 0 = S p := fun p => by
    cases hP : Ps[p]? with
    | none =>
      show (match Ps[p]? with | some P => midS P (S p) (S (p + 1)) 0 | none => S p) = _
      rw [hP]
    | some P => rw [hst p P hP 0, midS_zero]
  have hcnt : ∀ p, ((Ps.take p).map (·.Cs.length)).sum ≤ 50 * (Ps.take p).length := fun p => by
    have : ∀ L : List PM, (∀ P ∈ L, P.Cs.length ≤ 50) → (L.map (·.Cs.length)).sum ≤ 50 * L.length := by
      intro L
      induction L with
      | nil => intro _; simp
      | cons P L ih =>
        intro hL
        have a := hL P (by simp)
        have b := ih (fun Q hQ => hL Q (by simp [hQ]))
        simp only [List.map_cons, List.sum_cons, List.length_cons]
        omega
    exact this _ (fun P hP => hs.few P (List.mem_of_mem_take hP))
  refine ⟨st, fun p => ((Ps.take p).map (·.Cs.length)).sum, ⟨?_, fun p P hP => ?_, fun p P k c hP hc x hx => ?_, fun p P k c hP hc => ?_, fun P hP c hc => hs.names P hP c hc, fun P hP => ?_, fun p P hP => ?_, fun p => ?_⟩, ?_, ?_⟩
  · rw [hst0, e0]
  · rw [hst0, hst p P hP, midS_end (e2 p P hP)]
  · rw [hst p P hP, hst p P hP]
    exact midS_other hc hx
  · have hlt := (List.getElem?_eq_some_iff.1 hP).1
    have hPm := List.mem_of_getElem? hP
    obtain ⟨m1, m2⟩ := midS_hit (s := S p) (s' := S (p + 1)) (h.wf P hPm).nd hc
    rw [hst p P hP, hst p P hP, m1, m2]
    have hcm := List.mem_of_getElem? hc
    have hH := hh p (by omega)
    have hid : P.id ∉ (Ps.take p).map (·.id) := by
      have hH1 := hh (p + 1) (by omega)
      rw [List.take_succ_eq_append_getElem hlt, (List.getElem?_eq_some_iff.1 hP).2] at hH1
      exact hH1.last.choose_spec.2.2.2.1
    have hiz : P.id ≠ zid := fun e => h.noz (by rw [← e]; exact List.mem_map.2 ⟨P, hPm, rfl⟩)
    exact app_apply ((e2 p P hP).app c hcm) (hH.good.1 c.1) hH.noz hid hiz ((h.wf P hPm).wf c hcm) (hs.small P hPm c hcm) (hlen p (by omega) _) (hlen (p + 1) (by omega) _)
  · have := hs.few P hP
    omega
  · have hlt := (List.getElem?_eq_some_iff.1 hP).1
    show ((Ps.take (p + 1)).map (·.Cs.length)).sum = ((Ps.take p).map (·.Cs.length)).sum + P.Cs.length
    rw [List.take_succ_eq_append_getElem hlt, (List.getElem?_eq_some_iff.1 hP).2]
    simp
  · have a := hcnt p
    have b : (Ps.take p).length ≤ Ps.length := by rw [List.length_take]; omega
    show ((Ps.take p).map (·.Cs.length)).sum ≤ 100000
    omega
  · rw [hst0, e1]
  · have := hcnt Ps.length
    rw [List.take_length] at this
    simp only [List.take_length]
    exact this
end Go.Proofs.YtgdfipmdmgkidaaGreatDoor

/- Mathematics: what is recorded fits: a change that is made now, as a change of a history. -/
namespace Go.Proofs.YtgdfipmdmgkidaaGreatDoor
open Go.RowKit
theorem seg_of (F : List Spot) {a b : Nat} (hab : a < b) (hb : b < F.length) : (F.take (b + 1)).drop a = F[a] :: ((F.take b).drop (a + 1) ++ [F[b]]) := by
  rw [List.take_succ_eq_append_getElem hb, List.drop_append_of_le_length (by rw [List.length_take]; omega)]
  have : (F.take b).drop a = F[a] :: (F.take b).drop (a + 1) := by
    rw [List.drop_eq_getElem_cons (by rw [List.length_take]; omega), List.getElem_take]
  rw [this]
  rfl
theorem HkAt.hstep {F : List Spot} {QB : List (Quad × List Spot)} {k : Nat} {q : Quad} {B : List Spot} (h : HkAt F QB k) (hF : F.Nodup) (hk : QB[k]? = some (q, B)) (hne : q.i < q.k ∨ B ≠ []) : HStep (fSeq F QB k) (namedOf F q) B (fSeq F QB (k + 1)) := by
  obtain ⟨P, x, hx, e1, e2, e3, e4⟩ := h.ex
  obtain ⟨hkl, hke⟩ := List.getElem?_eq_some_iff.1 hk
  have hd : QB.drop k = (q, B) :: QB.drop (k + 1) := by rw [List.drop_eq_getElem_cons hkl, hke]
  rw [hd] at e2 e3
  simp only [List.map_cons] at e3
  obtain ⟨a1, a2, a3, a4, a5⟩ := e3.at
  have hqi : q.i < (living F).length := by have := e3.2.1; have := e3.2.2.1; omega
  have hbl : q.k + 1 < (living F).length := e3.2.2.1
  have hal : (F[av F q]'(by omega)).alive = true := by
    have h9 := alive_at (F := F) (x := q.i) hqi
    simp only [← a4] at h9
    exact h9
  have hbl' : (F[bv F q]'(by omega)).alive = true := by
    have h9 := alive_at (F := F) (x := q.k + 1) hbl
    simp only [← a5] at h9
    exact h9
  have hnm : namedOf F q = (F.take (bv F q + 1)).drop (av F q) := rfl
  have hget : F.getD (av F q) begS = F[av F q]'(by omega) := by
    rw [List.getD_eq_getElem?_getD, List.getElem?_eq_getElem (by omega)]; rfl
  have hidx : idxS (fSeq F QB k) (F.getD (av F q) begS) = some (P.length + (av F q - (living F).getD x 0)) := by
    rw [e1, hget]
    exact idx_at hF a1 (by omega) (fun s hs => e4 s hs _ (by omega) a1 hal)
  have hst : fSeq F QB (k + 1) = hApply (fSeq F QB k) (namedOf F q) B (P.length + (av F q - (living F).getD x 0)) := by
    rw [fSeq, hk]
    simp only
    rw [hidx]
    rfl
  have hrow : fSeq F QB (k + 1) = (P ++ ((F.take (av F q + 1)).drop ((living F).getD x 0) ++ (deadRow ((F.take (bv F q)).drop (av F q + 1)) ++ B))) ++ F.drop (bv F q) := by
    rw [hst, e1, hnm]
    exact apply_at a1 a2 a3
  have ht1 : (F.take (av F q + 1)).drop ((living F).getD x 0) = (F.take (av F q)).drop ((living F).getD x 0) ++ [F[av F q]] := by
    rw [List.take_succ_eq_append_getElem (by omega), List.drop_append_of_le_length (by rw [List.length_take]; omega)]
  have hdb : F.drop (bv F q) = F[bv F q] :: F.drop (bv F q + 1) := List.drop_eq_getElem_cons a3
  have hdc : F.drop ((living F).getD x 0) = (F.take (av F q)).drop ((living F).getD x 0) ++ ((F.take (bv F q + 1)).drop (av F q) ++ F.drop (bv F q + 1)) := split_three F a1 (by omega)
  refine ⟨P ++ (F.take (av F q)).drop ((living F).getD x 0), F[av F q], (F.take (bv F q)).drop (av F q + 1), F[bv F q], F.drop (bv F q + 1), ?_, ?_, ?_, hal, hbl', ?_⟩
  · rw [hnm]
    exact seg_of F a2 a3
  · rw [e1, hdc, hnm, List.append_assoc]
  · rw [hrow, ht1, hdb]
    simp
  · rcases hne with hlt | hB
    · left
      have hm1 : q.i + 1 < (living F).length := by omega
      have hm : (living F)[q.i + 1] < F.length := living_in F hm1
      have g1 : av F q < (living F)[q.i + 1] := by rw [a4]; exact living_lt F (by omega) hm1
      have g2 : (living F)[q.i + 1] < bv F q := by rw [a5]; exact living_lt F (by omega) hbl
      refine ⟨F[(living F)[q.i + 1]], ?_, alive_at hm1⟩
      refine List.mem_iff_getElem.2 ⟨(living F)[q.i + 1] - (av F q + 1), by rw [List.length_drop, List.length_take]; omega, ?_⟩
      rw [List.getElem_drop, List.getElem_take]
      congr 1
      omega
    · exact .inr hB
theorem gaps_ne {O N : List ByteArray} {i j : Nat} {Q : List Quad} (h : GapsR O N i j Q) : ∀ q ∈ Q, q.i < q.k ∨ q.j < q.l := by
  have one : ∀ {i k j l : Nat}, ∀ q ∈ gapOf i k j l, q.i < q.k ∨ q.j < q.l := fun {i k j l} q hq => by
    unfold gapOf at hq
    split at hq
    · rename_i h1
      rw [List.mem_singleton.1 hq]
      exact h1
    · cases hq
  induction h with
  | stop h1 h2 => exact one
  | go h1 h2 h3 ih =>
    intro q hq
    rcases List.mem_append.1 hq with hq | hq
    · exact one q hq
    · exact ih q hq
theorem made_hsteps {S : List Spot} {N : List ByteArray} {i : Pid} {n : Int} {Q : List Quad} {Hs : List Hk} (hm : Made (framed S) i n N Q Hs) (hg : GapsR (rowLines S) N 0 0 Q) (hF : (framed S).Nodup) (hid : ∀ s ∈ framed S, ¬ (s.a = i.a ∧ s.b = i.b ∧ s.c = i.c ∧ s.d = i.d)) : HSteps (framed S) Hs (fSeq (framed S) (qbOf Q Hs) Hs.length) := by
  have ho := hg.ord (Nat.zero_le _) (Nat.zero_le _)
  have hlf := living_framed S
  have hB : ∀ r ∈ qbOf Q Hs, ∀ s ∈ r.2, s ∉ framed S := fun r hr s hs hsF => by
    obtain ⟨m, h⟩ := qb_mem hm r hr
    rw [h] at hs
    exact hid s hsF (bring_id hs)
  have h0 : HkAt (framed S) (qbOf Q Hs) 0 := HkAt.start (living_first S) (by omega) (by rw [qb_map hm, hlf]; exact ho)
  have hql := qb_len hm
  refine HSteps.of_seq (fSeq (framed S) (qbOf Q Hs)) (fun k h hk => ?_)
  have hkl : k < Hs.length := (List.getElem?_eq_some_iff.1 hk).1
  obtain ⟨q, e1, e2, e3, e4⟩ := qb_at hm hk
  rw [e3]
  refine (HkAt.all hF hB h0 k (by omega)).hstep hF e2 ?_
  have hqm := List.mem_of_getElem? e1
  rcases gaps_ne hg q hqm with hlt | hlt
  · exact .inl hlt
  · right
    obtain ⟨_, _, _, o4⟩ := hg.ok (Nat.zero_le _) (Nat.zero_le _) q hqm
    intro e
    rw [e4] at e
    have h1 := congrArg List.length e
    rw [bring_len] at h1
    unfold linesAt at h1
    rw [List.length_drop, List.length_take] at h1
    simp at h1
    omega
theorem ApplyP.det {c : ChM} {p p' p'' : PL} (h : ApplyP c p p') (k : ApplyP c p p'') : p'' = p' := by
  cases c with
  | add i l rv S => rw [h, k]
  | remove i rv S => rw [h.1, k.1]
  | alter i hv Hs =>
    obtain ⟨g, g0, g1, rfl, _⟩ := h
    obtain ⟨f, f0, f1, rfl, _⟩ := k
    have : ∀ j, j ≤ Hs.length → f j = g j := by
      intro j
      induction j with
      | zero => intro _; rw [f0, g0]
      | succ j ih =>
        intro hj
        have hh : Hs[j]? = some Hs[j] := List.getElem?_eq_getElem (by omega)
        obtain ⟨t, q, a1, a2, _, _, a3⟩ := g1.step j _ hh
        obtain ⟨t', q', b1, b2, _, _, b3⟩ := f1.step j _ hh
        rw [a1] at b1
        cases b1
        rw [ih (by omega)] at b2 b3
        rw [a2] at b2
        cases b2
        rw [a3, b3]
    rw [this _ (Nat.le_refl _)]
theorem made_app {ids : List Pid} {p : PL} (h : CellsOK ids p) {i : Pid} (hi : i ∉ ids) (hz : zid ∉ ids) (hiz : i ≠ zid) {n n' : Int} (hn : 0 ≤ n) {there : Bool} {text : ByteArray} {c : ChM} (hc : ChMade p i n there text c n') (hdf : p.alive = true → there = true → rowLines p.S ≠ cutAll text) : ∃ p', AppH i c p p' ∧ ChWF i c ∧ (brOf c).length ≤ (cutAll text).length := by
  cases c with
  | add i' l rv S =>
    obtain ⟨h1, rfl, rfl, rfl, _⟩ := hc
    refine ⟨⟨i', true, bring i' n (cutAll text)⟩, ⟨h1, rfl, rfl, rfl⟩, ⟨fun t ht => ?_, bring_cids _ _ _⟩, by show (bring i' n (cutAll text)).length ≤ _; rw [bring_len]; exact Nat.le_refl _⟩
    have ht' : t ∈ bring i' n (cutAll text) := ht
    unfold bring brTo at ht'
    obtain ⟨k, _, rfl⟩ := List.mem_map.1 ht'
    exact ⟨rfl, by show 0 ≤ n + (k : Int); omega⟩
  | remove i' rv S =>
    obtain ⟨h1, _, rfl, rfl, _⟩ := hc
    exact ⟨⟨p.by_, false, deadRow p.S⟩, ⟨h1, rfl, rfl, rfl⟩, ⟨(fun t ht => by cases ht), List.nodup_nil⟩, Nat.zero_le _⟩
  | alter i' hv Hs =>
    obtain ⟨h1, h2, rfl, Q, hg, hm, _⟩ := hc
    have hst := made_hsteps hm hg (nodup_of_map (cids_framed h hz)) (fresh_framed h hi hiz)
    have hbr : Hs.flatMap (·.Br) = brAll i (cutAll text) n Q := made_brings Q Hs n hm
    have hfr := hst.framed
    rw [hfr] at hst
    refine ⟨⟨p.by_, true, midRow (fSeq (framed p.S) (qbOf Q Hs) Hs.length)⟩, ⟨h1, rfl, fun e => ?_, rfl, rfl, hst⟩, ⟨fun t ht => ?_, ?_⟩, ?_⟩
    · subst e
      have hQ : Q = [] := List.eq_nil_of_length_eq_zero (by have := hm.1; simpa using this.symm)
      subst hQ
      have := hg.gives (Nat.zero_le _) (Nat.zero_le _)
      rw [List.drop_zero] at this
      exact hdf h1 h2 (by rw [← this]; simp [laid])
    · have ht' : t ∈ Hs.flatMap (·.Br) := ht
      rw [hbr] at ht'
      obtain ⟨k1, k2, _⟩ := brAll_mem Q n t ht'
      exact ⟨k1, by omega⟩
    · show ((Hs.flatMap (·.Br)).map cid).Nodup
      rw [hbr]
      exact brAll_nodup Q n
    · show (Hs.flatMap (·.Br)).length ≤ _
      have k1 := brAll_len (i := i) (N := cutAll text) Q n
      have k2 := hg.num (Nat.zero_le _) (Nat.zero_le _) n
      rw [hbr]
      omega
end Go.Proofs.YtgdfipmdmgkidaaGreatDoor

/- A repository's patches, as they were recorded: what they make; a record, and a record that is taken back. -/
namespace Go.Proofs.YtgdfipmdmgkidaaGreatDoor
open Go.RowKit
theorem made_self {ids : List Pid} {p : PL} (h : CellsOK ids p) {i : Pid} (hi : i ∉ ids) (hiz : i ≠ zid) {n n' : Int} {there : Bool} {text : ByteArray} {c : ChM} (hc : ChMade p i n there text c n') : ¬ leansOn (namesOf c) i (killsOf c) := by
  rintro ⟨u, hu, k⟩
  obtain ⟨k1, k2⟩ := made_names h hc u hu
  rcases k with k | k
  · rcases k1 with q | q
    · exact hi (k ▸ q)
    · exact hiz (k.symm.trans q)
  · obtain ⟨j1, j2⟩ := made_kills h hc u k
    exact k2 j1 j2
theorem linesAt_mem {N : List ByteArray} {q : Quad} {l : ByteArray} (h : l ∈ linesAt N q) : l ∈ N := by
  unfold linesAt at h
  exact List.mem_of_mem_take (List.mem_of_mem_drop h)
theorem bring_line {i : Pid} {n : Int} {L : List ByteArray} {t : Spot} (h : t ∈ bring i n L) : t.line ∈ L := by
  have h1 : t.line ∈ rowLines (bring i n L) := by
    rw [rowLines_eq]
    exact List.mem_map.2 ⟨t, List.mem_filter.2 ⟨h, bring_alive i n L t h⟩, rfl⟩
  rwa [rowLines_bring] at h1
theorem made_lines {p : PL} {i : Pid} {n n' : Int} {there : Bool} {text : ByteArray} {c : ChM} (hc : ChMade p i n there text c n') : ∀ t ∈ brOf c, t.line ∈ cutAll text := by
  cases c with
  | add i' l rv S =>
    obtain ⟨_, _, _, rfl, _⟩ := hc
    exact fun t ht => bring_line ht
  | remove i' rv S => intro t ht; cases ht
  | alter i' hv Hs =>
    obtain ⟨_, _, _, Q, _, hm, _⟩ := hc
    intro t ht
    obtain ⟨h, hh, ht⟩ := List.mem_flatMap.1 ht
    obtain ⟨k, hk⟩ := List.mem_iff_getElem?.1 hh
    obtain ⟨q, _, _, e⟩ := hm.2 k h hk
    rw [e] at ht
    exact linesAt_mem (bring_line ht)
structure LightP (Ps : List PM) : Prop where
  few : ∀ P ∈ Ps, (brsP P).length ≤ 60
  line : ∀ P ∈ Ps, ∀ t ∈ brsP P, t.line.size ≤ 1000
def RepoG (Ps : List PM) (s : ByteArray → PL) : Prop := ∃ st cnt, Stands Ps st cnt ∧ st Ps.length 0 = s ∧ cnt Ps.length ≤ 50 * Ps.length ∧ GoodT Ps s ∧ Ps.length ≤ 40 ∧ (Ps.map (·.id)).Nodup ∧ Hist Ps s ∧ weight Ps ≤ 60 * Ps.length ∧ SmallP Ps ∧ LightP Ps
theorem RepoG.nil : RepoG [] (fun _ => pl0) :=
  ⟨fun _ _ _ => pl0, fun _ => 0, ⟨rfl, fun p P h => by simp at h, fun p P k c h => by simp at h, fun p P k c h => by simp at h, by simp, by simp, fun p P h => by simp at h, fun _ => Nat.zero_le _⟩, rfl, Nat.zero_le _, GoodT.nil, by simp, by simp, Hist.nil, Nat.zero_le _, ⟨by simp, by simp, by simp⟩, ⟨by simp, by simp⟩⟩
theorem RepoG.record {Ps : List PM} {s : ByteArray → PL} (h : RepoG Ps s) (hl : Ps.length < 40) {i : Pid} (hi : i ∉ Ps.map (·.id)) (hiz : i ≠ zid) {Fs : List Fl} {Cs : List (ByteArray × ChM)} {m : Nat → Int} (hF : ∀ g ∈ Fs, FlGood s g) (hn : ∀ g ∈ Fs, g.name.size ≤ 1000) (hM : MadeAll s i Fs Cs m) (hnd : (Fs.map (·.name)).Nodup) (hFs : Fs.length ≤ 3) (hdf : ∀ g ∈ Fs, (s g.name).alive = true → g.there = true → rowLines (s g.name).S ≠ cutAll g.text) (cv : Value) :
    ∃ s', RepoG (Ps ++ [⟨i, cv, Cs⟩]) s' ∧ (∀ g ∈ Fs, (s' g.name).alive = g.there ∧ (g.there = true → rowLines (s' g.name).S = cutAll g.text)) ∧ (∀ x, (∀ g ∈ Fs, g.name ≠ x) → s' x = s x) ∧ leaveR (Ps ++ [⟨i, cv, Cs⟩]) i = (⟨#[]⟩, 0) ∧ ((Ps ++ [(⟨i, cv, Cs⟩ : PM)]).filter fun P => !decide (P.id = i)) = Ps := by
  obtain ⟨st, cnt, hS, hs, hc, hG, hPl40, hids, hHist, hWt, hSm, hLi⟩ := h
  have hname : ∀ (k : Nat) (c : ByteArray × ChM), Cs[k]? = some c → ∃ g, Fs[k]? = some g ∧ c.1 = g.name := fun k c hk => by
    have hkF : k < Fs.length := by rw [← hM.len]; exact (List.getElem?_eq_some_iff.1 hk).1
    exact ⟨_, List.getElem?_eq_getElem hkF, (hM.at_ k _ c (List.getElem?_eq_getElem hkF) hk).1⟩
  have hnd2 : (Cs.map (·.1)).Nodup := by
    have e : Cs.map (·.1) = Fs.map (·.name) := by
      apply List.ext_getElem?
      intro k
      rw [List.getElem?_map, List.getElem?_map]
      cases hk : Cs[k]? with
      | none =>
        have : Fs.length ≤ k := by rw [← hM.len]; exact List.getElem?_eq_none_iff.1 hk
        rw [List.getElem?_eq_none this]
        rfl
      | some c =>
        obtain ⟨g, hg, e⟩ := hname k c hk
        rw [hg]
        simp [e]
    rw [e]
    exact hnd
  obtain ⟨P', h1, h2, h3, h4, h5⟩ := good_record hG hl hi hiz hF hM hnd2 (by omega) cv
  have hCl3 : Cs.length ≤ 3 := by rw [hM.len]; exact hFs
  have hCl : Cs.length ≤ 50 := by omega
  have hmade : ∀ (k : Nat) (c : ByteArray × ChM), Cs[k]? = some c → AppH i c.2 (s c.1) (stAt s Cs P' Cs.length c.1) ∧ ChWF i c.2 ∧ (brOf c.2).length ≤ 20 ∧ ¬ leansOn (namesOf c.2) i (killsOf c.2) ∧ ∀ t ∈ brOf c.2, t.line.size ≤ 1000 := fun k c hk => by
    obtain ⟨g, hgk, e⟩ := hname k c hk
    have hgm := List.mem_of_getElem? hgk
    obtain ⟨e1, hcm⟩ := hM.at_ k g c hgk hk
    have hl1 := hG.len g.name
    obtain ⟨p', a1, a2, a3⟩ := made_app (hG.cells g.name) hi hG.noz hiz (hM.pos k (by have := (List.getElem?_eq_some_iff.1 hk).1; omega)) hcm (hdf g hgm)
    have hlg := (hF g hgm).lines
    have hln := app_len a1
    have hsm : ChSmall c.2 := (h2.small ⟨i, cv, Cs⟩ (by simp)).2 c (List.mem_of_getElem? hk)
    have hap := app_apply a1 (hG.cells g.name) hG.noz hi hiz a2 hsm (by omega) (by omega)
    have hb1 := h1 k c hk
    have m1 : stAt s Cs P' k c.1 = s c.1 := stAt_miss fun j d hj hd e => by
      have := names_inj hnd2 hd hk e
      omega
    have hkl := (List.getElem?_eq_some_iff.1 hk).1
    have m2 : stAt s Cs P' (k + 1) c.1 = stAt s Cs P' Cs.length c.1 := by rw [stAt_hit hnd2 hk (by omega), stAt_hit hnd2 hk hkl]
    rw [m1, m2] at hb1
    rw [← e1] at hap a1
    have := hap.det hb1
    rw [this]
    exact ⟨a1, a2, by omega, made_self (hG.cells g.name) hi hiz hcm, fun t ht => (hF g hgm).lsz _ (made_lines hcm t ht)⟩
  have hnewH : Hist (Ps ++ [⟨i, cv, Cs⟩]) (stAt s Cs P' Cs.length) := by
    refine hHist.snoc (P := ⟨i, cv, Cs⟩) ⟨fun c hc' => ?_, fun x hx => ?_⟩ ⟨hnd2, fun c hc' => ?_, fun c hc' => ?_⟩ hi hiz
    · obtain ⟨k, hk⟩ := List.mem_iff_getElem?.1 hc'
      exact (hmade k c hk).1
    · exact stAt_miss fun j d _ hd => hx d (List.mem_of_getElem? hd)
    · obtain ⟨k, hk⟩ := List.mem_iff_getElem?.1 hc'
      exact (hmade k c hk).2.1
    · obtain ⟨k, hk⟩ := List.mem_iff_getElem?.1 hc'
      exact (hmade k c hk).2.2.2.1
  have k3 : (Cs.flatMap fun c => brOf c.2).length ≤ 20 * Cs.length := by
    have hb : ∀ L : List (ByteArray × ChM), (∀ c ∈ L, (brOf c.2).length ≤ 20) → (L.flatMap fun c => brOf c.2).length ≤ 20 * L.length := by
      intro L
      induction L with
      | nil => intro _; simp
      | cons c L ih =>
        intro hL
        have k1 := hL c (by simp)
        have k2 := ih (fun d hd => hL d (by simp [hd]))
        rw [List.flatMap_cons, List.length_append, List.length_cons]
        omega
    exact hb Cs (fun c hc' => by
      obtain ⟨k, hk⟩ := List.mem_iff_getElem?.1 hc'
      exact (hmade k c hk).2.2.1)
  have hnewL : LightP (Ps ++ [(⟨i, cv, Cs⟩ : PM)]) := by
    refine ⟨fun P hP => ?_, fun P hP t ht => ?_⟩
    · rcases List.mem_append.1 hP with hP | hP
      · exact hLi.few P hP
      · rw [List.mem_singleton.1 hP]
        show (Cs.flatMap fun c => brOf c.2).length ≤ 60
        omega
    · rcases List.mem_append.1 hP with hP | hP
      · exact hLi.line P hP t ht
      · rw [List.mem_singleton.1 hP] at ht
        obtain ⟨c, hc', ht⟩ := List.mem_flatMap.1 ht
        obtain ⟨k, hk⟩ := List.mem_iff_getElem?.1 hc'
        exact (hmade k c hk).2.2.2.2 t ht
  have hnewW : weight (Ps ++ [(⟨i, cv, Cs⟩ : PM)]) ≤ 60 * (Ps ++ [(⟨i, cv, Cs⟩ : PM)]).length := by
    rw [weight_app, List.length_append]
    have k4 : weight [(⟨i, cv, Cs⟩ : PM)] = (Cs.flatMap fun c => brOf c.2).length := by simp [weight, brsP]
    simp only [List.length_singleton]
    omega
  have hnewS : SmallP (Ps ++ [(⟨i, cv, Cs⟩ : PM)]) := by
    refine ⟨fun P hP => ?_, fun P hP c hc' => ?_, fun P hP c hc' => (h2.small P hP).2 c hc'⟩
    · rcases List.mem_append.1 hP with hP | hP
      · exact hSm.few P hP
      · rw [List.mem_singleton.1 hP]; exact hCl
    · rcases List.mem_append.1 hP with hP | hP
      · exact hSm.names P hP c hc'
      · rw [List.mem_singleton.1 hP] at hc'
        obtain ⟨k, hk⟩ := List.mem_iff_getElem?.1 hc'
        obtain ⟨g, hg, e⟩ := hname k c hk
        rw [e]
        exact hn g (List.mem_of_getElem? hg)
  refine ⟨stAt s Cs P' Cs.length, ⟨fun p k => if p < Ps.length then st p k else if p = Ps.length then stAt s Cs P' k else stAt s Cs P' Cs.length, fun p => if p ≤ Ps.length then cnt p else cnt Ps.length + Cs.length, ⟨?_, fun p P hP => ?_, fun p P k c hP hk x hx => ?_, fun p P k c hP hk => ?_, fun P hP c hc' => ?_, fun P hP => ?_, fun p P hP => ?_, fun p => ?_⟩, ?_, ?_, h2, by simp; omega, ?_, hnewH, hnewW, hnewS, hnewL⟩, fun g hg => ?_, h4, ?_, ?_⟩
  · by_cases e : 0 < Ps.length
    · simp only [if_pos e]
      exact hS.start
    · have e0 : Ps.length = 0 := by omega
      simp only [e0]
      simp only [Nat.lt_irrefl, if_false, if_true]
      rw [stAt_zero, ← hs, e0]
      exact hS.start
  · by_cases e : p < Ps.length
    · rw [List.getElem?_append_left e] at hP
      simp only [if_pos e]
      by_cases e2 : p + 1 < Ps.length
      · simp only [if_pos e2]
        exact hS.next p P hP
      · have e3 : p + 1 = Ps.length := by omega
        simp only [if_neg e2, if_pos e3]
        rw [stAt_zero, ← hs, ← e3]
        exact hS.next p P hP
    · have e2 : p = Ps.length := by
        have := (List.getElem?_eq_some_iff.1 hP).1
        simp at this
        omega
      subst e2
      rw [List.getElem?_append_right (Nat.le_refl _), Nat.sub_self] at hP
      cases hP
      simp
      omega
  · by_cases e : p < Ps.length
    · rw [List.getElem?_append_left e] at hP
      simp only [if_pos e]
      exact hS.other p P k c hP hk x hx
    · have e2 : p = Ps.length := by
        have := (List.getElem?_eq_some_iff.1 hP).1
        simp at this
        omega
      subst e2
      rw [List.getElem?_append_right (Nat.le_refl _), Nat.sub_self] at hP
      cases hP
      simp only [Nat.lt_irrefl, if_false, if_true]
      simp only at hk
      unfold stAt
      rw [List.take_add_one, hk]
      simp only [Option.toList_some, List.findIdx?_append]
      have : ([c].findIdx? fun d => decide (d.1 = x)) = none := by
        simp [List.findIdx?_cons, Ne.symm hx]
      rw [this]
      simp
  · by_cases e : p < Ps.length
    · rw [List.getElem?_append_left e] at hP
      simp only [if_pos e]
      exact hS.app p P k c hP hk
    · have e2 : p = Ps.length := by
        have := (List.getElem?_eq_some_iff.1 hP).1
        simp at this
        omega
      subst e2
      rw [List.getElem?_append_right (Nat.le_refl _), Nat.sub_self] at hP
      cases hP
      simp only [Nat.lt_irrefl, if_false, if_true]
      exact h1 k c hk
  · rcases List.mem_append.1 hP with hP | hP
    · exact hS.names P hP c hc'
    · rw [List.mem_singleton.1 hP] at hc'
      obtain ⟨k, hk⟩ := List.mem_iff_getElem?.1 hc'
      obtain ⟨g, hg, e⟩ := hname k c hk
      rw [e]
      exact hn g (List.mem_of_getElem? hg)
  · rcases List.mem_append.1 hP with hP | hP
    · exact hS.few P hP
    · rw [List.mem_singleton.1 hP]
      show Cs.length ≤ 1000
      omega
  · by_cases e : p < Ps.length
    · rw [List.getElem?_append_left e] at hP
      simp only [if_pos (show p + 1 ≤ Ps.length by omega), if_pos (show p ≤ Ps.length by omega)]
      exact hS.count p P hP
    · have e2 : p = Ps.length := by
        have := (List.getElem?_eq_some_iff.1 hP).1
        simp at this
        omega
      subst e2
      rw [List.getElem?_append_right (Nat.le_refl _), Nat.sub_self] at hP
      cases hP
      simp
      omega
  · show (if p ≤ Ps.length then cnt p else cnt Ps.length + Cs.length) ≤ 100000
    split
    · exact hS.small p
    · omega
  · simp
    omega
  · simp only [List.length_append, List.length_singleton, if_neg (show ¬ Ps.length + 1 ≤ Ps.length by omega)]
    omega
  · simp only [List.map_append, List.map_cons, List.map_nil, List.nodup_append]
    exact ⟨hids, by simp, fun a ha b hb e => by rw [List.mem_singleton] at hb; subst hb; exact hi (e ▸ ha)⟩
  · obtain ⟨k, hk⟩ := List.mem_iff_getElem?.1 hg
    exact h3 k g hk
  · have hold : ∀ P ∈ Ps, ¬ (P.id = i) := fun P hP e => hi (e ▸ List.mem_map.2 ⟨P, hP, rfl⟩)
    have f1 : ((Ps ++ [(⟨i, cv, Cs⟩ : PM)]).find? fun P => decide (P.id = i)) = some ⟨i, cv, Cs⟩ := by
      rw [List.find?_append]
      have : (Ps.find? fun P => decide (P.id = i)) = none := by
        rw [List.find?_eq_none]
        intro P hP
        simpa using hold P hP
      rw [this]
      simp
    have f2 : ((Ps ++ [(⟨i, cv, Cs⟩ : PM)]).find? fun Q => needsP Q ⟨i, cv, Cs⟩) = none := by
      rw [List.find?_eq_none]
      intro Q hQ
      rw [h5 Q hQ]
      simp
    unfold leaveR
    rw [f1]
    simp only
    rw [f2]
  · rw [List.filter_append]
    have : (Ps.filter fun P : PM => !decide (P.id = i)) = Ps := by
      rw [List.filter_eq_self]
      intro P hP
      have : P.id ≠ i := fun e => hi (e ▸ List.mem_map.2 ⟨P, hP, rfl⟩)
      simpa using this
    rw [this]
    simp
end Go.Proofs.YtgdfipmdmgkidaaGreatDoor

/- Mathematics: how a change that is made now is told: by the texts alone, whatever its id. -/
namespace Go.Proofs.YtgdfipmdmgkidaaGreatDoor
open Go.RowKit
section
variable {S : List Spot} {N : List ByteArray} {i : Pid} {n : Int} {Q : List Quad} {Hs : List Hk}
theorem made_tells2 (name : ByteArray) (hname : name.size ≤ 1000) (hm : Made (framed S) i n N Q Hs) (hg : GapsR (rowLines S) N 0 0 Q) (hF : (framed S).Nodup) (hS : S.length ≤ 9000) (hN : N.length ≤ 400) (h98 : (rowLines S).length < 98) (hlo : ∀ l ∈ rowLines S, l.size ≤ 1000) (hln : ∀ l ∈ N, l.size ≤ 1000) :
    Tells (framed S) Hs (gSeq name (rowLines S) N Q) := by
  have ho := hg.ord (Nat.zero_le _) (Nat.zero_le _)
  have hok := hg.ok (Nat.zero_le _) (Nat.zero_le _)
  have hlen := ho.len
  have hrl := rowLines_len S
  have hlf := living_framed S
  have hQH : Hs.length = Q.length := hm.1
  have hFl : (framed S).length = S.length + 2 := by simp [framed]
  refine ⟨fun k h hk => ?_, fun k hk => ?_⟩
  · obtain ⟨q, e1, e2, e3, e4⟩ := qb_at hm hk
    obtain ⟨o1, o2, o3, o4⟩ := hok q (List.mem_of_getElem? e1)
    have hqi : q.i < (living (framed S)).length := by omega
    have hqk : q.k + 1 < (living (framed S)).length := by omega
    have a2 := living_lt (framed S) (show q.i < q.k + 1 by omega) hqk
    have a3 := living_in (framed S) hqk
    have ea : (living (framed S)).getD q.i 0 = (living (framed S))[q.i] := getD_living _ hqi
    have eb : (living (framed S)).getD (q.k + 1) 0 = (living (framed S))[q.k + 1] := getD_living _ hqk
    have hN0 : (namedOf (framed S) q)[0]? = some ((framed S)[(living (framed S))[q.i]]'(by omega)) := by
      unfold namedOf
      rw [ea, eb, List.getElem?_drop, List.getElem?_take_of_lt (by omega), List.getElem?_eq_getElem (by omega)]
      rfl
    have hnl : (namedOf (framed S) q).length = (living (framed S))[q.k + 1] + 1 - (living (framed S))[q.i] := by
      unfold namedOf
      rw [ea, eb]
      simp
      omega
    have hidx := idx_at (P := []) hF (Nat.zero_le _) (show (living (framed S))[q.i] < (framed S).length by omega) (by simp)
    simp only [List.nil_append, List.drop_zero, List.length_nil, Nat.zero_add, Nat.sub_zero] at hidx
    have hkl := killed_lines S q o1 o2
    have hbl : rowLines h.Br = linesAt N q := by rw [e4, rowLines_bring]
    have hcnt := ahead_count (framed S) hqi
    have hml : (midRow (namedOf (framed S) q)).length ≤ (namedOf (framed S) q).length := by unfold midRow; simp; omega
    refine ⟨_, _, by rw [e3]; exact hN0, hidx, by omega, by rw [e3, hnl]; omega, ⟨by rw [e3]; omega, fun l hl => ?_⟩, ⟨by rw [e4, bring_len]; have := linesAt_len N q; omega, fun l hl => ?_⟩, by rw [e3, hnl]; omega, by rw [hcnt]; omega, ?_⟩
    · rw [e3, hkl] at hl
      exact hlo l (List.mem_of_mem_take (List.mem_of_mem_drop hl))
    · rw [hbl] at hl
      exact hln l (List.mem_of_mem_take (List.mem_of_mem_drop hl))
    · rw [hTell_cat (O := rowLines S) (T := N) (q := q) hcnt (by rw [e3]; exact hkl) hbl]
      obtain ⟨hkQ, hke⟩ := List.getElem?_eq_some_iff.1 e1
      unfold gSeq
      rw [List.take_succ_eq_append_getElem hkQ, List.flatMap_append, catB_app, hke, List.flatMap_cons, List.flatMap_nil, List.append_nil, app_assoc]
  · have hall : ∀ R : List Quad, (∀ q ∈ R, q ∈ Q) → (catB (R.flatMap (hunkL (rowLines S) N))).size ≤ R.length * 1000000 := by
      intro R
      induction R with
      | nil => intro _; simp [catB, ByteArray.size]
      | cons q R ih =>
        intro hR
        rw [List.flatMap_cons, catB_app, ByteArray.size_append, List.length_cons, Nat.add_mul]
        have := ih (fun x hx => hR x (by simp [hx]))
        have := hunk_size (q := q) hlo hln (by omega) (by omega) (by have := hok q (hR q (by simp)); omega)
        omega
    have h1 := hall (Q.take k) (fun q hq => List.mem_of_mem_take hq)
    have h2 : (Q.take k).length ≤ 100 := by simp; omega
    have h3 : (Q.take k).length * 1000000 ≤ 100 * 1000000 := Nat.mul_le_mul_right _ h2
    unfold gSeq alterHead
    rw [ByteArray.size_append, ByteArray.size_append, ByteArray.size_append]
    have e7 : (⟨#[97, 108, 116, 101, 114, 32]⟩ : ByteArray).size = 6 := rfl
    have e8 : (⟨#[10]⟩ : ByteArray).size = 1 := rfl
    omega
end
def TellOf (p : PL) (there : Bool) (text name T : ByteArray) : Prop :=
  (p.alive = false ∧ T = addHead name ++ ⟨(tellL ⟨#[43]⟩ (cutAll text)).toArray⟩) ∨ (p.alive = true ∧ there = false ∧ T = removeHead name ++ tellB ⟨#[45]⟩ p.S) ∨
  (p.alive = true ∧ there = true ∧ ∃ Q, GapsR (rowLines p.S) (cutAll text) 0 0 Q ∧ T = alterHead name ++ catB (Q.flatMap (hunkL (rowLines p.S) (cutAll text))))
theorem told_len (mk : ByteArray) (hm : mk.size ≤ 10) (L : List ByteArray) (hl : L.length ≤ 20) (hz : ∀ l ∈ L, l.size ≤ 1000) : (tellL mk L).length ≤ 40000 := by
  have h := tellL_small mk hm L hz
  have : L.length * 2000 ≤ 20 * 2000 := Nat.mul_le_mul_right _ hl
  omega
theorem made_told {ids : List Pid} {p : PL} (h : CellsOK ids p) (hz : zid ∉ ids) {i : Pid} {n n' : Int} {there : Bool} {text : ByteArray} {c : ChM} (hc : ChMade p i n there text c n') (name : ByteArray) (hname : name.size ≤ 1000) (hS : p.S.length ≤ 900) (hR : (rowLines p.S).length ≤ 20) (hRz : ∀ l ∈ rowLines p.S, l.size ≤ 1000) (hN : (cutAll text).length ≤ 20) (hNz : ∀ l ∈ cutAll text, l.size ≤ 1000) :
    ∃ T, TellsP c name p T ∧ TellOf p there text name T ∧ T.size ≤ 1000000 ∧ 0 < T.size := by
  cases c with
  | add i' l rv S =>
    obtain ⟨h1, rfl, _, rfl, _⟩ := hc
    have e : tellB ⟨#[43]⟩ (bring i' n (cutAll text)) = ⟨(tellL ⟨#[43]⟩ (cutAll text)).toArray⟩ := by unfold tellB; rw [rowLines_bring]
    have hl := told_len ⟨#[43]⟩ (by decide) (cutAll text) hN hNz
    refine ⟨_, ⟨⟨by rw [bring_len]; omega, by rw [rowLines_bring]; exact hNz⟩, rfl⟩, .inl ⟨h1, by rw [e]⟩, ?_, ?_⟩
    · rw [e, ByteArray.size_append]
      have : (⟨(tellL ⟨#[43]⟩ (cutAll text)).toArray⟩ : ByteArray).size = (tellL ⟨#[43]⟩ (cutAll text)).length := by simp [ByteArray.size]
      have hh : (addHead name).size ≤ 1005 := by
        unfold addHead
        rw [ByteArray.size_append, ByteArray.size_append]
        have e1 : (⟨#[97, 100, 100, 32]⟩ : ByteArray).size = 4 := rfl
        have e2 : (⟨#[10]⟩ : ByteArray).size = 1 := rfl
        omega
      omega
    · rw [ByteArray.size_append]
      unfold addHead
      rw [ByteArray.size_append, ByteArray.size_append]
      have e1 : (⟨#[97, 100, 100, 32]⟩ : ByteArray).size = 4 := rfl
      omega
  | remove i' rv S =>
    obtain ⟨h1, h2, rfl, rfl, _⟩ := hc
    have hl := told_len ⟨#[45]⟩ (by decide) (rowLines p.S) hR hRz
    have e3 : (tellB ⟨#[45]⟩ p.S).size = (tellL ⟨#[45]⟩ (rowLines p.S)).length := by simp [tellB, ByteArray.size]
    refine ⟨_, ⟨⟨by omega, hRz⟩, rfl⟩, .inr (.inl ⟨h1, h2, rfl⟩), ?_, ?_⟩
    · rw [ByteArray.size_append]
      unfold removeHead
      rw [ByteArray.size_append, ByteArray.size_append]
      have e1 : (⟨#[114, 101, 109, 111, 118, 101, 32]⟩ : ByteArray).size = 7 := rfl
      have e2 : (⟨#[10]⟩ : ByteArray).size = 1 := rfl
      omega
    · rw [ByteArray.size_append]
      unfold removeHead
      rw [ByteArray.size_append, ByteArray.size_append]
      have e1 : (⟨#[114, 101, 109, 111, 118, 101, 32]⟩ : ByteArray).size = 7 := rfl
      omega
  | alter i' hv Hs =>
    obtain ⟨h1, h2, rfl, Q, hg, hm, _⟩ := hc
    have hF := nodup_of_map (cids_framed h hz)
    have ht := made_tells2 name hname hm hg hF (by omega) (by omega) (by omega) hRz hNz
    have hQ := hg.len (Nat.zero_le _) (Nat.zero_le _)
    have hok := hg.ok (Nat.zero_le _) (Nat.zero_le _)
    have hHs : Hs.length = Q.length := hm.1
    have e0 : gSeq name (rowLines p.S) (cutAll text) Q 0 = alterHead name := by
      unfold gSeq
      rw [List.take_zero, List.flatMap_nil, catB_nil]
      exact ByteArray.ext (by simp)
    have e1 : gSeq name (rowLines p.S) (cutAll text) Q Hs.length = alterHead name ++ catB (Q.flatMap (hunkL (rowLines p.S) (cutAll text))) := by
      unfold gSeq
      rw [hHs, List.take_length]
    refine ⟨_, ⟨gSeq name (rowLines p.S) (cutAll text) Q, e0, ht, e1.symm, by omega, by omega⟩, .inr (.inr ⟨h1, h2, Q, hg, rfl⟩), ?_, ?_⟩
    · have hall : ∀ R : List Quad, (∀ q ∈ R, q ∈ Q) → (catB (R.flatMap (hunkL (rowLines p.S) (cutAll text)))).size ≤ R.length * 45000 := by
        intro R
        induction R with
        | nil => intro _; simp [catB, ByteArray.size]
        | cons q R ih =>
          intro hRq
          rw [List.flatMap_cons, catB_app, ByteArray.size_append, List.length_cons, Nat.add_mul]
          have := ih (fun x hx => hRq x (by simp [hx]))
          have hq := hok q (hRq q (by simp))
          have hc2 := cat_size (hunkL (rowLines p.S) (cutAll text) q) 1003 (fun l hl => by
            unfold hunkL at hl
            rcases List.mem_cons.1 hl with rfl | hl
            · have := atA_size (n := q.i + 1) (by omega); omega
            · rcases List.mem_append.1 hl with hl | hl
              · obtain ⟨x, hx, rfl⟩ := List.mem_map.1 hl
                have := tlA_size 45 x
                have := hRz x (List.mem_of_mem_take (List.mem_of_mem_drop hx))
                omega
              · obtain ⟨x, hx, rfl⟩ := List.mem_map.1 hl
                have := tlA_size 43 x
                have := hNz x (List.mem_of_mem_take (List.mem_of_mem_drop hx))
                omega)
          have hlen : (hunkL (rowLines p.S) (cutAll text) q).length ≤ 41 := by
            unfold hunkL
            simp only [List.length_cons, List.length_append, List.length_map]
            have := linesAt_len (cutAll text) q
            have : (midOf (rowLines p.S) q.i q.k).length ≤ (rowLines p.S).length := by unfold midOf; simp; omega
            omega
          have : (hunkL (rowLines p.S) (cutAll text) q).length * 1003 ≤ 41 * 1003 := Nat.mul_le_mul_right _ hlen
          omega
      have h3 := hall Q (fun _ h => h)
      have h4 : Q.length * 45000 ≤ 21 * 45000 := Nat.mul_le_mul_right _ (by omega)
      rw [ByteArray.size_append]
      unfold alterHead
      rw [ByteArray.size_append, ByteArray.size_append]
      have e7 : (⟨#[97, 108, 116, 101, 114, 32]⟩ : ByteArray).size = 6 := rfl
      have e8 : (⟨#[10]⟩ : ByteArray).size = 1 := rfl
      omega
    · rw [ByteArray.size_append]
      unfold alterHead
      rw [ByteArray.size_append, ByteArray.size_append]
      have e7 : (⟨#[97, 108, 116, 101, 114, 32]⟩ : ByteArray).size = 6 := rfl
      omega
end Go.Proofs.YtgdfipmdmgkidaaGreatDoor
