/- Mathematics: a repository's files and what is kept, as the statement's scripts make them. -/
import Derived.Test.YtgdfipmdmgkidaaGreatDoorUreca
import Derived.Test.YtgdfipmdmgkidaaGreatDoorNplace
import Derived.Test.YtgdfipmdmgkidaaGreatDoorWcomm
namespace Go.Proofs.YtgdfipmdmgkidaaGreatDoor
open Go.RowKit

/-- Of a part of the patches all holds, too. -/
theorem Stands.pre {A C : List PM} {st : Nat → Nat → ByteArray → PL} {cnt : Nat → Nat} (h : Stands (A ++ C) st cnt) : Stands A st cnt := by
  have up : ∀ {p : Nat} {P : PM}, A[p]? = some P → (A ++ C)[p]? = some P := fun {p P} hp => by
    rw [List.getElem?_append_left (List.getElem?_eq_some_iff.1 hp).1]
    exact hp
  exact ⟨h.start, fun p P hP => h.next p P (up hP), fun p P k c hP hc => h.other p P k c (up hP) hc, fun p P k c hP hc => h.app p P k c (up hP) hc, fun P hP => h.names P (List.mem_append.2 (.inl hP)), fun P hP => h.few P (List.mem_append.2 (.inl hP)), fun p P hP => h.count p P (up hP), h.small⟩
theorem Stands.det {Ps : List PM} {st st' : Nat → Nat → ByteArray → PL} {cnt cnt' : Nat → Nat} (h : Stands Ps st cnt) (h' : Stands Ps st' cnt') : ∀ p, p ≤ Ps.length → st' p 0 = st p 0
  | 0, _ => by rw [h.start, h'.start]
  | p + 1, hp => by
    have hP : Ps[p]? = some Ps[p] := List.getElem?_eq_getElem (by omega)
    rw [h.next p _ hP, h'.next p _ hP]
    have : ∀ k, k ≤ Ps[p].Cs.length → st' p k = st p k := by
      intro k
      induction k with
      | zero => intro _; exact Stands.det h h' p (by omega)
      | succ k ih =>
        intro hk
        have hc : Ps[p].Cs[k]? = some Ps[p].Cs[k] := List.getElem?_eq_getElem (by omega)
        have e := ih (by omega)
        funext x
        by_cases hx : x = Ps[p].Cs[k].1
        · subst hx
          have a1 := h.app p _ k _ hP hc
          have a2 := h'.app p _ k _ hP hc
          rw [e] at a2
          exact a1.det a2
        · rw [h.other p _ k _ hP hc x hx, h'.other p _ k _ hP hc x hx, e]
    exact this _ (Nat.le_refl _)
/-- Each patch is told where it stands. -/
def ToldAll (Ps : List PM) : Prop := ∀ st cnt, Stands Ps st cnt → ∀ (p : Nat) (P : PM), Ps[p]? = some P → ∀ c ∈ P.Cs, ∃ t : ByteArray, TellsP c.2 c.1 (st p 0 c.1) t ∧ t.size ≤ 1000000
structure FS (Ps : List PM) (f : ByteArray → Option ByteArray) (s : ByteArray → PL) : Prop where
  rep : RepoG Ps s
  fnm : ∀ x t, f x = some t → x ∈ names3 ∧ TX t
  snm : ∀ x, (s x).alive = true → x ∈ names3 ∧ TX (rowText (s x).S)
section
variable {Ps : List PM} {f : ByteArray → Option ByteArray} {s : ByteArray → PL}
theorem FS.good (h : FS Ps f s) : GoodT Ps s ∧ Ps.length ≤ 40 := by
  obtain ⟨_, _, _, _, _, h1, h2, _⟩ := h.rep
  exact ⟨h1, h2⟩
theorem FS.sizes (h : FS Ps f s) (x : ByteArray) : (s x).S.length ≤ 800 ∧ (rowLines (s x).S).length ≤ 20 ∧ (rowText (s x).S).size ≤ 20000 ∧ ∀ l ∈ rowLines (s x).S, l.size ≤ 1000 := by
  obtain ⟨hg, hl⟩ := h.good
  have h1 := hg.len x
  have h2 := hg.lines x
  have h3 := cat_size _ 1000 (hg.lsz x)
  have h4 : (rowLines (s x).S).length * 1000 ≤ 20 * 1000 := Nat.mul_le_mul_right _ h2
  refine ⟨by omega, h2, ?_, hg.lsz x⟩
  show (catB (rowLines (s x).S)).size ≤ 20000
  omega
theorem FS.some_ (h : FS Ps f s) {x : ByteArray} (hx : (f x).isSome = true) : ∃ t, f x = some t ∧ x ∈ names3 ∧ TX t := by
  obtain ⟨t, ht⟩ := Option.isSome_iff_exists.1 hx
  exact ⟨t, ht, h.fnm x t ht⟩
theorem empty_cut : cutAll ⟨#[]⟩ = [] := by decide +kernel
theorem FS.fl (h : FS Ps f s) (x : ByteArray) : ((f x).getD ⟨#[]⟩).size ≤ 240 ∧ (cutAll ((f x).getD ⟨#[]⟩)).length ≤ 16 ∧ ∀ l ∈ cutAll ((f x).getD ⟨#[]⟩), l.size ≤ 1000 := by
  cases hf : f x with
  | none =>
    show ((⟨#[]⟩ : ByteArray)).size ≤ 240 ∧ (cutAll ⟨#[]⟩).length ≤ 16 ∧ ∀ l ∈ cutAll ⟨#[]⟩, l.size ≤ 1000
    rw [empty_cut]
    exact ⟨by decide, by simp, by simp⟩
  | some t =>
    have ht := (h.fnm x t hf).2
    exact ⟨ht.1, ht.lines.1, ht.lines.2.1⟩
theorem FS.name (h : FS Ps f s) {x : ByteArray} (hx : x ∈ names3) : NameOK f s x := by
  obtain ⟨h1, h2, h3, h4⟩ := h.sizes x
  obtain ⟨k1, k2, k3⟩ := h.fl x
  have hs := (names3_ok x hx).2
  refine ⟨by omega, by omega, by omega, ?_⟩
  exact { name := by show x.size ≤ 1000; omega, text := by show ((f x).getD ⟨#[]⟩).size ≤ 10000; omega, lines := by show (cutAll ((f x).getD ⟨#[]⟩)).length ≤ 20; omega, row := by show (s x).S.length ≤ 9000; omega, living := by show (rowLines (s x).S).length ≤ 900; omega }
theorem FS.mem (h : FS Ps f s) {x : ByteArray} (hx : (f x).isSome = true ∨ (s x).alive = true) : x ∈ names3 := by
  rcases hx with hx | hx
  · obtain ⟨_, _, h1, _⟩ := h.some_ hx
    exact h1
  · exact (h.snm x hx).1
/-- The names of which there is something, rising. -/
def K0 (f : ByteArray → Option ByteArray) (s : ByteArray → PL) : List ByteArray := names3.filter fun x => (f x).isSome || (s x).alive
theorem FS.all (h : FS Ps f s) : AllOf f s (K0 f s) := by
  refine ⟨names3_srt.filter _, fun x => ?_⟩
  unfold K0
  rw [List.mem_filter, Bool.or_eq_true]
  exact ⟨fun a => a.2, fun a => ⟨h.mem a, a⟩⟩
theorem FS.all_eq (h : FS Ps f s) {K : List ByteArray} (hK : AllOf f s K) : K = K0 f s := Srt.ext hK.1 h.all.1 (fun x => by rw [hK.2, h.all.2])
theorem FS.recs (h : FS Ps f s) : RecOK f s := by
  refine ⟨fun x hx => h.name (h.mem hx), fun K h1 h2 => ?_⟩
  rw [h.all_eq ⟨h1, h2⟩]
  unfold K0
  exact Nat.le_trans (List.length_filter_le _ _) (by decide)

/-- Files that may be recorded. -/
structure FsOK (f : ByteArray → Option ByteArray) (s : ByteArray → PL) (Fs : List Fl) : Prop where
  each : ∀ g ∈ Fs, g = flOf f g.name ∧ g.name ∈ names3 ∧ ((f g.name).isSome = true ∨ (s g.name).alive = true)
  nd : (Fs.map (·.name)).Nodup
  few : Fs.length ≤ 3
  diff : ∀ g ∈ Fs, differs f s g.name = true
theorem chg_fs (h : FS Ps f s) {K : List ByteArray} (hs : Srt K) (hK : ∀ x ∈ K, (f x).isSome = true ∨ (s x).alive = true) (hl : K.length ≤ 3) : FsOK f s (chgOf f s K) := by
  refine ⟨fun g hg => ?_, ?_, ?_, fun g hg => ?_⟩
  · unfold chgOf at hg
    obtain ⟨x, hx, rfl⟩ := List.mem_map.1 hg
    have := hK x (List.mem_filter.1 hx).1
    exact ⟨rfl, h.mem this, this⟩
  · unfold chgOf
    rw [List.map_map]
    have e : ((fun g : Fl => g.name) ∘ flOf f) = id := rfl
    rw [e, List.map_id]
    have := hs.filter (differs f s)
    exact this.imp (fun {a b} hab e => by subst e; exact List.lt_irrefl _ hab)
  · unfold chgOf
    rw [List.length_map]
    exact Nat.le_trans (List.length_filter_le _ _) hl
  · unfold chgOf at hg
    obtain ⟨x, hx, rfl⟩ := List.mem_map.1 hg
    exact (List.mem_filter.1 hx).2
theorem FS.chg0 (h : FS Ps f s) : FsOK f s (chgOf f s (K0 f s)) := chg_fs h h.all.1 (fun x hx => (h.all.2 x).1 hx) (by unfold K0; exact Nat.le_trans (List.length_filter_le _ _) (by decide))
theorem FS.chg1 (h : FS Ps f s) {x : ByteArray} (hx : (f x).isSome = true ∨ (s x).alive = true) : FsOK f s (chgOf f s [x]) := chg_fs h (List.pairwise_singleton _ _) (fun y hy => by rw [List.mem_singleton] at hy; subst hy; exact hx) (by simp)
theorem FsOK.good {Fs : List Fl} (hF : FsOK f s Fs) (h : FS Ps f s) : ∀ g ∈ Fs, FlGood s g := fun g hg => by
  obtain ⟨e, h1, h2⟩ := hF.each g hg
  obtain ⟨_, k2, k3⟩ := h.fl g.name
  refine ⟨?_, fun ha => ?_, ?_⟩
  · rw [e]; show (cutAll ((f g.name).getD ⟨#[]⟩)).length ≤ 20; omega
  · rw [e]
    show (f g.name).isSome = true
    exact h2.resolve_right (by rw [ha]; simp)
  · rw [e]; exact k3

theorem FsOK.apart {Fs : List Fl} (hF : FsOK f s Fs) (h : FS Ps f s) : ∀ g ∈ Fs, (s g.name).alive = true → g.there = true → rowLines (s g.name).S ≠ cutAll g.text := fun g hg ha ht e => by
  obtain ⟨e1, _, _⟩ := hF.each g hg
  have hd := hF.diff g hg
  have hs : (f g.name).isSome = true := by rw [e1] at ht; exact ht
  obtain ⟨t, e2, _, hT⟩ := h.some_ hs
  have e3 : g.text = t := by rw [e1]; show (f g.name).getD ⟨#[]⟩ = t; rw [e2]; rfl
  have e4 : rowText (s g.name).S = t := by
    unfold rowText
    rw [e, e3]
    exact hT.lines.2.2
  have : differs f s g.name = false := by
    unfold differs flOf keptFl
    simp [ha, e2, e4]
  rw [this] at hd
  cases hd
/-- A patch is recorded. -/
theorem FS.record (h : FS Ps f s) (hl : Ps.length < 40) {i : Pid} (hi : i ∉ Ps.map (·.id)) (hiz : i ≠ zid) {Fs : List Fl} {Cs : List (ByteArray × ChM)} {m : Nat → Int} (hF : FsOK f s Fs) (hM : MadeAll s i Fs Cs m) (cv : Value) :
    ∃ s', FS (Ps ++ [⟨i, cv, Cs⟩]) f s' ∧ (∀ g ∈ Fs, (s' g.name).alive = g.there ∧ (g.there = true → rowText (s' g.name).S = g.text)) ∧ (∀ x, (∀ g ∈ Fs, g.name ≠ x) → s' x = s x) ∧ leaveR (Ps ++ [⟨i, cv, Cs⟩]) i = (⟨#[]⟩, 0) ∧ ((Ps ++ [(⟨i, cv, Cs⟩ : PM)]).filter fun P => !decide (P.id = i)) = Ps := by
  obtain ⟨s', h1, h2, h3, h4, h5⟩ := h.rep.record hl hi hiz (hF.good h) (fun g hg => by have := (names3_ok _ (hF.each g hg).2.1).2; omega) hM hF.nd hF.few (hF.apart h) cv
  have hg2 : ∀ g ∈ Fs, (s' g.name).alive = g.there ∧ (g.there = true → rowText (s' g.name).S = g.text ∧ TX g.text) := fun g hg => by
    obtain ⟨a, b⟩ := h2 g hg
    refine ⟨a, fun ht => ?_⟩
    obtain ⟨e, _, _⟩ := hF.each g hg
    have hs : (f g.name).isSome = true := by rw [e] at ht; exact ht
    obtain ⟨t, e2, _, hT⟩ := h.some_ hs
    have e3 : g.text = t := by rw [e]; show (f g.name).getD ⟨#[]⟩ = t; rw [e2]; rfl
    refine ⟨?_, by rw [e3]; exact hT⟩
    show catB (rowLines (s' g.name).S) = g.text
    rw [b ht, e3]
    exact hT.lines.2.2
  refine ⟨s', ⟨h1, h.fnm, fun x hx => ?_⟩, fun g hg => ⟨(hg2 g hg).1, fun ht => ((hg2 g hg).2 ht).1⟩, h3, h4, h5⟩
  by_cases hm : ∃ g ∈ Fs, g.name = x
  · obtain ⟨g, hg, rfl⟩ := hm
    obtain ⟨a, b⟩ := hg2 g hg
    rw [a] at hx
    obtain ⟨b1, b2⟩ := b hx
    exact ⟨(hF.each g hg).2.1, by rw [b1]; exact b2⟩
  · rw [h3 x (fun g hg e => hm ⟨g, hg, e⟩)] at hx ⊢
    exact h.snm x hx
theorem FS.told_next (h : FS Ps f s) (hT : ToldAll Ps) {i : Pid} {Fs : List Fl} {Cs : List (ByteArray × ChM)} {m : Nat → Int} (hF : FsOK f s Fs) (hM : MadeAll s i Fs Cs m) (cv : Value) : ToldAll (Ps ++ [⟨i, cv, Cs⟩]) := by
  intro st' cnt' hS' p P hP c hc
  by_cases hp : p < Ps.length
  · rw [List.getElem?_append_left hp] at hP
    exact hT st' cnt' hS'.pre p P hP c hc
  · have e2 : p = Ps.length := by
      have := (List.getElem?_eq_some_iff.1 hP).1
      simp at this
      omega
    subst e2
    rw [List.getElem?_append_right (Nat.le_refl _), Nat.sub_self] at hP
    cases hP
    obtain ⟨st, cnt, hS, hse, _⟩ := h.rep
    have e3 := hS.det hS'.pre Ps.length (Nat.le_refl _)
    rw [hse] at e3
    rw [e3]
    obtain ⟨k, hk⟩ := List.mem_iff_getElem?.1 hc
    have hkF : k < Fs.length := by rw [← hM.len]; exact (List.getElem?_eq_some_iff.1 hk).1
    obtain ⟨e1, hcm⟩ := hM.at_ k _ c (List.getElem?_eq_getElem hkF) hk
    have hG := hF.good h _ (List.getElem_mem hkF)
    obtain ⟨s1, s2, s3, s4⟩ := h.sizes Fs[k].name
    have hnm := (names3_ok _ (hF.each _ (List.getElem_mem hkF)).2.1).2
    obtain ⟨hg, _⟩ := h.good
    obtain ⟨T, t1, t2, t3, t4⟩ := made_told (hg.cells Fs[k].name) hg.noz hcm Fs[k].name (by omega) (by omega) s2 s4 hG.lines hG.lsz
    exact ⟨T, by rw [e1]; exact t1, t3⟩
theorem FS.put (h : FS Ps f s) {x t : ByteArray} (hx : x ∈ names3) (ht : TX t) : FS Ps (fun y => if y = x then some t else f y) s := by
  refine ⟨h.rep, fun y u hu => ?_, h.snm⟩
  by_cases e : y = x
  · subst e
    simp only [if_true, Option.some.injEq] at hu
    subst hu
    exact ⟨hx, ht⟩
  · simp only [if_neg e] at hu
    exact h.fnm y u hu
theorem FS.gone (h : FS Ps f s) (x : ByteArray) : FS Ps (fun y => if y = x then none else f y) s := by
  refine ⟨h.rep, fun y u hu => ?_, h.snm⟩
  by_cases e : y = x
  · simp [e] at hu
  · simp only [if_neg e] at hu
    exact h.fnm y u hu
theorem FS.revert (h : FS Ps f s) : FS Ps (keptO s) s := by
  refine ⟨h.rep, fun y u hu => ?_, h.snm⟩
  unfold keptO at hu
  split at hu
  · rename_i ha
    cases hu
    exact h.snm y ha
  · cases hu
theorem FS.nil : FS [] (fun _ => none) (fun _ => pl0) := ⟨RepoG.nil, fun x t h => (by cases h), fun x h => (by cases h)⟩
theorem ToldAll.nil : ToldAll [] := fun _ _ _ p P h => by simp at h
end

/-- How a change of files is told. -/
def ToldIs (s : ByteArray → PL) (Fs : List Fl) (T : ByteArray) : Prop := ∃ t : Nat → ByteArray, T = ⟨(toldTo t Fs.length).toArray⟩ ∧ ∀ k g, Fs[k]? = some g → TellOf (s g.name) g.there g.text g.name (t k) ∧ 0 < (t k).size
theorem toldTo_congr {t t' : Nat → ByteArray} : ∀ n, (∀ k, k < n → t k = t' k) → toldTo t n = toldTo t' n
  | 0, _ => rfl
  | n + 1, h => by
    show toldTo t n ++ (t n).data.toList = toldTo t' n ++ (t' n).data.toList
    rw [toldTo_congr n (fun k hk => h k (by omega)), h n (by omega)]
theorem ToldIs.det {s : ByteArray → PL} {Fs : List Fl} {T T' : ByteArray} (h : ToldIs s Fs T) (h' : ToldIs s Fs T') : T = T' := by
  obtain ⟨t, rfl, ht⟩ := h
  obtain ⟨t', rfl, ht'⟩ := h'
  rw [toldTo_congr Fs.length (fun k hk => ?_)]
  exact (ht k _ (List.getElem?_eq_getElem hk)).1.det (ht' k _ (List.getElem?_eq_getElem hk)).1
theorem ToldIs.nil {s : ByteArray → PL} {T : ByteArray} (h : ToldIs s [] T) : T = ⟨#[]⟩ := by
  obtain ⟨t, rfl, _⟩ := h
  rfl
theorem ToldIs.one {s : ByteArray → PL} {g : Fl} {T : ByteArray} (h : ToldIs s [g] T) : TellOf (s g.name) g.there g.text g.name T := by
  obtain ⟨t, rfl, ht⟩ := h
  have := (ht 0 g rfl).1
  have e : (⟨(toldTo t [g].length).toArray⟩ : ByteArray) = t 0 := told1 t
  rw [e]
  exact this
theorem ToldIs.ne {s : ByteArray → PL} {Fs : List Fl} {T : ByteArray} (h : ToldIs s Fs T) (hne : Fs ≠ []) : T ≠ ⟨#[]⟩ := by
  obtain ⟨t, rfl, ht⟩ := h
  intro e
  have hl : 0 < Fs.length := List.length_pos_iff.2 hne
  have h0 := (ht 0 _ (List.getElem?_eq_getElem hl)).2
  have hle : ∀ n, 0 < n → 0 < (toldTo t n).length := fun n => by
    induction n with
    | zero => intro h; omega
    | succ n ih =>
      intro _
      show 0 < (toldTo t n ++ (t n).data.toList).length
      rw [List.length_append]
      by_cases hn : n = 0
      · subst hn
        have : (t 0).data.toList.length = (t 0).size := rfl
        omega
      · have := ih (by omega)
        omega
  have h1 := hle Fs.length hl
  have h2 : (toldTo t Fs.length).toArray = #[] := congrArg ByteArray.data e
  have h3 : (toldTo t Fs.length).toArray.size = 0 := by rw [h2]; rfl
  simp at h3
  rw [h3] at h1
  exact absurd h1 (by simp)
theorem tellsP_det {c : ChM} {name : ByteArray} {p : PL} {T T' : ByteArray} (h : TellsP c name p T) (h' : TellsP c name p T') : T = T' := by
  cases c with
  | add i l rv S => rw [h.2, h'.2]
  | remove i rv S => rw [h.2, h'.2]
  | alter i hv Hs =>
    obtain ⟨g, g0, g1, g2, _⟩ := h
    obtain ⟨k, k0, k1, k2, _⟩ := h'
    have : ∀ j, j ≤ Hs.length → g j = k j := by
      intro j
      induction j with
      | zero => intro _; rw [g0, k0]
      | succ j ih =>
        intro hj
        have hh : Hs[j]? = some Hs[j] := List.getElem?_eq_getElem (by omega)
        obtain ⟨t, q, a1, a2, _, _, _, _, _, _, a3⟩ := g1.step j _ hh
        obtain ⟨t', q', b1, b2, _, _, _, _, _, _, b3⟩ := k1.step j _ hh
        rw [a1] at b1
        cases b1
        rw [a2] at b2
        cases b2
        rw [a3, b3, ih (by omega)]
    rw [g2, k2, this _ (Nat.le_refl _)]
theorem FS.tells {Ps : List PM} {f : ByteArray → Option ByteArray} {s : ByteArray → PL} (h : FS Ps f s) {i : Pid} {Fs : List Fl} {Cs : List (ByteArray × ChM)} {m : Nat → Int} (hF : FsOK f s Fs) (hM : MadeAll s i Fs Cs m) :
    (∃ t : Nat → ByteArray, (∀ k c, Cs[k]? = some c → TellsP c.2 c.1 (s c.1) (t k)) ∧ ∀ k, (t k).size ≤ 1000000) ∧ ∀ t : Nat → ByteArray, (∀ k c, Cs[k]? = some c → TellsP c.2 c.1 (s c.1) (t k)) → ToldIs s Fs ⟨(toldTo t Cs.length).toArray⟩ := by
  obtain ⟨hg, hl⟩ := h.good
  have each : ∀ (k : Nat) (c : ByteArray × ChM), Cs[k]? = some c → ∃ g T, Fs[k]? = some g ∧ c.1 = g.name ∧ TellsP c.2 c.1 (s c.1) T ∧ TellOf (s g.name) g.there g.text g.name T ∧ T.size ≤ 1000000 ∧ 0 < T.size := fun k c hk => by
    have hkF : k < Fs.length := by rw [← hM.len]; exact (List.getElem?_eq_some_iff.1 hk).1
    have hgk := List.getElem?_eq_getElem hkF
    obtain ⟨e1, hc⟩ := hM.at_ k _ c hgk hk
    have hG := hF.good h _ (List.getElem_mem hkF)
    obtain ⟨s1, s2, s3, s4⟩ := h.sizes Fs[k].name
    have hnm := (names3_ok _ (hF.each _ (List.getElem_mem hkF)).2.1).2
    obtain ⟨T, t1, t2, t3, t4⟩ := made_told (hg.cells Fs[k].name) hg.noz hc Fs[k].name (by omega) (by omega) s2 s4 hG.lines hG.lsz
    exact ⟨_, T, hgk, e1, by rw [e1]; exact t1, t2, t3, t4⟩
  constructor
  · have : ∀ k : Nat, ∃ T : ByteArray, (∀ c, Cs[k]? = some c → TellsP c.2 c.1 (s c.1) T) ∧ T.size ≤ 1000000 := fun k => by
      cases hk : Cs[k]? with
      | none => exact ⟨⟨#[]⟩, fun c hc => (by cases hc), by decide⟩
      | some c =>
        obtain ⟨_, T, _, _, h1, _, h2, _⟩ := each k c hk
        exact ⟨T, fun c' hc' => by cases hc'; exact h1, h2⟩
    exact ⟨fun k => (this k).choose, fun k c hk => (this k).choose_spec.1 c hk, fun k => (this k).choose_spec.2⟩
  · intro t ht
    refine ⟨t, by rw [hM.len], fun k g hk => ?_⟩
    have hkC : k < Cs.length := by rw [hM.len]; exact (List.getElem?_eq_some_iff.1 hk).1
    obtain ⟨g', T, hg', e1, h1, h2, _, h4⟩ := each k _ (List.getElem?_eq_getElem hkC)
    rw [hk] at hg'
    cases hg'
    have := tellsP_det (ht k _ (List.getElem?_eq_getElem hkC)) h1
    rw [this]
    exact ⟨h2, h4⟩
end Go.Proofs.YtgdfipmdmgkidaaGreatDoor

/- Two neighbours in a list of patches change places. -/
namespace Go.Proofs.YtgdfipmdmgkidaaGreatDoor
open Go.RowKit

set_option maxRecDepth 100000 in
set_option maxHeartbeats 6400000 in
theorem rev130_two (L : List PM) (k g base cap vc : Nat) (P Q : PM) (w : World) (ho : w.ownsRow base 149 5 (.slice (some ⟨g, 0, none⟩) L.length cap) L.length (pmCells L)) (hP : L[k]? = some P) (hQ : L[k + 1]? = some Q) (hp : ∃ a n c, P.cv = .slice a n c) (hq : ∃ a n c, Q.cv = .slice a n c) (_hvc : 2 ≤ vc) :
    Calls Tryz.prog 130 #[.slice (some ⟨g, k * 5, none⟩) 2 vc] w fun e w' => e = .returned (.tuple #[]) ∧ w'.ownsRow base 149 5 (.slice (some ⟨g, 0, none⟩) L.length cap) L.length (pmCells ((L.set k Q).set (k + 1) P)) ∧ w.grownBy w' (some g) := by
  obtain ⟨p0, p1, p2, p3, p4⟩ := pm_at ho hP
  obtain ⟨q0, q1, q2, q3, q4⟩ := pm_at ho hQ
  obtain ⟨pa, pn, pc, hpv⟩ := hp
  obtain ⟨qa, qn, qc, hqv⟩ := hq
  rw [hpv] at p4
  rw [hqv] at q4
  have e5 : (k + 1) * 5 = k * 5 + 5 := by omega
  rw [e5] at q0 q1 q2 q3 q4
  clear e5
  have fz := fun x => World.ownsRow.frozenAt ho x
  have f0 := fz (k * 5)
  have f1 := fz (k * 5 + 1)
  have f2 := fz (k * 5 + 2)
  have f3 := fz (k * 5 + 3)
  have f4 := fz (k * 5 + 4)
  have g0 := fz (k * 5 + 5)
  have g1 := fz (k * 5 + 5 + 1)
  have g2 := fz (k * 5 + 5 + 2)
  have g3 := fz (k * 5 + 5 + 3)
  have g4 := fz (k * 5 + 5 + 4)
  have HO : Hid (w.ownsRow base 149 5 (.slice (some ⟨g, 0, none⟩) L.length cap) L.length (pmCells L)) := ho
  have HPV : Hid (P.cv = .slice pa pn pc) := hpv
  have HQV : Hid (Q.cv = .slice qa qn qc) := hqv
  have HK : Hid (k + 1 < L.length) := (List.getElem?_eq_some_iff.1 hQ).1
  clear ho fz hP hQ hpv hqv
  go_enter Tryz.func130, Tryz.ntmps130
  go_wp2_with fail
  go_loopw [2, 3] (fun i j wr => (i = .int .i64 0 ∧ j = .int .i64 1 ∧ wr = w) ∨ (i = .int .i64 1 ∧ j = .int .i64 0 ∧ Hid (wr.ownsRow base 149 5 (.slice (some ⟨g, 0, none⟩) L.length cap) L.length (pmCells ((L.set k Q).set (k + 1) P)) ∧ w.grownBy wr (some g)))) (fun i _ _ => 1 - (intOf i).toNat)
  case atStart => exact .inl ⟨rfl, rfl, rfl⟩
  case round =>
    rcases hrel with ⟨rfl, rfl, rfl⟩ | ⟨rfl, rfl, HF⟩
    · go_wp2_with fail
      go_region
      have HFIN : Hid (((((((((((wr.setCell ⟨g, k * 5, none⟩ (.int .u8 Q.id.a)).setCell ⟨g, k * 5 + 1, none⟩ (.int .u8 Q.id.b)).setCell ⟨g, k * 5 + 2, none⟩ (.int .u8 Q.id.c)).setCell ⟨g, k * 5 + 3, none⟩ (.int .u8 Q.id.d)).setCell ⟨g, k * 5 + 4, none⟩ (.slice qa qn qc)).setCell ⟨g, k * 5 + 5, none⟩ (.int .u8 P.id.a)).setCell ⟨g, k * 5 + 5 + 1, none⟩ (.int .u8 P.id.b)).setCell ⟨g, k * 5 + 5 + 2, none⟩ (.int .u8 P.id.c)).setCell ⟨g, k * 5 + 5 + 3, none⟩ (.int .u8 P.id.d)).setCell ⟨g, k * 5 + 5 + 4, none⟩ (.slice pa pn pc)).drew.ownsRow base 149 5 (.slice (some ⟨g, 0, none⟩) L.length cap) L.length (pmCells ((L.set k Q).set (k + 1) P)) ∧ wr.grownBy (((((((((((wr.setCell ⟨g, k * 5, none⟩ (.int .u8 Q.id.a)).setCell ⟨g, k * 5 + 1, none⟩ (.int .u8 Q.id.b)).setCell ⟨g, k * 5 + 2, none⟩ (.int .u8 Q.id.c)).setCell ⟨g, k * 5 + 3, none⟩ (.int .u8 Q.id.d)).setCell ⟨g, k * 5 + 4, none⟩ (.slice qa qn qc)).setCell ⟨g, k * 5 + 5, none⟩ (.int .u8 P.id.a)).setCell ⟨g, k * 5 + 5 + 1, none⟩ (.int .u8 P.id.b)).setCell ⟨g, k * 5 + 5 + 2, none⟩ (.int .u8 P.id.c)).setCell ⟨g, k * 5 + 5 + 3, none⟩ (.int .u8 P.id.d)).setCell ⟨g, k * 5 + 5 + 4, none⟩ (.slice pa pn pc)).drew) (some g)) := by
        have hk := HK.out
        obtain ⟨o1, r1⟩ := own_set5 (i := k) HO.out (by omega) Q rfl rfl rfl rfl rfl
        rw [HQV.out] at o1 r1
        have el : (L.set k Q).length = L.length := List.length_set
        rw [← el] at o1
        obtain ⟨o2, r2⟩ := own_set5 (i := k + 1) o1 (by rw [el]; exact hk) P rfl rfl rfl rfl rfl
        rw [HPV.out, show (k + 1) * 5 = k * 5 + 5 by omega, el] at o2
        rw [HPV.out, show (k + 1) * 5 = k * 5 + 5 by omega] at r2
        exact ⟨o2.drew, grown_trans (grown_trans r1 r2) (grown_of (Below.refl _ _).drew _)⟩
      clear HO
      generalize ((((((((((wr.setCell ⟨g, k * 5, none⟩ (.int .u8 Q.id.a)).setCell ⟨g, k * 5 + 1, none⟩ (.int .u8 Q.id.b)).setCell ⟨g, k * 5 + 2, none⟩ (.int .u8 Q.id.c)).setCell ⟨g, k * 5 + 3, none⟩ (.int .u8 Q.id.d)).setCell ⟨g, k * 5 + 4, none⟩ (.slice qa qn qc)).setCell ⟨g, k * 5 + 5, none⟩ (.int .u8 P.id.a)).setCell ⟨g, k * 5 + 5 + 1, none⟩ (.int .u8 P.id.b)).setCell ⟨g, k * 5 + 5 + 2, none⟩ (.int .u8 P.id.c)).setCell ⟨g, k * 5 + 5 + 3, none⟩ (.int .u8 P.id.d)).setCell ⟨g, k * 5 + 5 + 4, none⟩ (.slice pa pn pc)).drew = wz at *
      go_wp2
      go_roundw
      case rel => exact .inr ⟨rfl, rfl, HFIN⟩
      case measure => simp [intOf]
    · go_wp2_with fail
      refine bodyPost_end (results_none rfl _ _ _) rfl ?_
      exact ⟨rfl, HF.out⟩
end Go.Proofs.YtgdfipmdmgkidaaGreatDoor

/- The command swap: a patch changes places with the one right ahead of it. -/
namespace Go.Proofs.YtgdfipmdmgkidaaGreatDoor
open Go.RowKit

section
variable {w : World} {B pb rg cap gb : Nat} {pv : Value} {Ps : List PM} {fb fn : Nat} {f : ByteArray → Option ByteArray} {G : List Pid}
/-- The list of patches became another one of its own patches, where it lies. -/
theorem OneAt.turned {w1 w2 : World} (h1 : OneAt w1 B pb rg cap gb pv Ps fb fn f G) {Qs : List PM} (hg : w1.grownBy w2 pv.ownBlock) (hown : w2.ownsRow B 149 5 pv Qs.length (pmCells Qs)) (hsub : ∀ P ∈ Qs, P ∈ Ps) :
    OneAt w2 B pb rg cap gb pv Qs fb fn f G ∧ (∀ T : TypeId → Prop, ¬ T 149 → HeldT T w1 w2) ∧ Below B w1 w2 := by
  obtain ⟨l1, l2, l3, l4⟩ := h1.lts
  obtain ⟨A, hA, hA0, hA1⟩ := h1.row
  have tb : ∀ q, pv.ownBlock = some q → TB w1 q 149 := fun q hq => own_TB h1.own hq
  have ne : ∀ {k : Nat} {o : Obj}, w1.heap[k]? = some o → (∀ cs fz, o ≠ .cells cs 149 fz) → ∀ q, pv.ownBlock = some q → k ≠ q := fun hk ho q hq e => by
    subst e
    obtain ⟨cs, fz, hq2⟩ := tb _ hq
    rw [hk] at hq2
    injection hq2 with e
    exact ho cs fz e
  have far : ∀ k, k < w1.heap.size → (∀ q, pv.ownBlock = some q → k ≠ q) → w2.heap[k]? = w1.heap[k]? := fun k hk hq => hg.block k hk (fun e => hq k e.symm rfl)
  have heldT : ∀ T : TypeId → Prop, ¬ T 149 → HeldT T w1 w2 := fun T t1 => HeldT.of_grown hg (fun q hq => ⟨149, tb q hq, t1⟩)
  have held := heldT stuff (by simp [stuff])
  obtain ⟨es1, c1, m1⟩ := h1.given.map
  obtain ⟨es2, c2, m2⟩ := h1.files.map
  refine ⟨⟨h1.lo, (far pb l1 (ne h1.wb (fun cs fz e => by simp at e))).trans h1.wb, ⟨A, (far rg l2 (ne hA (fun cs fz e => by simp at e))).trans hA, hA0, hA1⟩, h1.given.same (far gb l3 (ne m1 (fun cs fz e => by cases e))), hown, fun Q hQ => (h1.chs Q (hsub Q hQ)).held held, h1.files.same (far fb l4 (ne m2 (fun cs fz e => by cases e))), h1.ne, h1.cap1⟩, heldT, ⟨hg.os, hg.tape, hg.output, hg.size, fun k hk => ?_⟩⟩
  by_cases hlt : k < w1.heap.size
  · refine far k hlt (fun q hq e => ?_)
    have := (h1.own.lt q hq).1
    omega
  · have h1' := h1.lo
    omega
/-- What is read of two neighbours. -/
structure PairS (g o : Nat) (P Q : Pid) (pv qv : Value) (w : World) : Prop where
  p0 : w.cell? ⟨g, o, none⟩ = some (.int .u8 P.a)
  p1 : w.cell? ⟨g, o + 1, none⟩ = some (.int .u8 P.b)
  p2 : w.cell? ⟨g, o + 2, none⟩ = some (.int .u8 P.c)
  p3 : w.cell? ⟨g, o + 3, none⟩ = some (.int .u8 P.d)
  p4 : w.cell? ⟨g, o + 4, none⟩ = some pv
  q0 : w.cell? ⟨g, o + 5, none⟩ = some (.int .u8 Q.a)
  q1 : w.cell? ⟨g, o + 5 + 1, none⟩ = some (.int .u8 Q.b)
  q2 : w.cell? ⟨g, o + 5 + 2, none⟩ = some (.int .u8 Q.c)
  q3 : w.cell? ⟨g, o + 5 + 3, none⟩ = some (.int .u8 Q.d)
  q4 : w.cell? ⟨g, o + 5 + 4, none⟩ = some qv
theorem find_at {A C : List PM} {P Q : PM} (hnd : ((A ++ P :: Q :: C).map (·.id)).Nodup) : ((A ++ P :: Q :: C).findIdx? fun R => decide (R.id = Q.id)) = some (A.length + 1) := by
  rw [List.findIdx?_eq_some_iff_getElem]
  have hl : A.length + 1 < (A ++ P :: Q :: C).length := by simp
  have hq : (A ++ P :: Q :: C)[A.length + 1] = Q := by simp
  refine ⟨hl, by rw [hq]; simp, fun j hj => ?_⟩
  simp only [decide_eq_true_eq]
  intro e
  have h1 : ((A ++ P :: Q :: C).map (·.id))[j]'(by simp at hl ⊢; omega) = ((A ++ P :: Q :: C).map (·.id))[A.length + 1]'(by simp) := by
    rw [List.getElem_map, List.getElem_map, hq, e]
  have := (List.getElem_inj hnd).1 h1
  omega
theorem CV.slice_ {w : World} {v : Value} {Cs : List (ByteArray × ChM)} (h : CV w v Cs) : ∃ a n c, v = .slice a n c := by
  obtain ⟨a, c, e, _⟩ := h
  exact ⟨a, _, c, e⟩
set_option maxRecDepth 100000 in
set_option maxHeartbeats 6400000 in
theorem OneAt.swap (h : OneAt w B pb rg cap gb pv Ps fb fn f G) (hB : B ≤ w.heap.size) {A C : List PM} {P Q : PM} (hPs : Ps = A ++ P :: Q :: C) (hnd : (Ps.map (·.id)).Nodup) (hl : Ps.length ≤ 10000) (hsm : ∀ P ∈ Ps, P.Cs.length ≤ 1000 ∧ ∀ d ∈ P.Cs, ChSmall d.2) :
    Calls Tryz.prog 75 #[.pointer (some ⟨rg, 0, none⟩), .agg #[.int .u8 Q.id.a, .int .u8 Q.id.b, .int .u8 Q.id.c, .int .u8 Q.id.d]] w fun e w' =>
      (needsP Q P = true ∧ e = .returned (.tuple #[.string (idText P.id), .int .i64 11]) ∧ Below w.heap.size w w') ∨ (needsP Q P = false ∧ e = .returned (.tuple #[.string ⟨#[]⟩, .int .i64 0]) ∧ OneAt w' B pb rg cap gb pv (A ++ Q :: P :: C) fb fn f G ∧ Below B w w' ∧ HeldT (fun t => t = 9 ∨ t = 53 ∨ t = 45) w w') := by
  obtain ⟨w1, hw1⟩ : ∃ w1, w1 = w.alloc (.cells #[.int .u8 Q.id.a, .int .u8 Q.id.b, .int .u8 Q.id.c, .int .u8 Q.id.d] 113) := ⟨_, rfl⟩
  have hb1 : Below w.heap.size w w1 := by rw [hw1]; exact (Below.refl _ _).alloc (Nat.le_refl _) _
  have hk1 := (MapKept.heap_alloc w (.cells #[.int .u8 Q.id.a, .int .u8 Q.id.b, .int .u8 Q.id.c, .int .u8 Q.id.d] 113)).1
  rw [← hw1] at hk1
  obtain ⟨i0, i1, i2, i3⟩ := cells4_at hk1
  have h1 := h.below hb1
  have hs1 := hb1.size
  have hPm : P ∈ Ps := by rw [hPs]; simp
  have hQm : Q ∈ Ps := by rw [hPs]; simp
  have hfind : (Ps.findIdx? fun R => decide (R.id = Q.id)) = some (A.length + 1) := by rw [hPs] at hnd ⊢; exact find_at hnd
  have hlen : Ps.length = A.length + C.length + 2 := by rw [hPs]; simp; omega
  have hgP : Ps[A.length]? = some P := by rw [hPs]; simp
  have hgQ : Ps[A.length + 1]? = some Q := by rw [hPs]; simp
  have HC : Hid (Calls Tryz.prog 122 #[.pointer (some ⟨rg, 0, none⟩), .agg #[.int .u8 Q.id.a, .int .u8 Q.id.b, .int .u8 Q.id.c, .int .u8 Q.id.d]] w1 fun e w' => e = .returned (.int .i64 (A.length + 1 : Nat)) ∧ Below w1.heap.size w1 w') := by
    have := place122_any Ps pv Q.id rg 0 w1 h1.view hl h1.r0 h1.lts.2.1
    rw [hfind] at this
    exact this
  obtain ⟨g, cp, hpv, hgB, hgs⟩ : ∃ g cp, pv = .slice (some ⟨g, 0, none⟩) Ps.length cp ∧ B ≤ g ∧ Ps.length ≤ cp := by
    obtain ⟨ao, cc, hv⟩ := own_shape h.own
    subst hv
    obtain ⟨g, rfl, k1, _⟩ := own_at h.own (by omega)
    exact ⟨g, cc, rfl, k1, own_cap h.own⟩
  subst hpv
  have HH1 : Hid (OneAt w1 B pb rg cap gb (.slice (some ⟨g, 0, none⟩) Ps.length cp) Ps fb fn f G) := h1
  have HB1 : Hid (Below w.heap.size w w1) := hb1
  have HSM : Hid ((P.Cs.length ≤ 1000 ∧ ∀ d ∈ P.Cs, ChSmall d.2) ∧ (Q.Cs.length ≤ 1000 ∧ ∀ d ∈ Q.Cs, ChSmall d.2)) := ⟨hsm P hPm, hsm Q hQm⟩
  have HPQ : Hid (P ∈ Ps ∧ Q ∈ Ps) := ⟨hPm, hQm⟩
  have HGP : Hid (Ps[A.length]? = some P) := hgP
  have HGQ : Hid (Ps[A.length + 1]? = some Q) := hgQ
  have HPS : Hid (Ps = A ++ P :: Q :: C) := hPs
  obtain ⟨n, hn⟩ : ∃ n, Ps.length = n := ⟨_, rfl⟩
  obtain ⟨k, hk⟩ : ∃ k, A.length = k := ⟨_, rfl⟩
  rw [hn] at hgs hl
  rw [hn, hk] at hlen
  rw [hk] at HC HGP HGQ
  have hkn : k + 2 ≤ n := by omega
  have HN : Hid (Ps.length = n) := hn
  have HKA : Hid (A.length = k) := hk
  clear h h1 hb1 hk1 hfind hPs hnd hsm hPm hQm hgP hgQ hlen hn hk
  go_enter Tryz.func75, Tryz.ntmps75
  go_wp2_with fail
  rw [← hw1]
  clear hw1
  go_wp2_with fail
  refine HC.out.mono ?_
  rintro e w2 ⟨rfl, hb2⟩
  clear HC i0 i1 i2 i3
  have h2 := HH1.out.below hb2
  have hs2 := hb2.size
  have HB2 : Hid (Below w.heap.size w w2) := HB1.out.trans (hb2.mono hs1)
  have HH2 : Hid (OneAt w2 B pb rg cap gb (.slice (some ⟨g, 0, none⟩) Ps.length cp) Ps fb fn f G) := h2
  have r0 := h2.r0
  rw [HN.out] at r0
  obtain ⟨pa, pn, pc, hpv⟩ := (h2.chs P HPQ.out.1).slice_
  obtain ⟨qa, qn, qc, hqv⟩ := (h2.chs Q HPQ.out.2).slice_
  have hpair : ∀ u, Below w2.heap.size w2 u → PairS g (k * 5) P.id Q.id (.slice pa pn pc) (.slice qa qn qc) u := fun u hu => by
    have ho := (h2.below hu).own
    obtain ⟨a0, a1, a2, a3, a4⟩ := pm_at ho HGP.out
    obtain ⟨b0, b1, b2, b3, b4⟩ := pm_at ho HGQ.out
    rw [show (k + 1) * 5 = k * 5 + 5 by omega] at b0 b1 b2 b3 b4
    rw [hpv] at a4
    rw [hqv] at b4
    exact ⟨a0, a1, a2, a3, a4, b0, b1, b2, b3, b4⟩
  have HPR : Hid (∀ u, Below w2.heap.size w2 u → PairS g (k * 5) P.id Q.id (.slice pa pn pc) (.slice qa qn qc) u) := hpair
  have HS0 : Hid (PairS g (k * 5) P.id Q.id (.slice pa pn pc) (.slice qa qn qc) w2.drew) := hpair _ (Below.refl _ _).drew
  have hd2 : Below w2.heap.size w2 w2.drew := (Below.refl _ _).drew
  have HND : Hid (Calls Tryz.prog 121 #[.agg #[.int .u8 Q.id.a, .int .u8 Q.id.b, .int .u8 Q.id.c, .int .u8 Q.id.d, .slice qa qn qc], .agg #[.int .u8 P.id.a, .int .u8 P.id.b, .int .u8 P.id.c, .int .u8 P.id.d, .slice pa pn pc]] w2.drew fun e w' => e = .returned (.bool (needsP Q P)) ∧ Below w2.drew.heap.size w2.drew w') := by
    have := needs121_any Q P w2.drew ((h2.below hd2).chs Q HPQ.out.2) HSM.out.2.2 ((h2.below hd2).chs P HPQ.out.1) HSM.out.1.2 HSM.out.2.1 HSM.out.1.1
    unfold pmV at this
    rw [hpv, hqv] at this
    exact this
  have HPV : Hid (P.cv = .slice pa pn pc) := hpv
  have HQV : Hid (Q.cv = .slice qa qn qc) := hqv
  have v0 : IntKind.i64.wrap (((k + 1 : Nat) : Int) - 1) = (k : Int) := by simp [IntKind.wrap, IntKind.signed, IntKind.bits]; omega
  have v1 : IntKind.i64.wrap (((k + 1 : Nat) : Int) + 1) = ((k + 2 : Nat) : Int) := by simp [IntKind.wrap, IntKind.signed, IntKind.bits]; omega
  have v2 : ((k + 2 : Nat) : Int) ≤ (cp : Int) := by omega
  have v3 : (k : Int) ≤ ((k + 2 : Nat) : Int) := by omega
  have v4 : ¬ cp = k := by omega
  clear hb2 h2 hpair hpv hqv hd2 HH1 HB1 HPQ HSM
  go_wp2_with fail
  rw [show k + 1 + 1 - k = 2 by omega]
  refine wp_region_Z (PairS g (k * 5) P.id Q.id (.slice pa pn pc) (.slice qa qn qc)) 99 (by kernel_rfl) ?_
  refine wpZ_take 0 _ (v := ?z0) rfl (by kernel_rfl) (by kernel_rfl) (by kernel_rfl) (fun _ _ _ h => h) (by kernel_rfl) (by decide) HS0.out rfl (fun w0 hS0 => ?hy) ?_
  case hy =>
    obtain ⟨s0, s1, s2, s3, s4, t0, t1, t2, t3, t4⟩ := hS0
    go_simp
    with_reducible rfl
  simp only [Act.put, List.setIfInBounds_toArray]
  refine wpZ_take 1 _ (v := ?z1) rfl (by kernel_rfl) (by kernel_rfl) (by kernel_rfl) (fun _ _ _ h => h) (by kernel_rfl) (by decide) HS0.out rfl (fun w0 hS0 => ?hy) ?_
  case hy =>
    obtain ⟨s0, s1, s2, s3, s4, t0, t1, t2, t3, t4⟩ := hS0
    go_simp
    with_reducible rfl
  simp only [Act.put]
  refine wpZ_take 2 _ (v := ?z2) rfl (by kernel_rfl) (by kernel_rfl) (by kernel_rfl) (fun _ _ _ h => h) (by kernel_rfl) (by decide) HS0.out rfl (fun w0 hS0 => ?hy) ?_
  case hy =>
    obtain ⟨s0, s1, s2, s3, s4, t0, t1, t2, t3, t4⟩ := hS0
    go_simp
    with_reducible rfl
  simp only [Act.put]
  refine wpZ_take 3 _ (v := ?z3) rfl (by kernel_rfl) (by kernel_rfl) (by kernel_rfl) (fun _ _ _ h => h) (by kernel_rfl) (by decide) HS0.out rfl (fun w0 hS0 => ?hy) ?_
  case hy =>
    obtain ⟨s0, s1, s2, s3, s4, t0, t1, t2, t3, t4⟩ := hS0
    go_simp
    with_reducible rfl
  simp only [Act.put]
  refine wpZ_take 4 _ (v := ?z4) rfl (by kernel_rfl) (by kernel_rfl) (by kernel_rfl) (fun _ _ _ h => h) (by kernel_rfl) (by decide) HS0.out rfl (fun w0 hS0 => ?hy) ?_
  case hy =>
    obtain ⟨s0, s1, s2, s3, s4, t0, t1, t2, t3, t4⟩ := hS0
    go_simp
    with_reducible rfl
  simp only [Act.put]
  refine wpZ_take 5 _ (v := ?z5) rfl (by kernel_rfl) (by kernel_rfl) (by kernel_rfl) (fun _ _ _ h => h) (by kernel_rfl) (by decide) HS0.out rfl (fun w0 hS0 => ?hy) ?_
  case hy =>
    obtain ⟨s0, s1, s2, s3, s4, t0, t1, t2, t3, t4⟩ := hS0
    go_simp
    with_reducible rfl
  simp only [Act.put]
  refine wpZ_one 6 _ rfl (by kernel_rfl) (fun KK hK => ?_)
  go_simp
  refine HND.out.mono ?_
  rintro e w3 ⟨rfl, hb3⟩
  dsimp only
  have hb23 : Below w2.heap.size w2 w3 := (Below.refl _ w2).drew.trans hb3
  have HS3 : Hid (PairS g (k * 5) P.id Q.id (.slice pa pn pc) (.slice qa qn qc) w3) := HPR.out w3 hb23
  refine hK.out _ _ (fun _ => HS3.out) ?_
  clear hK HND
  refine wpZ_done (by kernel_rfl) ?_ _
  have HB3 : Hid (Below w.heap.size w w3) := HB2.out.trans (hb23.mono (by omega))
  have HH3 : Hid (OneAt w3 B pb rg cap gb (.slice (some ⟨g, 0, none⟩) Ps.length cp) Ps fb fn f G) := HH2.out.below hb23
  clear hb23 hb3 HH2 HB2 HS0 HPR r0
  cases hnd : needsP Q P with
  | true =>
    have HS : Hid (Calls Tryz.prog 115 #[.agg #[.int .u8 P.id.a, .int .u8 P.id.b, .int .u8 P.id.c, .int .u8 P.id.d]] w3 fun e w' => e = .returned (.string (idText P.id)) ∧ Below w3.heap.size w3 w') := string115_any P.id w3
    obtain ⟨s0, s1, s2, s3, s4, t0, t1, t2, t3, t4⟩ := HS3.out
    go_wp2_with fail
    refine HS.out.mono ?_
    rintro e w4 ⟨rfl, hb4⟩
    go_wp2_with fail
    go_ret2
    exact .inl ⟨hnd, rfl, HB3.out.trans (hb4.mono HB3.out.size)⟩
  | false =>
    have HR : Hid (Calls Tryz.prog 130 #[.slice (some ⟨g, k * 5, none⟩) 2 (cp - k)] w3 fun e w' => e = .returned (.tuple #[]) ∧ OneAt w' B pb rg cap gb (.slice (some ⟨g, 0, none⟩) Ps.length cp) (A ++ Q :: P :: C) fb fn f G ∧ Below B w w' ∧ HeldT (fun t => t = 9 ∨ t = 53 ∨ t = 45) w w') := by
      refine (rev130_two Ps k g B cp (cp - k) P Q w3 HH3.out.own HGP.out HGQ.out ⟨_, _, _, HPV.out⟩ ⟨_, _, _, HQV.out⟩ (by omega)).mono ?_
      rintro e w' ⟨rfl, k1, k2⟩
      have e1 : (Ps.set k Q).set (k + 1) P = A ++ Q :: P :: C := by
        rw [HPS.out, ← HKA.out]
        simp
      have e2 : (A ++ Q :: P :: C).length = Ps.length := by rw [HPS.out]; simp
      rw [e1] at k1
      have k3 : w'.ownsRow B 149 5 (.slice (some ⟨g, 0, none⟩) Ps.length cp) (A ++ Q :: P :: C).length (pmCells (A ++ Q :: P :: C)) := by rw [e2]; exact k1
      obtain ⟨m1, m2, m3⟩ := HH3.out.turned k2 k3 (fun R hR => by
        rw [HPS.out]
        simp only [List.mem_append, List.mem_cons] at hR ⊢
        rcases hR with h | h | h | h
        · exact .inl h
        · exact .inr (.inr (.inl h))
        · exact .inr (.inl h)
        · exact .inr (.inr (.inr h)))
      exact ⟨rfl, m1, (HB3.out.mono hB).trans m3, (HeldT.of_below HB3.out).trans (m2 _ (by decide))⟩
    clear HS3 HH3 HB3
    go_wp2_with fail
    refine HR.out.mono ?_
    rintro e w4 ⟨rfl, m1, m2, m3⟩
    have HM : Hid (OneAt w4 B pb rg cap gb (.slice (some ⟨g, 0, none⟩) Ps.length cp) (A ++ Q :: P :: C) fb fn f G ∧ Below B w w4 ∧ HeldT (fun t => t = 9 ∨ t = 53 ∨ t = 45) w w4) := ⟨m1, m2, m3⟩
    clear m1 m2 m3 HR
    go_wp2_with fail
    go_ret2
    exact .inr ⟨hnd, rfl, HM.out⟩
end
end Go.Proofs.YtgdfipmdmgkidaaGreatDoor
