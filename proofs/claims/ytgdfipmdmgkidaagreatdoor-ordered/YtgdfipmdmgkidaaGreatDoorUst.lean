/- Mathematics: a repository's files and what is kept, as the statement's scripts make them. -/
import Derived.Test.YtgdfipmdmgkidaaGreatDoorUrecx
import Derived.Test.YtgdfipmdmgkidaaGreatDoorUfk
import Derived.Test.YtgdfipmdmgkidaaGreatDoorUcar
namespace Go.Proofs.YtgdfipmdmgkidaaGreatDoor
open Go.RowKit

/-- Of a part of the patches all holds, too. -/
theorem Stands.pre {A C : List PM} {st : Nat → Nat → ByteArray → PL} {cnt : Nat → Nat} (h : Stands (A ++ C) st cnt) : Stands A st cnt := by
  have up : ∀ {p : Nat} {P : PM}, A[p]? = some P → (A ++ C)[p]? = some P := fun {p P} hp => by
    rw [List.getElem?_append_left (List.getElem?_eq_some_iff.1 hp).1]
    exact hp
  exact ⟨h.start, fun p P hP => h.next p P (up hP), fun p P k c hP hc => h.other p P k c (up hP) hc, fun p P k c hP hc => h.app p P k c (up hP) hc, fun P hP => h.names P (List.mem_append.2 (.inl hP)), fun P hP => h.few P (List.mem_append.2 (.inl hP)), fun p P hP => h.count p P (up hP), h.small⟩
theorem Stands.det {Ps : List PM} {st st' : Nat → Nat → ByteArray → PL} {cnt cnt' : Nat → Nat} (h : Stands Ps st cnt) (h' : Stands Ps st' cnt') : ∀ p, p ≤ Ps.length → st' p 0 = st p 0
  | 0, _ => by rw [h.start, h'.start]
  | p + 1, hp => by
    have hP : Ps[p]? = some Ps[p] := List.getElem?_eq_getElem (by omega)
    rw [h.next p _ hP, h'.next p _ hP]
    have : ∀ k, k ≤ Ps[p].Cs.length → st' p k = st p k := by
      intro k
      induction k with
      | zero => intro _; exact Stands.det h h' p (by omega)
      | succ k ih =>
        intro hk
        have hc : Ps[p].Cs[k]? = some Ps[p].Cs[k] := List.getElem?_eq_getElem (by omega)
        have e := ih (by omega)
        funext x
        by_cases hx : x = Ps[p].Cs[k].1
        · subst hx
          have a1 := h.app p _ k _ hP hc
          have a2 := h'.app p _ k _ hP hc
          rw [e] at a2
          exact a1.det a2
        · rw [h.other p _ k _ hP hc x hx, h'.other p _ k _ hP hc x hx, e]
    exact this _ (Nat.le_refl _)
/-- Each patch is told where it stands. -/
def ToldAll (Ps : List PM) : Prop := ∀ st cnt, Stands Ps st cnt → ∀ (p : Nat) (P : PM), Ps[p]? = some P → ∀ c ∈ P.Cs, ∃ t : ByteArray, TellsP c.2 c.1 (st p 0 c.1) t ∧ t.size ≤ 1000000
structure FS (Ps : List PM) (f : ByteArray → Option ByteArray) (s : ByteArray → PL) : Prop where
  rep : RepoG Ps s
  fnm : ∀ x t, f x = some t → x ∈ names3 ∧ TX t
  snm : ∀ x, (s x).alive = true → x ∈ names3 ∧ TX (rowText (s x).S)
section
variable {Ps : List PM} {f : ByteArray → Option ByteArray} {s : ByteArray → PL}
theorem FS.good (h : FS Ps f s) : GoodT Ps s ∧ Ps.length ≤ 40 := by
  obtain ⟨_, _, _, _, _, h1, h2, _⟩ := h.rep
  exact ⟨h1, h2⟩
theorem FS.sizes (h : FS Ps f s) (x : ByteArray) : (s x).S.length ≤ 800 ∧ (rowLines (s x).S).length ≤ 20 ∧ (rowText (s x).S).size ≤ 20000 ∧ ∀ l ∈ rowLines (s x).S, l.size ≤ 1000 := by
  obtain ⟨hg, hl⟩ := h.good
  have h1 := hg.len x
  have h2 := hg.lines x
  have h3 := cat_size _ 1000 (hg.lsz x)
  have h4 : (rowLines (s x).S).length * 1000 ≤ 20 * 1000 := Nat.mul_le_mul_right _ h2
  refine ⟨by omega, h2, ?_, hg.lsz x⟩
  show (catB (rowLines (s x).S)).size ≤ 20000
  omega
theorem FS.some_ (h : FS Ps f s) {x : ByteArray} (hx : (f x).isSome = true) : ∃ t, f x = some t ∧ x ∈ names3 ∧ TX t := by
  obtain ⟨t, ht⟩ := Option.isSome_iff_exists.1 hx
  exact ⟨t, ht, h.fnm x t ht⟩
theorem empty_cut : cutAll ⟨#[]⟩ = [] := by decide +kernel
theorem FS.fl (h : FS Ps f s) (x : ByteArray) : ((f x).getD ⟨#[]⟩).size ≤ 240 ∧ (cutAll ((f x).getD ⟨#[]⟩)).length ≤ 16 ∧ ∀ l ∈ cutAll ((f x).getD ⟨#[]⟩), l.size ≤ 1000 := by
  cases hf : f x with
  | none =>
    show ((⟨#[]⟩ : ByteArray)).size ≤ 240 ∧ (cutAll ⟨#[]⟩).length ≤ 16 ∧ ∀ l ∈ cutAll ⟨#[]⟩, l.size ≤ 1000
    rw [empty_cut]
    exact ⟨by decide, by simp, by simp⟩
  | some t =>
    have ht := (h.fnm x t hf).2
    exact ⟨ht.1, ht.lines.1, ht.lines.2.1⟩
theorem FS.name (h : FS Ps f s) {x : ByteArray} (hx : x ∈ names3) : NameOK f s x := by
  obtain ⟨h1, h2, h3, h4⟩ := h.sizes x
  obtain ⟨k1, k2, k3⟩ := h.fl x
  have hs := (names3_ok x hx).2
  refine ⟨by omega, by omega, by omega, ?_⟩
  exact { name := by show x.size ≤ 1000; omega, text := by show ((f x).getD ⟨#[]⟩).size ≤ 10000; omega, lines := by show (cutAll ((f x).getD ⟨#[]⟩)).length ≤ 20; omega, row := by show (s x).S.length ≤ 9000; omega, living := by show (rowLines (s x).S).length ≤ 900; omega }
theorem FS.mem (h : FS Ps f s) {x : ByteArray} (hx : (f x).isSome = true ∨ (s x).alive = true) : x ∈ names3 := by
  rcases hx with hx | hx
  · obtain ⟨_, _, h1, _⟩ := h.some_ hx
    exact h1
  · exact (h.snm x hx).1
/-- The names of which there is something, rising. -/
def K0 (f : ByteArray → Option ByteArray) (s : ByteArray → PL) : List ByteArray := names3.filter fun x => (f x).isSome || (s x).alive
theorem FS.all (h : FS Ps f s) : AllOf f s (K0 f s) := by
  refine ⟨names3_srt.filter _, fun x => ?_⟩
  unfold K0
  rw [List.mem_filter, Bool.or_eq_true]
  exact ⟨fun a => a.2, fun a => ⟨h.mem a, a⟩⟩
theorem FS.all_eq (h : FS Ps f s) {K : List ByteArray} (hK : AllOf f s K) : K = K0 f s := Srt.ext hK.1 h.all.1 (fun x => by rw [hK.2, h.all.2])
theorem FS.recs (h : FS Ps f s) : RecOK f s := by
  refine ⟨fun x hx => h.name (h.mem hx), fun K h1 h2 => ?_⟩
  rw [h.all_eq ⟨h1, h2⟩]
  unfold K0
  exact Nat.le_trans (List.length_filter_le _ _) (by decide)

/-- Files that may be recorded. -/
structure FsOK (f : ByteArray → Option ByteArray) (s : ByteArray → PL) (Fs : List Fl) : Prop where
  each : ∀ g ∈ Fs, g = flOf f g.name ∧ g.name ∈ names3 ∧ ((f g.name).isSome = true ∨ (s g.name).alive = true)
  nd : (Fs.map (·.name)).Nodup
  few : Fs.length ≤ 3
  diff : ∀ g ∈ Fs, differs f s g.name = true
theorem chg_fs (h : FS Ps f s) {K : List ByteArray} (hs : Srt K) (hK : ∀ x ∈ K, (f x).isSome = true ∨ (s x).alive = true) (hl : K.length ≤ 3) : FsOK f s (chgOf f s K) := by
  refine ⟨fun g hg => ?_, ?_, ?_, fun g hg => ?_⟩
  · unfold chgOf at hg
    obtain ⟨x, hx, rfl⟩ := List.mem_map.1 hg
    have := hK x (List.mem_filter.1 hx).1
    exact ⟨rfl, h.mem this, this⟩
  · unfold chgOf
    rw [List.map_map]
    have e : ((fun g : Fl => g.name) ∘ flOf f) = id := rfl
    rw [e, List.map_id]
    have := hs.filter (differs f s)
    exact this.imp (fun {a b} hab e => by subst e; exact List.lt_irrefl _ hab)
  · unfold chgOf
    rw [List.length_map]
    exact Nat.le_trans (List.length_filter_le _ _) hl
  · unfold chgOf at hg
    obtain ⟨x, hx, rfl⟩ := List.mem_map.1 hg
    exact (List.mem_filter.1 hx).2
theorem FS.chg0 (h : FS Ps f s) : FsOK f s (chgOf f s (K0 f s)) := chg_fs h h.all.1 (fun x hx => (h.all.2 x).1 hx) (by unfold K0; exact Nat.le_trans (List.length_filter_le _ _) (by decide))
theorem FS.chg1 (h : FS Ps f s) {x : ByteArray} (hx : (f x).isSome = true ∨ (s x).alive = true) : FsOK f s (chgOf f s [x]) := chg_fs h (List.pairwise_singleton _ _) (fun y hy => by rw [List.mem_singleton] at hy; subst hy; exact hx) (by simp)
theorem FsOK.good {Fs : List Fl} (hF : FsOK f s Fs) (h : FS Ps f s) : ∀ g ∈ Fs, FlGood s g := fun g hg => by
  obtain ⟨e, h1, h2⟩ := hF.each g hg
  obtain ⟨_, k2, k3⟩ := h.fl g.name
  refine ⟨?_, fun ha => ?_, ?_⟩
  · rw [e]; show (cutAll ((f g.name).getD ⟨#[]⟩)).length ≤ 20; omega
  · rw [e]
    show (f g.name).isSome = true
    exact h2.resolve_right (by rw [ha]; simp)
  · rw [e]; exact k3

theorem FsOK.apart {Fs : List Fl} (hF : FsOK f s Fs) (h : FS Ps f s) : ∀ g ∈ Fs, (s g.name).alive = true → g.there = true → rowLines (s g.name).S ≠ cutAll g.text := fun g hg ha ht e => by
  obtain ⟨e1, _, _⟩ := hF.each g hg
  have hd := hF.diff g hg
  have hs : (f g.name).isSome = true := by rw [e1] at ht; exact ht
  obtain ⟨t, e2, _, hT⟩ := h.some_ hs
  have e3 : g.text = t := by rw [e1]; show (f g.name).getD ⟨#[]⟩ = t; rw [e2]; rfl
  have e4 : rowText (s g.name).S = t := by
    unfold rowText
    rw [e, e3]
    exact hT.lines.2.2
  have : differs f s g.name = false := by
    unfold differs flOf keptFl
    simp [ha, e2, e4]
  rw [this] at hd
  cases hd
/-- A patch is recorded. -/
theorem FS.record (h : FS Ps f s) (hl : Ps.length < 40) {i : Pid} (hi : i ∉ Ps.map (·.id)) (hiz : i ≠ zid) {Fs : List Fl} {Cs : List (ByteArray × ChM)} {m : Nat → Int} (hF : FsOK f s Fs) (hM : MadeAll s i Fs Cs m) (cv : Value) :
    ∃ s', FS (Ps ++ [⟨i, cv, Cs⟩]) f s' ∧ (∀ g ∈ Fs, (s' g.name).alive = g.there ∧ (g.there = true → rowText (s' g.name).S = g.text)) ∧ (∀ x, (∀ g ∈ Fs, g.name ≠ x) → s' x = s x) ∧ leaveR (Ps ++ [⟨i, cv, Cs⟩]) i = (⟨#[]⟩, 0) ∧ ((Ps ++ [(⟨i, cv, Cs⟩ : PM)]).filter fun P => !decide (P.id = i)) = Ps := by
  obtain ⟨s', h1, h2, h3, h4, h5⟩ := h.rep.record hl hi hiz (hF.good h) (fun g hg => by have := (names3_ok _ (hF.each g hg).2.1).2; omega) hM hF.nd hF.few (hF.apart h) cv
  have hg2 : ∀ g ∈ Fs, (s' g.name).alive = g.there ∧ (g.there = true → rowText (s' g.name).S = g.text ∧ TX g.text) := fun g hg => by
    obtain ⟨a, b⟩ := h2 g hg
    refine ⟨a, fun ht => ?_⟩
    obtain ⟨e, _, _⟩ := hF.each g hg
    have hs : (f g.name).isSome = true := by rw [e] at ht; exact ht
    obtain ⟨t, e2, _, hT⟩ := h.some_ hs
    have e3 : g.text = t := by rw [e]; show (f g.name).getD ⟨#[]⟩ = t; rw [e2]; rfl
    refine ⟨?_, by rw [e3]; exact hT⟩
    show catB (rowLines (s' g.name).S) = g.text
    rw [b ht, e3]
    exact hT.lines.2.2
  refine ⟨s', ⟨h1, h.fnm, fun x hx => ?_⟩, fun g hg => ⟨(hg2 g hg).1, fun ht => ((hg2 g hg).2 ht).1⟩, h3, h4, h5⟩
  by_cases hm : ∃ g ∈ Fs, g.name = x
  · obtain ⟨g, hg, rfl⟩ := hm
    obtain ⟨a, b⟩ := hg2 g hg
    rw [a] at hx
    obtain ⟨b1, b2⟩ := b hx
    exact ⟨(hF.each g hg).2.1, by rw [b1]; exact b2⟩
  · rw [h3 x (fun g hg e => hm ⟨g, hg, e⟩)] at hx ⊢
    exact h.snm x hx
theorem FS.told_next (h : FS Ps f s) (hT : ToldAll Ps) {i : Pid} {Fs : List Fl} {Cs : List (ByteArray × ChM)} {m : Nat → Int} (hF : FsOK f s Fs) (hM : MadeAll s i Fs Cs m) (cv : Value) : ToldAll (Ps ++ [⟨i, cv, Cs⟩]) := by
  intro st' cnt' hS' p P hP c hc
  by_cases hp : p < Ps.length
  · rw [List.getElem?_append_left hp] at hP
    exact hT st' cnt' hS'.pre p P hP c hc
  · have e2 : p = Ps.length := by
      have := (List.getElem?_eq_some_iff.1 hP).1
      simp at this
      omega
    subst e2
    rw [List.getElem?_append_right (Nat.le_refl _), Nat.sub_self] at hP
    cases hP
    obtain ⟨st, cnt, hS, hse, _⟩ := h.rep
    have e3 := hS.det hS'.pre Ps.length (Nat.le_refl _)
    rw [hse] at e3
    rw [e3]
    obtain ⟨k, hk⟩ := List.mem_iff_getElem?.1 hc
    have hkF : k < Fs.length := by rw [← hM.len]; exact (List.getElem?_eq_some_iff.1 hk).1
    obtain ⟨e1, hcm⟩ := hM.at_ k _ c (List.getElem?_eq_getElem hkF) hk
    have hG := hF.good h _ (List.getElem_mem hkF)
    obtain ⟨s1, s2, s3, s4⟩ := h.sizes Fs[k].name
    have hnm := (names3_ok _ (hF.each _ (List.getElem_mem hkF)).2.1).2
    obtain ⟨hg, _⟩ := h.good
    obtain ⟨T, t1, t2, t3, t4⟩ := made_told (hg.cells Fs[k].name) hg.noz hcm Fs[k].name (by omega) (by omega) s2 s4 hG.lines hG.lsz
    exact ⟨T, by rw [e1]; exact t1, t3⟩
theorem FS.put (h : FS Ps f s) {x t : ByteArray} (hx : x ∈ names3) (ht : TX t) : FS Ps (fun y => if y = x then some t else f y) s := by
  refine ⟨h.rep, fun y u hu => ?_, h.snm⟩
  by_cases e : y = x
  · subst e
    simp only [if_true, Option.some.injEq] at hu
    subst hu
    exact ⟨hx, ht⟩
  · simp only [if_neg e] at hu
    exact h.fnm y u hu
theorem FS.gone (h : FS Ps f s) (x : ByteArray) : FS Ps (fun y => if y = x then none else f y) s := by
  refine ⟨h.rep, fun y u hu => ?_, h.snm⟩
  by_cases e : y = x
  · simp [e] at hu
  · simp only [if_neg e] at hu
    exact h.fnm y u hu
theorem FS.revert (h : FS Ps f s) : FS Ps (keptO s) s := by
  refine ⟨h.rep, fun y u hu => ?_, h.snm⟩
  unfold keptO at hu
  split at hu
  · rename_i ha
    cases hu
    exact h.snm y ha
  · cases hu
theorem FS.nil : FS [] (fun _ => none) (fun _ => pl0) := ⟨RepoG.nil, fun x t h => (by cases h), fun x h => (by cases h)⟩
theorem ToldAll.nil : ToldAll [] := fun _ _ _ p P h => by simp at h
end

/-- How a change of files is told. -/
def ToldIs (s : ByteArray → PL) (Fs : List Fl) (T : ByteArray) : Prop := ∃ t : Nat → ByteArray, T = ⟨(toldTo t Fs.length).toArray⟩ ∧ ∀ k g, Fs[k]? = some g → TellOf (s g.name) g.there g.text g.name (t k) ∧ 0 < (t k).size
theorem toldTo_congr {t t' : Nat → ByteArray} : ∀ n, (∀ k, k < n → t k = t' k) → toldTo t n = toldTo t' n
  | 0, _ => rfl
  | n + 1, h => by
    show toldTo t n ++ (t n).data.toList = toldTo t' n ++ (t' n).data.toList
    rw [toldTo_congr n (fun k hk => h k (by omega)), h n (by omega)]
theorem ToldIs.det {s : ByteArray → PL} {Fs : List Fl} {T T' : ByteArray} (h : ToldIs s Fs T) (h' : ToldIs s Fs T') : T = T' := by
  obtain ⟨t, rfl, ht⟩ := h
  obtain ⟨t', rfl, ht'⟩ := h'
  rw [toldTo_congr Fs.length (fun k hk => ?_)]
  exact (ht k _ (List.getElem?_eq_getElem hk)).1.det (ht' k _ (List.getElem?_eq_getElem hk)).1
theorem ToldIs.nil {s : ByteArray → PL} {T : ByteArray} (h : ToldIs s [] T) : T = ⟨#[]⟩ := by
  obtain ⟨t, rfl, _⟩ := h
  rfl
theorem ToldIs.one {s : ByteArray → PL} {g : Fl} {T : ByteArray} (h : ToldIs s [g] T) : TellOf (s g.name) g.there g.text g.name T := by
  obtain ⟨t, rfl, ht⟩ := h
  have := (ht 0 g rfl).1
  have e : (⟨(toldTo t [g].length).toArray⟩ : ByteArray) = t 0 := told1 t
  rw [e]
  exact this
theorem ToldIs.ne {s : ByteArray → PL} {Fs : List Fl} {T : ByteArray} (h : ToldIs s Fs T) (hne : Fs ≠ []) : T ≠ ⟨#[]⟩ := by
  obtain ⟨t, rfl, ht⟩ := h
  intro e
  have hl : 0 < Fs.length := List.length_pos_iff.2 hne
  have h0 := (ht 0 _ (List.getElem?_eq_getElem hl)).2
  have hle : ∀ n, 0 < n → 0 < (toldTo t n).length := fun n => by
    induction n with
    | zero => intro h; omega
    | succ n ih =>
      intro _
      show 0 < (toldTo t n ++ (t n).data.toList).length
      rw [List.length_append]
      by_cases hn : n = 0
      · subst hn
        have : (t 0).data.toList.length = (t 0).size := rfl
        omega
      · have := ih (by omega)
        omega
  have h1 := hle Fs.length hl
  have h2 : (toldTo t Fs.length).toArray = #[] := congrArg ByteArray.data e
  have h3 : (toldTo t Fs.length).toArray.size = 0 := by rw [h2]; rfl
  simp at h3
  rw [h3] at h1
  exact absurd h1 (by simp)
theorem tellsP_det {c : ChM} {name : ByteArray} {p : PL} {T T' : ByteArray} (h : TellsP c name p T) (h' : TellsP c name p T') : T = T' := by
  cases c with
  | add i l rv S => rw [h.2, h'.2]
  | remove i rv S => rw [h.2, h'.2]
  | alter i hv Hs =>
    obtain ⟨g, g0, g1, g2, _⟩ := h
    obtain ⟨k, k0, k1, k2, _⟩ := h'
    have : ∀ j, j ≤ Hs.length → g j = k j := by
      intro j
      induction j with
      | zero => intro _; rw [g0, k0]
      | succ j ih =>
        intro hj
        have hh : Hs[j]? = some Hs[j] := List.getElem?_eq_getElem (by omega)
        obtain ⟨t, q, a1, a2, _, _, _, _, _, _, a3⟩ := g1.step j _ hh
        obtain ⟨t', q', b1, b2, _, _, _, _, _, _, b3⟩ := k1.step j _ hh
        rw [a1] at b1
        cases b1
        rw [a2] at b2
        cases b2
        rw [a3, b3, ih (by omega)]
    rw [g2, k2, this _ (Nat.le_refl _)]
theorem FS.tells {Ps : List PM} {f : ByteArray → Option ByteArray} {s : ByteArray → PL} (h : FS Ps f s) {i : Pid} {Fs : List Fl} {Cs : List (ByteArray × ChM)} {m : Nat → Int} (hF : FsOK f s Fs) (hM : MadeAll s i Fs Cs m) :
    (∃ t : Nat → ByteArray, (∀ k c, Cs[k]? = some c → TellsP c.2 c.1 (s c.1) (t k)) ∧ ∀ k, (t k).size ≤ 1000000) ∧ ∀ t : Nat → ByteArray, (∀ k c, Cs[k]? = some c → TellsP c.2 c.1 (s c.1) (t k)) → ToldIs s Fs ⟨(toldTo t Cs.length).toArray⟩ := by
  obtain ⟨hg, hl⟩ := h.good
  have each : ∀ (k : Nat) (c : ByteArray × ChM), Cs[k]? = some c → ∃ g T, Fs[k]? = some g ∧ c.1 = g.name ∧ TellsP c.2 c.1 (s c.1) T ∧ TellOf (s g.name) g.there g.text g.name T ∧ T.size ≤ 1000000 ∧ 0 < T.size := fun k c hk => by
    have hkF : k < Fs.length := by rw [← hM.len]; exact (List.getElem?_eq_some_iff.1 hk).1
    have hgk := List.getElem?_eq_getElem hkF
    obtain ⟨e1, hc⟩ := hM.at_ k _ c hgk hk
    have hG := hF.good h _ (List.getElem_mem hkF)
    obtain ⟨s1, s2, s3, s4⟩ := h.sizes Fs[k].name
    have hnm := (names3_ok _ (hF.each _ (List.getElem_mem hkF)).2.1).2
    obtain ⟨T, t1, t2, t3, t4⟩ := made_told (hg.cells Fs[k].name) hg.noz hc Fs[k].name (by omega) (by omega) s2 s4 hG.lines hG.lsz
    exact ⟨_, T, hgk, e1, by rw [e1]; exact t1, t2, t3, t4⟩
  constructor
  · have : ∀ k : Nat, ∃ T : ByteArray, (∀ c, Cs[k]? = some c → TellsP c.2 c.1 (s c.1) T) ∧ T.size ≤ 1000000 := fun k => by
      cases hk : Cs[k]? with
      | none => exact ⟨⟨#[]⟩, fun c hc => (by cases hc), by decide⟩
      | some c =>
        obtain ⟨_, T, _, _, h1, _, h2, _⟩ := each k c hk
        exact ⟨T, fun c' hc' => by cases hc'; exact h1, h2⟩
    exact ⟨fun k => (this k).choose, fun k c hk => (this k).choose_spec.1 c hk, fun k => (this k).choose_spec.2⟩
  · intro t ht
    refine ⟨t, by rw [hM.len], fun k g hk => ?_⟩
    have hkC : k < Cs.length := by rw [hM.len]; exact (List.getElem?_eq_some_iff.1 hk).1
    obtain ⟨g', T, hg', e1, h1, h2, _, h4⟩ := each k _ (List.getElem?_eq_getElem hkC)
    rw [hk] at hg'
    cases hg'
    have := tellsP_det (ht k _ (List.getElem?_eq_getElem hkC)) h1
    rw [this]
    exact ⟨h2, h4⟩
end Go.Proofs.YtgdfipmdmgkidaaGreatDoor

/- Mathematics: two patches of a repository change places: all holds as before. -/
namespace Go.Proofs.YtgdfipmdmgkidaaGreatDoor
open Go.RowKit

theorem RepoG.swap {A C : List PM} {P Q : PM} {s : ByteArray → PL} (h : RepoG (A ++ P :: Q :: C) s) (hn : ¬ NeedsP Q P) : RepoG (A ++ Q :: P :: C) s := by
  obtain ⟨st, cnt, hS, hs, hc, hG, hl, hids, hH, hW, hSm⟩ := h
  have hp : (A ++ Q :: P :: C).Perm (A ++ P :: Q :: C) := List.Perm.append_left _ (List.Perm.swap P Q C)
  have hlen : (A ++ Q :: P :: C).length = (A ++ P :: Q :: C).length := hp.length_eq
  have hH' := hH.swap hn
  have hW' : weight (A ++ Q :: P :: C) ≤ 60 * (A ++ Q :: P :: C).length := by rw [weight_perm hp, hlen]; exact hW
  have hSm' : SmallP (A ++ Q :: P :: C) := ⟨fun R hR => hSm.few R (hp.mem_iff.1 hR), fun R hR => hSm.names R (hp.mem_iff.1 hR), fun R hR => hSm.small R (hp.mem_iff.1 hR)⟩
  obtain ⟨st', cnt', k1, k2, k3⟩ := hH'.stands (by omega) hSm' (by omega)
  refine ⟨st', cnt', k1, k2, k3, ⟨hH'.good.1, hH'.good.2, hH'.noz, fun R hR => hG.small R (hp.mem_iff.1 hR), fun x => ?_, hG.lines, hG.lsz⟩, by omega, hH'.nd, hH', hW', hSm'⟩
  rw [hlen]
  exact hG.len x
theorem RepoG.apart {A C : List PM} {P Q : PM} {s : ByteArray → PL} (h : RepoG (A ++ P :: Q :: C) s) : ¬ NeedsP P Q := by
  obtain ⟨_, _, _, _, _, _, _, _, hH, _⟩ := h
  exact hH.apart
theorem FS.swap {A C : List PM} {P Q : PM} {f : ByteArray → Option ByteArray} {s : ByteArray → PL} (h : FS (A ++ P :: Q :: C) f s) (hn : ¬ NeedsP Q P) : FS (A ++ Q :: P :: C) f s := ⟨h.rep.swap hn, h.fnm, h.snm⟩
theorem FS.ids {Ps : List PM} {f : ByteArray → Option ByteArray} {s : ByteArray → PL} (h : FS Ps f s) : (Ps.map (·.id)).Nodup := by
  obtain ⟨_, _, _, _, _, _, _, hids, _⟩ := h.rep
  exact hids
end Go.Proofs.YtgdfipmdmgkidaaGreatDoor

/- Kept of a name of which nothing is kept. -/
namespace Go.Proofs.YtgdfipmdmgkidaaGreatDoor
open Go.RowKit

section
variable {B pb rg cap gb : Nat} {pv : Value} {Ps : List PM} {fb fn : Nat} {f : ByteArray → Option ByteArray} {G : List Pid}
set_option maxRecDepth 100000 in
set_option maxHeartbeats 3200000 in
theorem keptText46_dead {w : World} (h : OneAt w B pb rg cap gb pv Ps fb fn f G) {st : Nat → Nat → ByteArray → PL} {cnt : Nat → Nat} (hs : Stands Ps st cnt) (hPs : Ps.length ≤ 1000) (x : ByteArray) (hx : x.size ≤ 1000) (hnm : nameB x = true) (hal : (st Ps.length 0 x).alive = false) (hS : (st Ps.length 0 x).S.length ≤ 1000000) (hT : (rowText (st Ps.length 0 x).S).size ≤ 1000000000) :
    Calls Tryz.prog 46 #[.pointer (some ⟨rg, 0, none⟩), .string x] w fun e w' => e = .returned (.tuple #[.string ⟨#[]⟩, .int .i64 5]) ∧ Below w.heap.size w w' := by
  have HN : Hid (Calls Tryz.prog 61 #[.string x] w fun e w' => e = .returned (.bool true) ∧ Below w.heap.size w w') := by
    have := isName42_any x w
    rw [hnm] at this
    exact this
  have hkp : keptPL (st Ps.length 0) x = .agg #[.string x, .bool false, .string ⟨#[]⟩] := by unfold keptPL; rw [if_neg (by rw [hal]; simp)]; rfl
  have HF : Hid (∀ w' mb n, n ≤ 100000 → TreeAt w' mb (st Ps.length 0) n → Calls Tryz.prog 78 #[.agg #[.map (some mb)], .string x] w' fun e w'' => e = .returned (.agg #[.string x, .bool false, .string ⟨#[]⟩]) ∧ Below w'.heap.size w' w'') := fun w' mb n hn ht => by
    have := file55_any (st Ps.length 0) mb n x (by omega) w' ht (by omega) hS hT
    rw [hkp] at this
    exact this
  have HK : Hid (∀ u, Below w.heap.size w u → Calls Tryz.prog 77 #[.pointer (some ⟨rg, 0, none⟩)] u fun e w' => ∃ mb n, e = .returned (.agg #[.map (some mb)]) ∧ TreeAt w' mb (st Ps.length 0) n ∧ n ≤ 100000 ∧ u.heap.size ≤ mb ∧ Below u.heap.size u w') := fun u hu => by
    have h1 := h.below hu
    exact kept_any hs h1.view (by omega) h1.r0 h1.lts.2.1
  clear h hs hkp hT hS hal hnm
  go_enter Tryz.func46, Tryz.ntmps46
  go_wp2_with fail
  refine HN.out.mono ?_
  rintro e w1 ⟨rfl, hb1⟩
  clear HN
  go_wp2_with fail
  refine (HK.out w1 hb1).mono ?_
  rintro e w2 ⟨mb, n, rfl, ht, hn, _, hb2⟩
  have HF2 := hid (HF.out w2 mb n hn ht)
  have hs1 := hb1.size
  have hs2 := hb2.size
  clear HK HF ht
  go_wp2_with fail
  refine HF2.out.mono ?_
  rintro e w3 ⟨rfl, hb3⟩
  clear HF2
  have hb4 : Below w.heap.size w w3 := (hb1.trans (hb2.mono hs1)).trans (hb3.mono (by omega))
  go_wp2
  go_ret2
  exact ⟨rfl, hb4.alloc hb4.size _⟩

set_option maxRecDepth 100000 in
set_option maxHeartbeats 1600000 in
/-- World.Kept. -/
theorem kept18_one {w : World} (h : OneAt w B pb rg cap gb pv Ps fb fn f G) {st : Nat → Nat → ByteArray → PL} {cnt : Nat → Nat} (hs : Stands Ps st cnt) (hPs : Ps.length ≤ 1000) (x : ByteArray) (hx : x.size ≤ 1000) (hnm : nameB x = true) (hS : (st Ps.length 0 x).S.length ≤ 1000000) (hT : (rowText (st Ps.length 0 x).S).size ≤ 1000000000) :
    Calls Tryz.prog 18 #[.pointer (some ⟨pb, 0, none⟩), .int .i64 0, .string x] w fun e w' => e = .returned (.tuple #[.string (if (st Ps.length 0 x).alive = true then rowText (st Ps.length 0 x).S else ⟨#[]⟩), .int .i64 (if (st Ps.length 0 x).alive = true then 0 else 5)]) ∧ Below w.heap.size w w' := by
  cases hal : (st Ps.length 0 x).alive
  · have HA : Hid (Calls Tryz.prog 42 #[.pointer (some ⟨pb, 0, none⟩), .int .i64 0] w fun e w' => e = .returned (.bool true) ∧ w' = w) := has26_zero h
    have HK := hid (keptText46_dead h hs hPs x hx hnm hal hS hT)
    have c0 := h.c0
    have hcap := h.cap1
    clear h hs hal hS hT
    go_enter Tryz.func18, Tryz.ntmps18
    go_wp2_with fail
    refine HA.out.mono ?_
    rintro e w0 ⟨rfl, rfl⟩
    clear HA
    go_wp2_with fail
    refine HK.out.mono ?_
    rintro e w1 ⟨rfl, h2⟩
    clear HK
    go_wp2
    go_ret2
    exact ⟨rfl, h2⟩
  · exact kept13_alive h hs hPs x hx hnm hal hS hT
end
end Go.Proofs.YtgdfipmdmgkidaaGreatDoor

/- The calls of the statement's scripts on a world of one repository. -/
namespace Go.Proofs.YtgdfipmdmgkidaaGreatDoor
open Go.RowKit

abbrev kin (t : TypeId) : Prop := t = 9 ∨ t = 53
abbrev kin3 (t : TypeId) : Prop := t = 9 ∨ t = 53 ∨ t = 45
theorem kin3k {w w' : World} (h : HeldT kin3 w w') : HeldT kin w w' := h.mono (fun _ e => e.elim .inl fun e => .inr (.inl e))
theorem kin9 {w w' : World} (h : HeldT kin w w') : HeldT (· = 9) w w' := h.mono (fun _ e => .inl e)
/-- A world of one repository, as the scripts make it. -/
structure UW (w : World) (B pb rg cap gb fb : Nat) (Ps : List PM) (f : ByteArray → Option ByteArray) (s : ByteArray → PL) (G : List Pid) : Prop where
  fs : FS Ps f s
  one : ∃ pv, OneAt w B pb rg cap gb pv Ps fb 3 f G
section
variable {w : World} {B pb rg cap gb fb : Nat} {Ps : List PM} {f : ByteArray → Option ByteArray} {s : ByteArray → PL} {G : List Pid}
theorem UW.lo (h : UW w B pb rg cap gb fb Ps f s G) : B ≤ w.heap.size := by
  obtain ⟨pv, h1⟩ := h.one
  have := h1.lo
  have := h1.lts
  omega
theorem UW.below (h : UW w B pb rg cap gb fb Ps f s G) {w' : World} (hb : Below w.heap.size w w') : UW w' B pb rg cap gb fb Ps f s G := by
  obtain ⟨pv, h1⟩ := h.one
  exact ⟨h.fs, pv, h1.below hb⟩
theorem UW.of {w' : World} {pv : Value} {fn : Nat} (hf : FS Ps f s) (h : OneAt w' B pb rg cap gb pv Ps fb fn f G) : UW w' B pb rg cap gb fb Ps f s G := ⟨hf, pv, h.few (N := names3) (fun _x hx => hf.mem (.inl hx))⟩
theorem UW.text (h : UW w B pb rg cap gb fb Ps f s G) {x : ByteArray} (hx : x ∈ names3) :
    Calls Tryz.prog 50 #[.pointer (some ⟨pb, 0, none⟩), .int .i64 0, .string x] w fun e w' => e = .returned (.tuple #[.string ((f x).getD ⟨#[]⟩), .int .i64 (if (f x).isSome = true then 0 else 5)]) ∧ Below w.heap.size w w' := by
  obtain ⟨pv, h1⟩ := h.one
  obtain ⟨n1, n2⟩ := names3_ok x hx
  exact text50_one h1 x (by omega) n1
theorem UW.kept (h : UW w B pb rg cap gb fb Ps f s G) {x : ByteArray} (hx : x ∈ names3) :
    Calls Tryz.prog 18 #[.pointer (some ⟨pb, 0, none⟩), .int .i64 0, .string x] w fun e w' => e = .returned (.tuple #[.string (if (s x).alive = true then rowText (s x).S else ⟨#[]⟩), .int .i64 (if (s x).alive = true then 0 else 5)]) ∧ Below w.heap.size w w' := by
  obtain ⟨pv, h1⟩ := h.one
  obtain ⟨n1, n2⟩ := names3_ok x hx
  obtain ⟨st, cnt, hS, rfl, _, _, hl, _⟩ := h.fs.rep
  obtain ⟨s1, _, s3, _⟩ := h.fs.sizes x
  exact kept18_one h1 hS (by omega) x (by omega) n1 (by omega) (by omega)
theorem UW.write (h : UW w B pb rg cap gb fb Ps f s G) {x t : ByteArray} (hx : x ∈ names3) (ht : TX t) :
    Calls Tryz.prog 16 #[.pointer (some ⟨pb, 0, none⟩), .int .i64 0, .string x, .string t] w fun e w' => e = .returned (.int .i64 0) ∧ UW w' B pb rg cap gb fb Ps (fun y => if y = x then some t else f y) s G ∧ Below B w w' ∧ HeldT kin3 w w' := by
  obtain ⟨pv, h1⟩ := h.one
  obtain ⟨n1, n2⟩ := names3_ok x hx
  refine (write16_one h1 h.lo x t (by omega) (by omega) n1 ht.ok (.inr (by omega))).mono ?_
  rintro e w' ⟨rfl, h2, h3, h4⟩
  exact ⟨rfl, UW.of (h.fs.put hx ht) h2, h3, h4⟩
theorem UW.erase (h : UW w B pb rg cap gb fb Ps f s G) {x : ByteArray} (hx : x ∈ names3) :
    Calls Tryz.prog 80 #[.pointer (some ⟨pb, 0, none⟩), .int .i64 0, .string x] w fun e w' => ∃ c : Int, e = .returned (.int .i64 c) ∧ (c = 0 ∨ c = 5) ∧ UW w' B pb rg cap gb fb Ps (fun y => if y = x then none else f y) s G ∧ Below B w w' ∧ HeldT kin3 w w' := by
  obtain ⟨pv, h1⟩ := h.one
  obtain ⟨n1, n2⟩ := names3_ok x hx
  refine (erase80_one h1 h.lo x (by omega) n1).mono ?_
  rintro e w' ⟨c, rfl, hc, h2, h3, h4⟩
  exact ⟨c, rfl, hc, UW.of (h.fs.gone x) h2, h3, h4⟩
theorem UW.new (h : UW w B pb rg cap gb fb Ps f s G) :
    Calls Tryz.prog 17 #[.pointer (some ⟨pb, 0, none⟩), .int .i64 0, .string cNew] w fun e w' => ∃ T, e = .returned (.tuple #[.string T, .int .i64 0]) ∧ ToldIs s (chgOf f s (K0 f s)) T ∧ Below w.heap.size w w' := by
  obtain ⟨pv, h1⟩ := h.one
  obtain ⟨st, cnt, hS, hse, _, _, hl, _⟩ := h.fs.rep
  refine (do_new h1 (fun T w' => ToldIs s (chgOf f s (K0 f s)) T ∧ Below w.heap.size w w') (fun u hu => ?_)).mono ?_
  · have hR := h.fs.recs
    rw [← hse] at hR
    refine (new48_any B pb rg cap gb pv Ps fb 3 f G st cnt u (h1.below hu) hS hl (by omega) hR (fun K Cs m hK hM => ?_)).mono ?_
    · rw [hse] at hK hM ⊢
      have e := h.fs.all_eq hK
      subst e
      exact (h.fs.tells h.fs.chg0 hM).1
    · rintro e w' ⟨K, Cs, m, t, rfl, hK, hM, hT, hb⟩
      rw [hse] at hK hM hT
      have e := h.fs.all_eq hK
      subst e
      exact ⟨_, rfl, (h.fs.tells h.fs.chg0 hM).2 t hT, hu.trans (hb.mono hu.size)⟩
  · rintro e w' ⟨T, rfl, h2, h3⟩
    exact ⟨T, rfl, h2, h3⟩
theorem UW.log (h : UW w B pb rg cap gb fb Ps f s G) :
    Calls Tryz.prog 17 #[.pointer (some ⟨pb, 0, none⟩), .int .i64 0, .string wdLog] w fun e w' => e = .returned (.tuple #[.string ⟨(logL (Ps.map (·.id))).toArray⟩, .int .i64 0]) ∧ Below w.heap.size w w' := by
  obtain ⟨pv, h1⟩ := h.one
  have hl := h.fs.good.2
  refine (do12_any h1 wdLog cLog_ok.1 (fun x c w' => (x = ⟨(logL (Ps.map (·.id))).toArray⟩ ∧ c = 0) ∧ Below w.heap.size w w') (fun u va vc hu ho => ?_)).mono ?_
  · rw [cLog_ok.2] at ho ⊢
    obtain ⟨wb, rfl, htb, hcap, hcl⟩ := words_at ho (by simp)
    have h0 := hcl 0 (by simp)
    have hO := h1.below hu
    refine (carry45_log pb rg wb 0 1 vc pv u (fun x w' => x = ⟨(logL (Ps.map (·.id))).toArray⟩ ∧ Below u.heap.size u w') h0 (by omega) hO.r0 ((ids67_any Ps pv u hO.view (by omega)).mono fun e w' ⟨k1, k2⟩ => ⟨_, k1, rfl, k2⟩)).mono ?_
    rintro e w' ⟨x, rfl, rfl, hb⟩
    exact ⟨_, 0, rfl, ⟨rfl, rfl⟩, hu.trans (hb.mono hu.size)⟩
  · rintro e w' ⟨x, c, rfl, ⟨rfl, rfl⟩, hb⟩
    exact ⟨rfl, hb⟩
theorem UW.revert (h : UW w B pb rg cap gb fb Ps f s G) :
    Calls Tryz.prog 17 #[.pointer (some ⟨pb, 0, none⟩), .int .i64 0, .string wdRevert] w fun e w' => e = .returned (.tuple #[.string ⟨#[]⟩, .int .i64 0]) ∧ UW w' B pb rg cap gb fb Ps (keptO s) s G ∧ Below B w w' ∧ HeldT kin w w' := by
  obtain ⟨pv, h1⟩ := h.one
  obtain ⟨st, cnt, hS, hse, _, _, hl, _⟩ := h.fs.rep
  refine (do12_any h1 wdRevert cRevert_ok.1 (fun x c w' => (x = ⟨#[]⟩ ∧ c = 0) ∧ UW w' B pb rg cap gb fb Ps (keptO s) s G ∧ Below B w w' ∧ HeldT kin w w') (fun u va vc hu ho => ?_)).mono ?_
  · rw [cRevert_ok.2] at ho ⊢
    obtain ⟨wb, rfl, htb, hcap, hcl⟩ := words_at ho (by simp)
    have h0 := hcl 0 (by simp)
    have hO := h1.below hu
    refine (carry45_revert pb rg wb 0 1 vc u (fun w' => UW w' B pb rg cap gb fb Ps (keptO s) s G ∧ Below B w w' ∧ HeldT kin w w') h0 (by omega) ?_).mono ?_
    · have hN : ∀ x ∈ names3, x.size ≤ 1000 ∧ (st Ps.length 0 x).S.length ≤ 1000000 ∧ (rowText (st Ps.length 0 x).S).size ≤ 1000000000 := fun x hx => by
        rw [hse]
        have := (names3_ok x hx).2
        obtain ⟨s1, _, s3, _⟩ := h.fs.sizes x
        exact ⟨by omega, by omega, by omega⟩
      refine (revert71_any hO hS (Nat.le_trans h.lo hu.size) (by omega) (by omega) names3 (by decide) (fun x hx => h.fs.mem (.inl hx)) (fun x hx => h.fs.mem (.inr (by rw [← hse]; exact hx))) hN).mono ?_
      rintro e w' ⟨rfl, h2, h3, h4⟩
      rw [hse] at h2
      exact ⟨rfl, UW.of h.fs.revert h2, (hu.mono h.lo).trans h3, (HeldT.of_below hu).trans h4⟩
    · rintro e w' ⟨rfl, h2⟩
      exact ⟨_, 0, rfl, ⟨rfl, rfl⟩, h2⟩
  · rintro e w' ⟨x, c, rfl, ⟨rfl, rfl⟩, hb⟩
    exact ⟨rfl, hb⟩

theorem made_of {s : ByteArray → PL} {i : Pid} {Fs : List Fl} {Cs : List (ByteArray × ChM)} {m : Nat → Int} (hM : MadeAll s i Fs Cs m) : ∀ c ∈ Cs, ∃ g ∈ Fs, c.1 = g.name := fun c hc => by
  obtain ⟨k, hk⟩ := List.mem_iff_getElem?.1 hc
  have hkF : k < Fs.length := by rw [← hM.len]; exact (List.getElem?_eq_some_iff.1 hk).1
  exact ⟨_, List.getElem_mem hkF, (hM.at_ k _ c (List.getElem?_eq_getElem hkF) hk).1⟩
/-- What a record of all makes. -/
structure Recd (w w' : World) (B pb rg cap gb fb : Nat) (Ps : List PM) (f : ByteArray → Option ByteArray) (s : ByteArray → PL) (G : List Pid) (i : Pid) (Fs : List Fl) (T : ByteArray) : Prop where
  told : ToldIs s Fs T
  ne : T ≠ ⟨#[]⟩
  st : ∃ P : PM, P.id = i ∧ ∃ s', UW w' B pb rg cap gb fb (Ps ++ [P]) f s' (G ++ [i]) ∧ (∀ g ∈ Fs, (s' g.name).alive = g.there ∧ (g.there = true → rowText (s' g.name).S = g.text)) ∧ (∀ x, (∀ g ∈ Fs, g.name ≠ x) → s' x = s x) ∧ leaveR (Ps ++ [P]) i = (⟨#[]⟩, 0) ∧ ((Ps ++ [P]).filter fun P => !decide (P.id = i)) = Ps ∧ (ToldAll Ps → ToldAll (Ps ++ [P])) ∧ (∀ c ∈ P.Cs, ∃ g ∈ Fs, c.1 = g.name)
  below : Below B w w'
  held : HeldT kin w w'
theorem UW.record_yes (h : UW w B pb rg cap gb fb Ps f s G) {n : Nat} (h1n : 1 ≤ n) (hn : n ≤ 40) (hG : G.length < 40) (hiG : idN n ∉ G) (hP : Ps.map (·.id) = G) (hne : chgOf f s (K0 f s) ≠ []) :
    Calls Tryz.prog 17 #[.pointer (some ⟨pb, 0, none⟩), .int .i64 0, .string (recHead ++ idW n)] w fun e w' => ∃ T, e = .returned (.tuple #[.string T, .int .i64 0]) ∧ Recd w w' B pb rg cap gb fb Ps f s G (idN n) (chgOf f s (K0 f s)) T := by
  obtain ⟨pv, h1⟩ := h.one
  obtain ⟨st, cnt, hS, hse, _, _, hl, _⟩ := h.fs.rep
  obtain ⟨i1, i2, i3, _⟩ := ids_words n (List.mem_range.2 (by omega))
  have hPl : Ps.length < 40 := by rw [← hP, List.length_map] at hG; exact hG
  refine (do_record h1 (recHead ++ idW n) (uc n 0) (uc n 1) (uc n 2) (uc n 3) ⟨i2, by rw [i3, i1]⟩ 0 (fun T w' => Recd w w' B pb rg cap gb fb Ps f s G (idN n) (chgOf f s (K0 f s)) T) (fun u na nc hu => ?_)).mono (fun e w' ⟨x, k1, k2⟩ => ⟨x, k1, k2⟩)
  have hR := h.fs.recs
  rw [← hse] at hR
  refine (record72_all B pb rg cap gb pv Ps fb 3 f G st cnt (idN n) na nc u (h1.below hu) hS (Nat.le_trans h.lo hu.size) hl (by omega) (idN_ok n) hiG hG hR (fun K hK => ?_) (fun K Cs m hK hM => ?_)).mono ?_
  · rw [hse] at hK ⊢
    have e := h.fs.all_eq hK
    subst e
    exact hne
  · rw [hse] at hK hM ⊢
    have e := h.fs.all_eq hK
    subst e
    exact (h.fs.tells h.fs.chg0 hM).1
  · rintro e w' ⟨K, Cs, m, t, pv', cv, rfl, hK, hM, hT, hO, hb, hh⟩
    rw [hse] at hK hM hT
    have e := h.fs.all_eq hK
    subst e
    have hto := (h.fs.tells h.fs.chg0 hM).2 t hT
    obtain ⟨s', k1, k2, k3, k4, k5⟩ := h.fs.record hPl (by rw [hP]; exact hiG) (ids_zero n (List.mem_range.2 (by omega)) h1n) h.fs.chg0 hM cv
    exact ⟨_, rfl, ⟨hto, hto.ne hne, ⟨_, rfl, s', UW.of k1 hO, k2, k3, k4, k5, fun hTA => h.fs.told_next hTA h.fs.chg0 hM cv, made_of hM⟩, (hu.mono h.lo).trans hb, (HeldT.of_below hu).trans hh⟩, kin9 hh⟩
end
end Go.Proofs.YtgdfipmdmgkidaaGreatDoor

/- The contract of record of one name that is clean; of a record that is refused. -/
namespace Go.Proofs.YtgdfipmdmgkidaaGreatDoor
open Go.RowKit

set_option maxRecDepth 100000 in
set_option maxHeartbeats 12800000 in
theorem record72_nclean (B pb rg cap gb : Nat) (pv : Value) (Ps : List PM) (fb fn : Nat) (f : ByteArray → Option ByteArray) (G : List Pid) (st : Nat → Nat → ByteArray → PL) (cnt : Nat → Nat) (i : Pid) (x : ByteArray) (nb no nc : Nat) (w : World)
    (h : OneAt w B pb rg cap gb pv Ps fb fn f G) (hs : Stands Ps st cnt) (_hB : B ≤ w.heap.size) (hPs : Ps.length ≤ 40) (_hfn : fn ≤ 1000) (hi : IdOK i) (hiG : i ∉ G) (hG : G.length < 40) (hv : w.cell? ⟨nb, no, none⟩ = some (.string x)) (hnb : nb < w.heap.size) (hth : (f x).isSome = true ∨ (st Ps.length 0 x).alive = true) (hok : NameOK f (st Ps.length 0) x)
    (hcl : chgOf f (st Ps.length 0) [x] = []) :
    Calls Tryz.prog 72 #[.pointer (some ⟨pb, 0, none⟩), .pointer (some ⟨rg, 0, none⟩), .agg #[.int .u8 i.a, .int .u8 i.b, .int .u8 i.c, .int .u8 i.d], .slice (some ⟨nb, no, none⟩) 1 nc] w fun e w' =>
      e = .returned (.tuple #[.string ⟨#[]⟩, .int .i64 9]) ∧ Below w.heap.size w w' := by
  obtain ⟨s, hse⟩ : ∃ s, st Ps.length 0 = s := ⟨_, rfl⟩
  obtain ⟨w1, hw1⟩ : ∃ w1, w1 = w.alloc (.cells #[.int .u8 i.a, .int .u8 i.b, .int .u8 i.c, .int .u8 i.d] 113) := ⟨_, rfl⟩
  have hb1 : Below w.heap.size w w1 := by rw [hw1]; exact (Below.refl _ _).alloc (Nat.le_refl _) _
  have hk1 : w1.heap[w.heap.size]? = some (.cells #[.int .u8 i.a, .int .u8 i.b, .int .u8 i.c, .int .u8 i.d] 113 (0, 0)) := by rw [hw1]; exact (MapKept.heap_alloc w _).1
  have hs1 : w.heap.size < w1.heap.size := by rw [hw1]; simp
  have h1 := h.below hb1
  have HK : Hid (Calls Tryz.prog 77 #[.pointer (some ⟨rg, 0, none⟩)] w1 fun e w' => ∃ mb n, e = .returned (.agg #[.map (some mb)]) ∧ TreeAt w' mb s n ∧ n ≤ 100000 ∧ w1.heap.size ≤ mb ∧ Below w1.heap.size w1 w') := by
    have := kept_any hs h1.view (by omega) h1.r0 h1.lts.2.1
    rw [hse] at this
    exact this
  rw [hse] at hok hcl hth
  have HH := hid h1
  have HK1 := hid hk1
  have HB1 := hid hb1
  have HSE := hid hse
  have HOK := hid hok
  have HTH := hid hth
  have HV1 : Hid (w1.cell? ⟨nb, no, none⟩ = some (.string x)) := (hb1.cell (p := ⟨nb, no, none⟩) hnb).trans hv
  have HCL := hid hcl
  clear h h1 hk1 hb1 hs hse hok hcl hth hv
  go_enter Tryz.func72, Tryz.ntmps72
  go_wp2_with fail
  rw [← hw1]
  clear hw1
  refine HK.out.mono ?_
  rintro e w2 ⟨mb, n, rfl, hT2, hn, hmb, hb2⟩
  clear HK
  obtain ⟨w3, hw3⟩ : ∃ w3, w3 = w2.alloc (.cells #[.map (some mb)] 121) := ⟨_, rfl⟩
  have hb23 : Below w2.heap.size w2 w3 := by rw [hw3]; exact (Below.refl _ _).alloc (Nat.le_refl _) _
  have hb13 : Below w1.heap.size w1 w3 := hb2.trans (hb23.mono hb2.size)
  have hk3 : w3.heap[w2.heap.size]? = some (.cells #[.map (some mb)] 121 (0, 0)) := by rw [hw3]; exact (MapKept.heap_alloc w2 _).1
  have hs3 : w2.heap.size < w3.heap.size := by rw [hw3]; simp
  have h3 := HH.out.below hb13
  have hgb1 : gb < w1.heap.size := HH.out.given.lt
  have hrg1 : rg < w1.heap.size := HH.out.lts.2.1
  have hpb1 : pb < w1.heap.size := HH.out.lts.1
  have hT3 := hT2.below hb23 (Nat.le_refl _)
  have HM : Hid (Calls Tryz.prog 125 #[.pointer (some ⟨pb, 0, none⟩), .pointer (some ⟨rg, 0, none⟩), .agg #[.map (some mb)], .agg #[.int .u8 i.a, .int .u8 i.b, .int .u8 i.c, .int .u8 i.d], .slice (some ⟨nb, no, none⟩) 1 nc] w3 fun e w' => e = .returned (.int .i64 0) ∧ Below w3.heap.size w3 w') := by
    have hvw : View w3 (some ⟨nb, no, none⟩) [x] := .inr ⟨nb, no, rfl, by have := hb13.size; omega, fun k hk => by
      have : k = 0 := by simp at hk; omega
      subst this
      exact (hb13.cell (p := ⟨nb, no, none⟩) (by show nb < w1.heap.size; omega)).trans HV1.out⟩
    refine (may97_any G gb pb f fb fn rg 0 s mb n i (some ⟨nb, no, none⟩) 1 nc [x] w3 h3.given hi h3.c1 h3.lts.1 h3.files h3.r1 h3.lts.2.1 hT3 hn hvw rfl (by simp) (fun z hz => by
      rw [List.mem_singleton] at hz
      subst hz
      obtain ⟨g1, g2, g3, _⟩ := HOK.out
      exact ⟨g1, by omega, g3⟩)).mono ?_
    rintro e w' ⟨c, rfl, hR, hb⟩
    rcases hR with ⟨hh, _⟩ | ⟨_, hh, _⟩ | ⟨_, _, ⟨z, hz, hz1, hz2⟩, _⟩ | ⟨_, _, _, rfl⟩
    · exact absurd hh hiG
    · omega
    · rw [List.mem_singleton] at hz
      subst hz
      rcases HTH.out with hh | hh
      · rw [hz1] at hh; cases hh
      · rw [hz2] at hh; cases hh
    · exact ⟨rfl, hb⟩
  have m0 : w3.cell? ⟨w2.heap.size, 0, none⟩ = some (.map (some mb)) := by simp [World.cell?, hk3]
  obtain ⟨q0, q1, q2, q3⟩ := cells4_at ((hb2.block _ hs1).trans HK1.out)
  have hs12 := hb2.size
  obtain ⟨qa0, qa1, qa2, qa3⟩ := cells4_at ((hb13.block _ hs1).trans HK1.out)
  rw [hw3] at qa0 qa1 qa2 qa3
  clear q0 q1 q2 q3
  have HK3 := hid hk3
  have HT3 := hid hT3
  have HH3 := hid h3
  have HB13 := hid hb13
  have hs13 := hb13.size
  clear hT2 hT3 h3 hk3 hb23 hb2 hb13 HH
  go_wp2_with fail
  rw [← hw3]
  clear hw3
  refine HM.out.mono ?_
  rintro e w4 ⟨rfl, hb4⟩
  clear HM
  have hk4 := (hb4.block _ hs3).trans HK3.out
  have m4 : w4.cell? ⟨w2.heap.size, 0, none⟩ = some (.map (some mb)) := by simp [World.cell?, hk4]
  have hs4 := hb4.size
  have HH4 := hid (HH3.out.below hb4)
  have HT4 : Hid (TreeAt w4 mb s n) := HT3.out.below hb4 (Nat.le_refl _)
  clear qa0 qa1 qa2 qa3 m0
  have HC : Hid (Calls Tryz.prog 111 #[.pointer (some ⟨rg, 0, none⟩), .agg #[.map (some mb)], .slice (some ⟨nb, no, none⟩) 1 nc] w4 fun e w' => ∃ xa xc, e = .returned (.slice xa (chgOf f s [x]).length xc) ∧ FV w' (.slice xa (chgOf f s [x]).length xc) (chgOf f s [x]) ∧ Below w4.heap.size w4 w') := by
    have hb14 : Below w1.heap.size w1 w4 := HB13.out.trans (hb4.mono hs13)
    refine HH4.out.changed1 HT4.out hn HOK.out ((hb14.cell (p := ⟨nb, no, none⟩) (by show nb < w1.heap.size; omega)).trans HV1.out) (by have := hb14.size; omega)
  go_wp2_with fail
  refine HC.out.mono ?_
  rintro e w6 ⟨xa, xc, rfl, hF6, hb6⟩
  clear HC
  have hz6 := HCL.out
  have hz7 : (chgOf f s [x]).length = 0 := by rw [hz6]; rfl
  rw [hz7]
  have HB36 : Hid (Below w3.heap.size w3 w6) := hb4.trans (hb6.mono hs4)
  have HBZ : Hid (Below w.heap.size w w6) := HB1.out.trans ((HB13.out.mono (by omega)).trans (HB36.out.mono (by omega)))
  clear hF6 hz6 hz7 HB36
  go_wp2
  go_ret2
  exact ⟨rfl, HBZ.out⟩

end Go.Proofs.YtgdfipmdmgkidaaGreatDoor
