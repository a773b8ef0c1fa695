/- Mathematics: a repository's files and what is kept, as the statement's scripts make them. -/
import Derived.Test.YtgdfipmdmgkidaaGreatDoorUreca
import Derived.Test.YtgdfipmdmgkidaaGreatDoorQtold
namespace Go.Proofs.YtgdfipmdmgkidaaGreatDoor
open Go.RowKit

structure FS (Ps : List PM) (f : ByteArray → Option ByteArray) (s : ByteArray → PL) : Prop where
  rep : RepoG Ps s
  fnm : ∀ x t, f x = some t → x ∈ names3 ∧ TX t
  snm : ∀ x, (s x).alive = true → x ∈ names3 ∧ TX (rowText (s x).S)
section
variable {Ps : List PM} {f : ByteArray → Option ByteArray} {s : ByteArray → PL}
theorem FS.good (h : FS Ps f s) : GoodT Ps s ∧ Ps.length ≤ 40 := by
  obtain ⟨_, _, _, _, _, h1, h2, _⟩ := h.rep
  exact ⟨h1, h2⟩
theorem FS.sizes (h : FS Ps f s) (x : ByteArray) : (s x).S.length ≤ 800 ∧ (rowLines (s x).S).length ≤ 20 ∧ (rowText (s x).S).size ≤ 20000 ∧ ∀ l ∈ rowLines (s x).S, l.size ≤ 1000 := by
  obtain ⟨hg, hl⟩ := h.good
  have h1 := hg.len x
  have h2 := hg.lines x
  have h3 := cat_size _ 1000 (hg.lsz x)
  have h4 : (rowLines (s x).S).length * 1000 ≤ 20 * 1000 := Nat.mul_le_mul_right _ h2
  refine ⟨by omega, h2, ?_, hg.lsz x⟩
  show (catB (rowLines (s x).S)).size ≤ 20000
  omega
theorem FS.some_ (h : FS Ps f s) {x : ByteArray} (hx : (f x).isSome = true) : ∃ t, f x = some t ∧ x ∈ names3 ∧ TX t := by
  obtain ⟨t, ht⟩ := Option.isSome_iff_exists.1 hx
  exact ⟨t, ht, h.fnm x t ht⟩
theorem empty_cut : cutAll ⟨#[]⟩ = [] := by decide +kernel
theorem FS.fl (h : FS Ps f s) (x : ByteArray) : ((f x).getD ⟨#[]⟩).size ≤ 240 ∧ (cutAll ((f x).getD ⟨#[]⟩)).length ≤ 16 ∧ ∀ l ∈ cutAll ((f x).getD ⟨#[]⟩), l.size ≤ 1000 := by
  cases hf : f x with
  | none =>
    show ((⟨#[]⟩ : ByteArray)).size ≤ 240 ∧ (cutAll ⟨#[]⟩).length ≤ 16 ∧ ∀ l ∈ cutAll ⟨#[]⟩, l.size ≤ 1000
    rw [empty_cut]
    exact ⟨by decide, by simp, by simp⟩
  | some t =>
    have ht := (h.fnm x t hf).2
    exact ⟨ht.1, ht.lines.1, ht.lines.2.1⟩
theorem FS.name (h : FS Ps f s) {x : ByteArray} (hx : x ∈ names3) : NameOK f s x := by
  obtain ⟨h1, h2, h3, h4⟩ := h.sizes x
  obtain ⟨k1, k2, k3⟩ := h.fl x
  have hs := (names3_ok x hx).2
  refine ⟨by omega, by omega, by omega, ?_⟩
  exact { name := by show x.size ≤ 1000; omega, text := by show ((f x).getD ⟨#[]⟩).size ≤ 10000; omega, lines := by show (cutAll ((f x).getD ⟨#[]⟩)).length ≤ 20; omega, row := by show (s x).S.length ≤ 9000; omega, living := by show (rowLines (s x).S).length ≤ 900; omega }
theorem FS.mem (h : FS Ps f s) {x : ByteArray} (hx : (f x).isSome = true ∨ (s x).alive = true) : x ∈ names3 := by
  rcases hx with hx | hx
  · obtain ⟨_, _, h1, _⟩ := h.some_ hx
    exact h1
  · exact (h.snm x hx).1
/-- The names of which there is something, rising. -/
def K0 (f : ByteArray → Option ByteArray) (s : ByteArray → PL) : List ByteArray := names3.filter fun x => (f x).isSome || (s x).alive
theorem FS.all (h : FS Ps f s) : AllOf f s (K0 f s) := by
  refine ⟨names3_srt.filter _, fun x => ?_⟩
  unfold K0
  rw [List.mem_filter, Bool.or_eq_true]
  exact ⟨fun a => a.2, fun a => ⟨h.mem a, a⟩⟩
theorem FS.all_eq (h : FS Ps f s) {K : List ByteArray} (hK : AllOf f s K) : K = K0 f s := Srt.ext hK.1 h.all.1 (fun x => by rw [hK.2, h.all.2])
theorem FS.recs (h : FS Ps f s) : RecOK f s := by
  refine ⟨fun x hx => h.name (h.mem hx), fun K h1 h2 => ?_⟩
  rw [h.all_eq ⟨h1, h2⟩]
  unfold K0
  exact Nat.le_trans (List.length_filter_le _ _) (by decide)

/-- Files that may be recorded. -/
structure FsOK (f : ByteArray → Option ByteArray) (s : ByteArray → PL) (Fs : List Fl) : Prop where
  each : ∀ g ∈ Fs, g = flOf f g.name ∧ g.name ∈ names3 ∧ ((f g.name).isSome = true ∨ (s g.name).alive = true)
  nd : (Fs.map (·.name)).Nodup
  few : Fs.length ≤ 3
theorem chg_fs (h : FS Ps f s) {K : List ByteArray} (hs : Srt K) (hK : ∀ x ∈ K, (f x).isSome = true ∨ (s x).alive = true) (hl : K.length ≤ 3) : FsOK f s (chgOf f s K) := by
  refine ⟨fun g hg => ?_, ?_, ?_⟩
  · unfold chgOf at hg
    obtain ⟨x, hx, rfl⟩ := List.mem_map.1 hg
    have := hK x (List.mem_filter.1 hx).1
    exact ⟨rfl, h.mem this, this⟩
  · unfold chgOf
    rw [List.map_map]
    have e : ((fun g : Fl => g.name) ∘ flOf f) = id := rfl
    rw [e, List.map_id]
    have := hs.filter (differs f s)
    exact this.imp (fun {a b} hab e => by subst e; exact List.lt_irrefl _ hab)
  · unfold chgOf
    rw [List.length_map]
    exact Nat.le_trans (List.length_filter_le _ _) hl
theorem FS.chg0 (h : FS Ps f s) : FsOK f s (chgOf f s (K0 f s)) := chg_fs h h.all.1 (fun x hx => (h.all.2 x).1 hx) (by unfold K0; exact Nat.le_trans (List.length_filter_le _ _) (by decide))
theorem FS.chg1 (h : FS Ps f s) {x : ByteArray} (hx : (f x).isSome = true ∨ (s x).alive = true) : FsOK f s (chgOf f s [x]) := chg_fs h (List.pairwise_singleton _ _) (fun y hy => by rw [List.mem_singleton] at hy; subst hy; exact hx) (by simp)
theorem FsOK.good {Fs : List Fl} (hF : FsOK f s Fs) (h : FS Ps f s) : ∀ g ∈ Fs, FlGood s g := fun g hg => by
  obtain ⟨e, h1, h2⟩ := hF.each g hg
  obtain ⟨_, k2, k3⟩ := h.fl g.name
  refine ⟨?_, fun ha => ?_, ?_⟩
  · rw [e]; show (cutAll ((f g.name).getD ⟨#[]⟩)).length ≤ 20; omega
  · rw [e]
    show (f g.name).isSome = true
    exact h2.resolve_right (by rw [ha]; simp)
  · rw [e]; exact k3

/-- A patch is recorded. -/
theorem FS.record (h : FS Ps f s) (hl : Ps.length < 40) {i : Pid} (hi : i ∉ Ps.map (·.id)) (hiz : i ≠ zid) {Fs : List Fl} {Cs : List (ByteArray × ChM)} {m : Nat → Int} (hF : FsOK f s Fs) (hM : MadeAll s i Fs Cs m) (cv : Value) :
    ∃ s', FS (Ps ++ [⟨i, cv, Cs⟩]) f s' ∧ (∀ g ∈ Fs, (s' g.name).alive = g.there ∧ (g.there = true → rowText (s' g.name).S = g.text)) ∧ (∀ x, (∀ g ∈ Fs, g.name ≠ x) → s' x = s x) ∧ leaveR (Ps ++ [⟨i, cv, Cs⟩]) i = (⟨#[]⟩, 0) ∧ ((Ps ++ [(⟨i, cv, Cs⟩ : PM)]).filter fun P => !decide (P.id = i)) = Ps := by
  obtain ⟨s', h1, h2, h3, h4, h5⟩ := h.rep.record hl hi hiz (hF.good h) (fun g hg => by have := (names3_ok _ (hF.each g hg).2.1).2; omega) hM hF.nd (by have := hF.few; omega) cv
  have hg2 : ∀ g ∈ Fs, (s' g.name).alive = g.there ∧ (g.there = true → rowText (s' g.name).S = g.text ∧ TX g.text) := fun g hg => by
    obtain ⟨a, b⟩ := h2 g hg
    refine ⟨a, fun ht => ?_⟩
    obtain ⟨e, _, _⟩ := hF.each g hg
    have hs : (f g.name).isSome = true := by rw [e] at ht; exact ht
    obtain ⟨t, e2, _, hT⟩ := h.some_ hs
    have e3 : g.text = t := by rw [e]; show (f g.name).getD ⟨#[]⟩ = t; rw [e2]; rfl
    refine ⟨?_, by rw [e3]; exact hT⟩
    show catB (rowLines (s' g.name).S) = g.text
    rw [b ht, e3]
    exact hT.lines.2.2
  refine ⟨s', ⟨h1, h.fnm, fun x hx => ?_⟩, fun g hg => ⟨(hg2 g hg).1, fun ht => ((hg2 g hg).2 ht).1⟩, h3, h4, h5⟩
  by_cases hm : ∃ g ∈ Fs, g.name = x
  · obtain ⟨g, hg, rfl⟩ := hm
    obtain ⟨a, b⟩ := hg2 g hg
    rw [a] at hx
    obtain ⟨b1, b2⟩ := b hx
    exact ⟨(hF.each g hg).2.1, by rw [b1]; exact b2⟩
  · rw [h3 x (fun g hg e => hm ⟨g, hg, e⟩)] at hx ⊢
    exact h.snm x hx
theorem FS.put (h : FS Ps f s) {x t : ByteArray} (hx : x ∈ names3) (ht : TX t) : FS Ps (fun y => if y = x then some t else f y) s := by
  refine ⟨h.rep, fun y u hu => ?_, h.snm⟩
  by_cases e : y = x
  · subst e
    simp only [if_true, Option.some.injEq] at hu
    subst hu
    exact ⟨hx, ht⟩
  · simp only [if_neg e] at hu
    exact h.fnm y u hu
theorem FS.gone (h : FS Ps f s) (x : ByteArray) : FS Ps (fun y => if y = x then none else f y) s := by
  refine ⟨h.rep, fun y u hu => ?_, h.snm⟩
  by_cases e : y = x
  · simp [e] at hu
  · simp only [if_neg e] at hu
    exact h.fnm y u hu
theorem FS.revert (h : FS Ps f s) : FS Ps (keptO s) s := by
  refine ⟨h.rep, fun y u hu => ?_, h.snm⟩
  unfold keptO at hu
  split at hu
  · rename_i ha
    cases hu
    exact h.snm y ha
  · cases hu
theorem FS.nil : FS [] (fun _ => none) (fun _ => pl0) := ⟨RepoG.nil, fun x t h => (by cases h), fun x h => (by cases h)⟩
end

/-- How a change of files is told. -/
def ToldIs (s : ByteArray → PL) (Fs : List Fl) (T : ByteArray) : Prop := ∃ t : Nat → ByteArray, T = ⟨(toldTo t Fs.length).toArray⟩ ∧ ∀ k g, Fs[k]? = some g → TellOf (s g.name) g.there g.text g.name (t k) ∧ 0 < (t k).size
theorem toldTo_congr {t t' : Nat → ByteArray} : ∀ n, (∀ k, k < n → t k = t' k) → toldTo t n = toldTo t' n
  | 0, _ => rfl
  | n + 1, h => by
    show toldTo t n ++ (t n).data.toList = toldTo t' n ++ (t' n).data.toList
    rw [toldTo_congr n (fun k hk => h k (by omega)), h n (by omega)]
theorem ToldIs.det {s : ByteArray → PL} {Fs : List Fl} {T T' : ByteArray} (h : ToldIs s Fs T) (h' : ToldIs s Fs T') : T = T' := by
  obtain ⟨t, rfl, ht⟩ := h
  obtain ⟨t', rfl, ht'⟩ := h'
  rw [toldTo_congr Fs.length (fun k hk => ?_)]
  exact (ht k _ (List.getElem?_eq_getElem hk)).1.det (ht' k _ (List.getElem?_eq_getElem hk)).1
theorem ToldIs.nil {s : ByteArray → PL} {T : ByteArray} (h : ToldIs s [] T) : T = ⟨#[]⟩ := by
  obtain ⟨t, rfl, _⟩ := h
  rfl
theorem ToldIs.one {s : ByteArray → PL} {g : Fl} {T : ByteArray} (h : ToldIs s [g] T) : TellOf (s g.name) g.there g.text g.name T := by
  obtain ⟨t, rfl, ht⟩ := h
  have := (ht 0 g rfl).1
  have e : (⟨(toldTo t [g].length).toArray⟩ : ByteArray) = t 0 := told1 t
  rw [e]
  exact this
theorem ToldIs.ne {s : ByteArray → PL} {Fs : List Fl} {T : ByteArray} (h : ToldIs s Fs T) (hne : Fs ≠ []) : T ≠ ⟨#[]⟩ := by
  obtain ⟨t, rfl, ht⟩ := h
  intro e
  have hl : 0 < Fs.length := List.length_pos_iff.2 hne
  have h0 := (ht 0 _ (List.getElem?_eq_getElem hl)).2
  have hle : ∀ n, 0 < n → 0 < (toldTo t n).length := fun n => by
    induction n with
    | zero => intro h; omega
    | succ n ih =>
      intro _
      show 0 < (toldTo t n ++ (t n).data.toList).length
      rw [List.length_append]
      by_cases hn : n = 0
      · subst hn
        have : (t 0).data.toList.length = (t 0).size := rfl
        omega
      · have := ih (by omega)
        omega
  have h1 := hle Fs.length hl
  have h2 : (toldTo t Fs.length).toArray = #[] := congrArg ByteArray.data e
  have h3 : (toldTo t Fs.length).toArray.size = 0 := by rw [h2]; rfl
  simp at h3
  rw [h3] at h1
  exact absurd h1 (by simp)
theorem tellsP_det {c : ChM} {name : ByteArray} {p : PL} {T T' : ByteArray} (h : TellsP c name p T) (h' : TellsP c name p T') : T = T' := by
  cases c with
  | add i l rv S => rw [h.2, h'.2]
  | remove i rv S => rw [h.2, h'.2]
  | alter i hv Hs =>
    obtain ⟨g, g0, g1, g2, _⟩ := h
    obtain ⟨k, k0, k1, k2, _⟩ := h'
    have : ∀ j, j ≤ Hs.length → g j = k j := by
      intro j
      induction j with
      | zero => intro _; rw [g0, k0]
      | succ j ih =>
        intro hj
        have hh : Hs[j]? = some Hs[j] := List.getElem?_eq_getElem (by omega)
        obtain ⟨t, q, a1, a2, _, _, _, _, _, _, a3⟩ := g1.step j _ hh
        obtain ⟨t', q', b1, b2, _, _, _, _, _, _, b3⟩ := k1.step j _ hh
        rw [a1] at b1
        cases b1
        rw [a2] at b2
        cases b2
        rw [a3, b3, ih (by omega)]
    rw [g2, k2, this _ (Nat.le_refl _)]
theorem FS.tells {Ps : List PM} {f : ByteArray → Option ByteArray} {s : ByteArray → PL} (h : FS Ps f s) {i : Pid} {Fs : List Fl} {Cs : List (ByteArray × ChM)} {m : Nat → Int} (hF : FsOK f s Fs) (hM : MadeAll s i Fs Cs m) :
    (∃ t : Nat → ByteArray, (∀ k c, Cs[k]? = some c → TellsP c.2 c.1 (s c.1) (t k)) ∧ ∀ k, (t k).size ≤ 1000000) ∧ ∀ t : Nat → ByteArray, (∀ k c, Cs[k]? = some c → TellsP c.2 c.1 (s c.1) (t k)) → ToldIs s Fs ⟨(toldTo t Cs.length).toArray⟩ := by
  obtain ⟨hg, hl⟩ := h.good
  have each : ∀ (k : Nat) (c : ByteArray × ChM), Cs[k]? = some c → ∃ g T, Fs[k]? = some g ∧ c.1 = g.name ∧ TellsP c.2 c.1 (s c.1) T ∧ TellOf (s g.name) g.there g.text g.name T ∧ T.size ≤ 1000000 ∧ 0 < T.size := fun k c hk => by
    have hkF : k < Fs.length := by rw [← hM.len]; exact (List.getElem?_eq_some_iff.1 hk).1
    have hgk := List.getElem?_eq_getElem hkF
    obtain ⟨e1, hc⟩ := hM.at_ k _ c hgk hk
    have hG := hF.good h _ (List.getElem_mem hkF)
    obtain ⟨s1, s2, s3, s4⟩ := h.sizes Fs[k].name
    have hnm := (names3_ok _ (hF.each _ (List.getElem_mem hkF)).2.1).2
    obtain ⟨T, t1, t2, t3, t4⟩ := made_told (hg.cells Fs[k].name) hg.noz hc Fs[k].name (by omega) (by omega) s2 s4 hG.lines hG.lsz
    exact ⟨_, T, hgk, e1, by rw [e1]; exact t1, t2, t3, t4⟩
  constructor
  · have : ∀ k : Nat, ∃ T : ByteArray, (∀ c, Cs[k]? = some c → TellsP c.2 c.1 (s c.1) T) ∧ T.size ≤ 1000000 := fun k => by
      cases hk : Cs[k]? with
      | none => exact ⟨⟨#[]⟩, fun c hc => (by cases hc), by decide⟩
      | some c =>
        obtain ⟨_, T, _, _, h1, _, h2, _⟩ := each k c hk
        exact ⟨T, fun c' hc' => by cases hc'; exact h1, h2⟩
    exact ⟨fun k => (this k).choose, fun k c hk => (this k).choose_spec.1 c hk, fun k => (this k).choose_spec.2⟩
  · intro t ht
    refine ⟨t, by rw [hM.len], fun k g hk => ?_⟩
    have hkC : k < Cs.length := by rw [hM.len]; exact (List.getElem?_eq_some_iff.1 hk).1
    obtain ⟨g', T, hg', e1, h1, h2, _, h4⟩ := each k _ (List.getElem?_eq_getElem hkC)
    rw [hk] at hg'
    cases hg'
    have := tellsP_det (ht k _ (List.getElem?_eq_getElem hkC)) h1
    rw [this]
    exact ⟨h2, h4⟩
end Go.Proofs.YtgdfipmdmgkidaaGreatDoor

/- The statement's names and ids. -/
namespace Go.Proofs.YtgdfipmdmgkidaaGreatDoor
open Go.RowKit

set_option maxRecDepth 100000 in
set_option maxHeartbeats 1600000 in
theorem kname49_det (c : Int) (h0 : -9223372036854775808 ≤ c) (h1 : c ≤ 9223372036854775807) :
    ∃ x ∈ names3, ∀ w, Calls Tryz.prog 49 #[.int .i64 c] w fun e w' => e = .returned (.string x) ∧ w' = w := by
  obtain ⟨k, hk, hp⟩ := kpick23_det c 3 (by omega) (by omega) h0 h1
  have HP : Hid (∀ w, Calls Tryz.prog 31 #[.int .i64 c, .int .i64 3] w fun e w' => e = .returned (.int .i64 k) ∧ w' = w) := hp
  clear hp
  obtain rfl | rfl | rfl : k = 0 ∨ k = 1 ∨ k = 2 := by omega
  · refine ⟨nmA, by simp [names3], fun w => ?_⟩
    go_enter Tryz.func49, Tryz.ntmps49
    go_wp2_with (go_at_call 31; refine (HP.out _).mono ?_; rintro e w1 ⟨rfl, rfl⟩)
    go_ret
    exact ⟨rfl, rfl⟩
  · refine ⟨nmB, by simp [names3], fun w => ?_⟩
    go_enter Tryz.func49, Tryz.ntmps49
    go_wp2_with (go_at_call 31; refine (HP.out _).mono ?_; rintro e w1 ⟨rfl, rfl⟩)
    go_ret
    exact ⟨rfl, rfl⟩
  · refine ⟨nmG, by simp [names3], fun w => ?_⟩
    go_enter Tryz.func49, Tryz.ntmps49
    go_wp2_with (go_at_call 31; refine (HP.out _).mono ?_; rintro e w1 ⟨rfl, rfl⟩)
    go_ret
    exact ⟨rfl, rfl⟩

abbrev hexS : ByteArray := ⟨#[48, 49, 50, 51, 52, 53, 54, 55, 56, 57, 97, 98, 99, 100, 101, 102]⟩
def hexN (V : Nat) : Nat → ByteArray
  | 0 => ⟨#[]⟩
  | k + 1 => hexS.extract (V / 16 ^ k % 16) (V / 16 ^ k % 16 + 1) ++ hexN V k
theorem hexN_size (V : Nat) : ∀ k, (hexN V k).size ≤ k
  | 0 => Nat.le_refl _
  | k + 1 => by
    have := hexN_size V k
    show (_ ++ hexN V k).size ≤ _
    rw [ByteArray.size_append, ByteArray.size_extract]
    omega
def idW (n : Nat) : ByteArray := hexN (n * 7919 % 65536) 4
set_option maxRecDepth 100000 in
set_option maxHeartbeats 1600000 in
theorem kid28_any (n : Nat) (hn : n ≤ 1000) (w : World) :
    Calls Tryz.prog 28 #[.int .i64 n] w fun e w' => e = .returned (.string (idW n)) ∧ w' = w := by
  have e1 : ((n : Int) * 7919).tmod 65536 = ((n * 7919 % 65536 : Nat) : Int) := by
    rw [Int.tmod_eq_emod_of_nonneg (by omega)]
    omega
  obtain ⟨V, hV⟩ : ∃ V, n * 7919 % 65536 = V := ⟨_, rfl⟩
  have HV : Hid (idW n = hexN V 4) := by show _ = _; unfold idW; rw [hV]
  rw [hV] at e1
  have hVl : V < 65536 := by omega
  clear hV
  go_enter Tryz.func28, Tryz.ntmps28
  go_wp2
  go_loopw [3, 4, 5] (fun v s i wr => ∃ k : Nat, k ≤ 4 ∧ i = .int .i64 k ∧ v = .int .i64 ((V / 16 ^ k : Nat) : Int) ∧ s = .string (hexN V k) ∧ wr = w) (fun _ _ i _ => 4 - (intOf i).toNat)
  case atStart => exact ⟨0, by omega, rfl, by simp, rfl, rfl⟩
  case round =>
    obtain ⟨k, hk, rfl, rfl, rfl, rfl⟩ := hrel
    obtain ⟨U, hU⟩ : ∃ U, V / 16 ^ k = U := ⟨_, rfl⟩
    have hUl : U ≤ 65535 := by rw [← hU]; have := Nat.div_le_self V (16 ^ k); omega
    have hsz := hexN_size V k
    obtain ⟨S, hS⟩ : ∃ S, hexN V k = S := ⟨_, rfl⟩
    rw [hS] at hsz
    rw [hU, hS]
    have HN : Hid (V / 16 ^ (k + 1) = U / 16) := by show _ = _; rw [← hU, Nat.pow_succ, Nat.div_div_eq_div_mul]
    have HH : Hid (hexN V (k + 1) = hexS.extract (U % 16) (U % 16 + 1) ++ S) := by show hexN V (k + 1) = _; rw [hexN, hU, hS]
    have HS : Hid (hexN V k = S) := hS
    by_cases hlt : k < 4
    · have d1 : ((U : Nat) : Int).tmod 16 = ((U % 16 : Nat) : Int) := by rw [Int.tmod_eq_emod_of_nonneg (by omega)]; omega
      have d2 : ((U : Nat) : Int).tdiv 16 = ((U / 16 : Nat) : Int) := by rw [Int.tdiv_eq_ediv_of_nonneg (by omega)]; omega
      clear hU hS
      go_wp2
      go_roundw
      case rel => exact ⟨k + 1, by omega, by go_num, by rw [HN.out]; go_num, by rw [HH.out], trivial⟩
      case measure => simp [intOf]; omega
    · have e : k = 4 := by omega
      subst e
      clear hU hS
      go_wp2
      go_ret
      exact ⟨by rw [HV.out, HS.out]; rfl, rfl⟩
end Go.Proofs.YtgdfipmdmgkidaaGreatDoor

/- The ids as bytes; the commands' words. -/
namespace Go.Proofs.YtgdfipmdmgkidaaGreatDoor
open Go.RowKit

def uc (n i : Nat) : UInt8 := UInt8.ofNat (gb (idW n) i)
/-- The id of a number, as the program has it. -/
def idN (n : Nat) : Pid := ⟨(uc n 0).toNat, (uc n 1).toNat, (uc n 2).toNat, (uc n 3).toNat⟩
def recHead : ByteArray := ⟨#[114, 101, 99, 111, 114, 100, 32]⟩
def unrHead : ByteArray := ⟨#[117, 110, 114, 101, 99, 111, 114, 100, 32]⟩
abbrev spB : ByteArray := ⟨#[32]⟩
theorem ids_words : ∀ n ∈ List.range 42, idW n = ⟨#[uc n 0, uc n 1, uc n 2, uc n 3]⟩ ∧ wordsOk (recHead ++ idW n) = true ∧ splitAll (recHead ++ idW n) = [wdRecord, idW n] ∧ wordsOk (unrHead ++ idW n) = true ∧ splitAll (unrHead ++ idW n) = [wdUnrecord, idW n] := by decide +kernel
theorem ids_words3 : ∀ n ∈ List.range 42, ∀ x ∈ names3, wordsOk (recHead ++ idW n ++ (spB ++ x)) = true ∧ splitAll (recHead ++ idW n ++ (spB ++ x)) = [wdRecord, idW n, x] := by decide +kernel
theorem ids_apart : ∀ n ∈ List.range 42, ∀ m ∈ List.range 42, idN n = idN m → n = m := by decide +kernel
theorem ids_zero : ∀ n ∈ List.range 42, 1 ≤ n → idN n ≠ zid := by decide +kernel
theorem idN_ok (n : Nat) : IdOK (idN n) := by
  have h : ∀ u : UInt8, (0 : Int) ≤ (u.toNat : Int) ∧ (u.toNat : Int) < 256 := fun u => by
    have := u.toNat_lt
    omega
  exact ⟨h _, h _, h _, h _⟩
theorem idW_size {n : Nat} (h : n ≤ 41) : (idW n).size = 4 := by
  rw [(ids_words n (List.mem_range.2 (by omega))).1]
  rfl
theorem cLog_ok : wordsOk wdLog = true ∧ splitAll wdLog = [wdLog] := by decide +kernel
theorem cRevert_ok : wordsOk wdRevert = true ∧ splitAll wdRevert = [wdRevert] := by decide +kernel

/-- The ids that were given, when the next is the n-th. -/
def idsTo (n : Nat) : List Pid := (List.range' 1 (n - 1)).map idN
theorem idsTo_len (n : Nat) : (idsTo n).length = n - 1 := by simp [idsTo]
theorem idsTo_next {n : Nat} (h : 1 ≤ n) : idsTo (n + 1) = idsTo n ++ [idN n] := by
  unfold idsTo
  have : n + 1 - 1 = (n - 1) + 1 := by omega
  rw [this, List.range'_concat, List.map_append]
  simp
  congr 1
  omega
theorem idsTo_fresh {n : Nat} (h1 : 1 ≤ n) (h : n ≤ 41) : idN n ∉ idsTo n := by
  unfold idsTo
  intro hm
  obtain ⟨m, hm, e⟩ := List.mem_map.1 hm
  rw [List.mem_range'] at hm
  obtain ⟨i, hi, rfl⟩ := hm
  have := ids_apart _ (List.mem_range.2 (by omega)) n (List.mem_range.2 (by omega)) e
  omega
end Go.Proofs.YtgdfipmdmgkidaaGreatDoor

/- Kept of a name of which nothing is kept. -/
namespace Go.Proofs.YtgdfipmdmgkidaaGreatDoor
open Go.RowKit

section
variable {B pb rg cap gb : Nat} {pv : Value} {Ps : List PM} {fb fn : Nat} {f : ByteArray → Option ByteArray} {G : List Pid}
set_option maxRecDepth 100000 in
set_option maxHeartbeats 3200000 in
theorem keptText46_dead {w : World} (h : OneAt w B pb rg cap gb pv Ps fb fn f G) {st : Nat → Nat → ByteArray → PL} {cnt : Nat → Nat} (hs : Stands Ps st cnt) (hPs : Ps.length ≤ 1000) (x : ByteArray) (hx : x.size ≤ 1000) (hnm : nameB x = true) (hal : (st Ps.length 0 x).alive = false) (hS : (st Ps.length 0 x).S.length ≤ 1000000) (hT : (rowText (st Ps.length 0 x).S).size ≤ 1000000000) :
    Calls Tryz.prog 46 #[.pointer (some ⟨rg, 0, none⟩), .string x] w fun e w' => e = .returned (.tuple #[.string ⟨#[]⟩, .int .i64 5]) ∧ Below w.heap.size w w' := by
  have HN : Hid (Calls Tryz.prog 61 #[.string x] w fun e w' => e = .returned (.bool true) ∧ Below w.heap.size w w') := by
    have := isName42_any x w
    rw [hnm] at this
    exact this
  have hkp : keptPL (st Ps.length 0) x = .agg #[.string x, .bool false, .string ⟨#[]⟩] := by unfold keptPL; rw [if_neg (by rw [hal]; simp)]; rfl
  have HF : Hid (∀ w' mb n, n ≤ 100000 → TreeAt w' mb (st Ps.length 0) n → Calls Tryz.prog 78 #[.agg #[.map (some mb)], .string x] w' fun e w'' => e = .returned (.agg #[.string x, .bool false, .string ⟨#[]⟩]) ∧ Below w'.heap.size w' w'') := fun w' mb n hn ht => by
    have := file55_any (st Ps.length 0) mb n x (by omega) w' ht (by omega) hS hT
    rw [hkp] at this
    exact this
  have HK : Hid (∀ u, Below w.heap.size w u → Calls Tryz.prog 77 #[.pointer (some ⟨rg, 0, none⟩)] u fun e w' => ∃ mb n, e = .returned (.agg #[.map (some mb)]) ∧ TreeAt w' mb (st Ps.length 0) n ∧ n ≤ 100000 ∧ u.heap.size ≤ mb ∧ Below u.heap.size u w') := fun u hu => by
    have h1 := h.below hu
    exact kept_any hs h1.view (by omega) h1.r0 h1.lts.2.1
  clear h hs hkp hT hS hal hnm
  go_enter Tryz.func46, Tryz.ntmps46
  go_wp2_with fail
  refine HN.out.mono ?_
  rintro e w1 ⟨rfl, hb1⟩
  clear HN
  go_wp2_with fail
  refine (HK.out w1 hb1).mono ?_
  rintro e w2 ⟨mb, n, rfl, ht, hn, _, hb2⟩
  have HF2 : Hid (Calls Tryz.prog 78 #[.agg #[.map (some mb)], .string x] w2 fun e w'' => e = .returned (.agg #[.string x, .bool false, .string ⟨#[]⟩]) ∧ Below w2.heap.size w2 w'') := HF.out w2 mb n hn ht
  have hs1 := hb1.size
  have hs2 := hb2.size
  clear HK HF ht
  go_wp2_with fail
  refine HF2.out.mono ?_
  rintro e w3 ⟨rfl, hb3⟩
  clear HF2
  have hb4 : Below w.heap.size w w3 := (hb1.trans (hb2.mono hs1)).trans (hb3.mono (by omega))
  go_wp2
  go_ret2
  exact ⟨rfl, hb4.alloc hb4.size _⟩

set_option maxRecDepth 100000 in
set_option maxHeartbeats 1600000 in
/-- World.Kept. -/
theorem kept18_one {w : World} (h : OneAt w B pb rg cap gb pv Ps fb fn f G) {st : Nat → Nat → ByteArray → PL} {cnt : Nat → Nat} (hs : Stands Ps st cnt) (hPs : Ps.length ≤ 1000) (x : ByteArray) (hx : x.size ≤ 1000) (hnm : nameB x = true) (hS : (st Ps.length 0 x).S.length ≤ 1000000) (hT : (rowText (st Ps.length 0 x).S).size ≤ 1000000000) :
    Calls Tryz.prog 18 #[.pointer (some ⟨pb, 0, none⟩), .int .i64 0, .string x] w fun e w' => e = .returned (.tuple #[.string (if (st Ps.length 0 x).alive = true then rowText (st Ps.length 0 x).S else ⟨#[]⟩), .int .i64 (if (st Ps.length 0 x).alive = true then 0 else 5)]) ∧ Below w.heap.size w w' := by
  cases hal : (st Ps.length 0 x).alive
  · have HA : Hid (Calls Tryz.prog 42 #[.pointer (some ⟨pb, 0, none⟩), .int .i64 0] w fun e w' => e = .returned (.bool true) ∧ w' = w) := has26_zero h
    have HK : Hid (Calls Tryz.prog 46 #[.pointer (some ⟨rg, 0, none⟩), .string x] w fun e w' => e = .returned (.tuple #[.string ⟨#[]⟩, .int .i64 5]) ∧ Below w.heap.size w w') := keptText46_dead h hs hPs x hx hnm hal hS hT
    have c0 := h.c0
    have hcap := h.cap1
    clear h hs hal hS hT
    go_enter Tryz.func18, Tryz.ntmps18
    go_wp2_with fail
    refine HA.out.mono ?_
    rintro e w0 ⟨rfl, rfl⟩
    clear HA
    go_wp2_with fail
    refine HK.out.mono ?_
    rintro e w1 ⟨rfl, h2⟩
    clear HK
    go_wp2
    go_ret2
    exact ⟨rfl, h2⟩
  · exact kept13_alive h hs hPs x hx hnm hal hS hT
end
end Go.Proofs.YtgdfipmdmgkidaaGreatDoor

/- The calls of the statement's scripts on a world of one repository. -/
namespace Go.Proofs.YtgdfipmdmgkidaaGreatDoor
open Go.RowKit

abbrev kin (t : TypeId) : Prop := t = 9 ∨ t = 53
abbrev kin3 (t : TypeId) : Prop := t = 9 ∨ t = 53 ∨ t = 45
theorem kin3k {w w' : World} (h : HeldT kin3 w w') : HeldT kin w w' := h.mono (fun _ e => e.elim .inl fun e => .inr (.inl e))
theorem kin9 {w w' : World} (h : HeldT kin w w') : HeldT (· = 9) w w' := h.mono (fun _ e => .inl e)
/-- A world of one repository, as the scripts make it. -/
structure UW (w : World) (B pb rg cap gb fb : Nat) (Ps : List PM) (f : ByteArray → Option ByteArray) (s : ByteArray → PL) (G : List Pid) : Prop where
  fs : FS Ps f s
  one : ∃ pv, OneAt w B pb rg cap gb pv Ps fb 3 f G
section
variable {w : World} {B pb rg cap gb fb : Nat} {Ps : List PM} {f : ByteArray → Option ByteArray} {s : ByteArray → PL} {G : List Pid}
theorem UW.lo (h : UW w B pb rg cap gb fb Ps f s G) : B ≤ w.heap.size := by
  obtain ⟨pv, h1⟩ := h.one
  have := h1.lo
  have := h1.lts
  omega
theorem UW.below (h : UW w B pb rg cap gb fb Ps f s G) {w' : World} (hb : Below w.heap.size w w') : UW w' B pb rg cap gb fb Ps f s G := by
  obtain ⟨pv, h1⟩ := h.one
  exact ⟨h.fs, pv, h1.below hb⟩
theorem UW.of {w' : World} {pv : Value} {fn : Nat} (hf : FS Ps f s) (h : OneAt w' B pb rg cap gb pv Ps fb fn f G) : UW w' B pb rg cap gb fb Ps f s G := ⟨hf, pv, h.few (N := names3) (fun _x hx => hf.mem (.inl hx))⟩
theorem UW.text (h : UW w B pb rg cap gb fb Ps f s G) {x : ByteArray} (hx : x ∈ names3) :
    Calls Tryz.prog 50 #[.pointer (some ⟨pb, 0, none⟩), .int .i64 0, .string x] w fun e w' => e = .returned (.tuple #[.string ((f x).getD ⟨#[]⟩), .int .i64 (if (f x).isSome = true then 0 else 5)]) ∧ Below w.heap.size w w' := by
  obtain ⟨pv, h1⟩ := h.one
  obtain ⟨n1, n2⟩ := names3_ok x hx
  exact text50_one h1 x (by omega) n1
theorem UW.kept (h : UW w B pb rg cap gb fb Ps f s G) {x : ByteArray} (hx : x ∈ names3) :
    Calls Tryz.prog 18 #[.pointer (some ⟨pb, 0, none⟩), .int .i64 0, .string x] w fun e w' => e = .returned (.tuple #[.string (if (s x).alive = true then rowText (s x).S else ⟨#[]⟩), .int .i64 (if (s x).alive = true then 0 else 5)]) ∧ Below w.heap.size w w' := by
  obtain ⟨pv, h1⟩ := h.one
  obtain ⟨n1, n2⟩ := names3_ok x hx
  obtain ⟨st, cnt, hS, rfl, _, _, hl, _⟩ := h.fs.rep
  obtain ⟨s1, _, s3, _⟩ := h.fs.sizes x
  exact kept18_one h1 hS (by omega) x (by omega) n1 (by omega) (by omega)
theorem UW.write (h : UW w B pb rg cap gb fb Ps f s G) {x t : ByteArray} (hx : x ∈ names3) (ht : TX t) :
    Calls Tryz.prog 16 #[.pointer (some ⟨pb, 0, none⟩), .int .i64 0, .string x, .string t] w fun e w' => e = .returned (.int .i64 0) ∧ UW w' B pb rg cap gb fb Ps (fun y => if y = x then some t else f y) s G ∧ Below B w w' ∧ HeldT kin3 w w' := by
  obtain ⟨pv, h1⟩ := h.one
  obtain ⟨n1, n2⟩ := names3_ok x hx
  refine (write16_one h1 h.lo x t (by omega) (by omega) n1 ht.ok (.inr (by omega))).mono ?_
  rintro e w' ⟨rfl, h2, h3, h4⟩
  exact ⟨rfl, UW.of (h.fs.put hx ht) h2, h3, h4⟩
theorem UW.erase (h : UW w B pb rg cap gb fb Ps f s G) {x : ByteArray} (hx : x ∈ names3) :
    Calls Tryz.prog 80 #[.pointer (some ⟨pb, 0, none⟩), .int .i64 0, .string x] w fun e w' => ∃ c : Int, e = .returned (.int .i64 c) ∧ (c = 0 ∨ c = 5) ∧ UW w' B pb rg cap gb fb Ps (fun y => if y = x then none else f y) s G ∧ Below B w w' ∧ HeldT kin3 w w' := by
  obtain ⟨pv, h1⟩ := h.one
  obtain ⟨n1, n2⟩ := names3_ok x hx
  refine (erase80_one h1 h.lo x (by omega) n1).mono ?_
  rintro e w' ⟨c, rfl, hc, h2, h3, h4⟩
  exact ⟨c, rfl, hc, UW.of (h.fs.gone x) h2, h3, h4⟩
theorem UW.new (h : UW w B pb rg cap gb fb Ps f s G) :
    Calls Tryz.prog 17 #[.pointer (some ⟨pb, 0, none⟩), .int .i64 0, .string cNew] w fun e w' => ∃ T, e = .returned (.tuple #[.string T, .int .i64 0]) ∧ ToldIs s (chgOf f s (K0 f s)) T ∧ Below w.heap.size w w' := by
  obtain ⟨pv, h1⟩ := h.one
  obtain ⟨st, cnt, hS, hse, _, _, hl, _⟩ := h.fs.rep
  refine (do_new h1 (fun T w' => ToldIs s (chgOf f s (K0 f s)) T ∧ Below w.heap.size w w') (fun u hu => ?_)).mono ?_
  · have hR := h.fs.recs
    rw [← hse] at hR
    refine (new48_any B pb rg cap gb pv Ps fb 3 f G st cnt u (h1.below hu) hS hl (by omega) hR (fun K Cs m hK hM => ?_)).mono ?_
    · rw [hse] at hK hM ⊢
      have e := h.fs.all_eq hK
      subst e
      exact (h.fs.tells h.fs.chg0 hM).1
    · rintro e w' ⟨K, Cs, m, t, rfl, hK, hM, hT, hb⟩
      rw [hse] at hK hM hT
      have e := h.fs.all_eq hK
      subst e
      exact ⟨_, rfl, (h.fs.tells h.fs.chg0 hM).2 t hT, hu.trans (hb.mono hu.size)⟩
  · rintro e w' ⟨T, rfl, h2, h3⟩
    exact ⟨T, rfl, h2, h3⟩
theorem UW.log (h : UW w B pb rg cap gb fb Ps f s G) :
    Calls Tryz.prog 17 #[.pointer (some ⟨pb, 0, none⟩), .int .i64 0, .string wdLog] w fun e w' => e = .returned (.tuple #[.string ⟨(logL (Ps.map (·.id))).toArray⟩, .int .i64 0]) ∧ Below w.heap.size w w' := by
  obtain ⟨pv, h1⟩ := h.one
  have hl := h.fs.good.2
  refine (do12_any h1 wdLog cLog_ok.1 (fun x c w' => (x = ⟨(logL (Ps.map (·.id))).toArray⟩ ∧ c = 0) ∧ Below w.heap.size w w') (fun u va vc hu ho => ?_)).mono ?_
  · rw [cLog_ok.2] at ho ⊢
    obtain ⟨wb, rfl, htb, hcap, hcl⟩ := words_at ho (by simp)
    have h0 := hcl 0 (by simp)
    have hO := h1.below hu
    refine (carry45_log pb rg wb 0 1 vc pv u (fun x w' => x = ⟨(logL (Ps.map (·.id))).toArray⟩ ∧ Below u.heap.size u w') h0 (by omega) hO.r0 ((ids67_any Ps pv u hO.view (by omega)).mono fun e w' ⟨k1, k2⟩ => ⟨_, k1, rfl, k2⟩)).mono ?_
    rintro e w' ⟨x, rfl, rfl, hb⟩
    exact ⟨_, 0, rfl, ⟨rfl, rfl⟩, hu.trans (hb.mono hu.size)⟩
  · rintro e w' ⟨x, c, rfl, ⟨rfl, rfl⟩, hb⟩
    exact ⟨rfl, hb⟩
theorem UW.revert (h : UW w B pb rg cap gb fb Ps f s G) :
    Calls Tryz.prog 17 #[.pointer (some ⟨pb, 0, none⟩), .int .i64 0, .string wdRevert] w fun e w' => e = .returned (.tuple #[.string ⟨#[]⟩, .int .i64 0]) ∧ UW w' B pb rg cap gb fb Ps (keptO s) s G ∧ Below B w w' ∧ HeldT kin w w' := by
  obtain ⟨pv, h1⟩ := h.one
  obtain ⟨st, cnt, hS, hse, _, _, hl, _⟩ := h.fs.rep
  refine (do12_any h1 wdRevert cRevert_ok.1 (fun x c w' => (x = ⟨#[]⟩ ∧ c = 0) ∧ UW w' B pb rg cap gb fb Ps (keptO s) s G ∧ Below B w w' ∧ HeldT kin w w') (fun u va vc hu ho => ?_)).mono ?_
  · rw [cRevert_ok.2] at ho ⊢
    obtain ⟨wb, rfl, htb, hcap, hcl⟩ := words_at ho (by simp)
    have h0 := hcl 0 (by simp)
    have hO := h1.below hu
    refine (carry45_revert pb rg wb 0 1 vc u (fun w' => UW w' B pb rg cap gb fb Ps (keptO s) s G ∧ Below B w w' ∧ HeldT kin w w') h0 (by omega) ?_).mono ?_
    · have hN : ∀ x ∈ names3, x.size ≤ 1000 ∧ (st Ps.length 0 x).S.length ≤ 1000000 ∧ (rowText (st Ps.length 0 x).S).size ≤ 1000000000 := fun x hx => by
        rw [hse]
        have := (names3_ok x hx).2
        obtain ⟨s1, _, s3, _⟩ := h.fs.sizes x
        exact ⟨by omega, by omega, by omega⟩
      refine (revert71_any hO hS (Nat.le_trans h.lo hu.size) (by omega) (by omega) names3 (by decide) (fun x hx => h.fs.mem (.inl hx)) (fun x hx => h.fs.mem (.inr (by rw [← hse]; exact hx))) hN).mono ?_
      rintro e w' ⟨rfl, h2, h3, h4⟩
      rw [hse] at h2
      exact ⟨rfl, UW.of h.fs.revert h2, (hu.mono h.lo).trans h3, (HeldT.of_below hu).trans h4⟩
    · rintro e w' ⟨rfl, h2⟩
      exact ⟨_, 0, rfl, ⟨rfl, rfl⟩, h2⟩
  · rintro e w' ⟨x, c, rfl, ⟨rfl, rfl⟩, hb⟩
    exact ⟨rfl, hb⟩

/-- What a record of all makes. -/
structure Recd (w w' : World) (B pb rg cap gb fb : Nat) (Ps : List PM) (f : ByteArray → Option ByteArray) (s : ByteArray → PL) (G : List Pid) (i : Pid) (Fs : List Fl) (T : ByteArray) : Prop where
  told : ToldIs s Fs T
  ne : T ≠ ⟨#[]⟩
  st : ∃ P : PM, P.id = i ∧ ∃ s', UW w' B pb rg cap gb fb (Ps ++ [P]) f s' (G ++ [i]) ∧ (∀ g ∈ Fs, (s' g.name).alive = g.there ∧ (g.there = true → rowText (s' g.name).S = g.text)) ∧ (∀ x, (∀ g ∈ Fs, g.name ≠ x) → s' x = s x) ∧ leaveR (Ps ++ [P]) i = (⟨#[]⟩, 0) ∧ ((Ps ++ [P]).filter fun P => !decide (P.id = i)) = Ps
  below : Below B w w'
  held : HeldT kin w w'
theorem UW.record_yes (h : UW w B pb rg cap gb fb Ps f s G) {n : Nat} (h1n : 1 ≤ n) (hn : n ≤ 40) (hG : G.length < 40) (hiG : idN n ∉ G) (hP : Ps.map (·.id) = G) (hne : chgOf f s (K0 f s) ≠ []) :
    Calls Tryz.prog 17 #[.pointer (some ⟨pb, 0, none⟩), .int .i64 0, .string (recHead ++ idW n)] w fun e w' => ∃ T, e = .returned (.tuple #[.string T, .int .i64 0]) ∧ Recd w w' B pb rg cap gb fb Ps f s G (idN n) (chgOf f s (K0 f s)) T := by
  obtain ⟨pv, h1⟩ := h.one
  obtain ⟨st, cnt, hS, hse, _, _, hl, _⟩ := h.fs.rep
  obtain ⟨i1, i2, i3, _⟩ := ids_words n (List.mem_range.2 (by omega))
  have hPl : Ps.length < 40 := by rw [← hP, List.length_map] at hG; exact hG
  refine (do_record h1 (recHead ++ idW n) (uc n 0) (uc n 1) (uc n 2) (uc n 3) ⟨i2, by rw [i3, i1]⟩ 0 (fun T w' => Recd w w' B pb rg cap gb fb Ps f s G (idN n) (chgOf f s (K0 f s)) T) (fun u na nc hu => ?_)).mono (fun e w' ⟨x, k1, k2⟩ => ⟨x, k1, k2⟩)
  have hR := h.fs.recs
  rw [← hse] at hR
  refine (record72_all B pb rg cap gb pv Ps fb 3 f G st cnt (idN n) na nc u (h1.below hu) hS (Nat.le_trans h.lo hu.size) hl (by omega) (idN_ok n) hiG hG hR (fun K hK => ?_) (fun K Cs m hK hM => ?_)).mono ?_
  · rw [hse] at hK ⊢
    have e := h.fs.all_eq hK
    subst e
    exact hne
  · rw [hse] at hK hM ⊢
    have e := h.fs.all_eq hK
    subst e
    exact (h.fs.tells h.fs.chg0 hM).1
  · rintro e w' ⟨K, Cs, m, t, pv', cv, rfl, hK, hM, hT, hO, hb, hh⟩
    rw [hse] at hK hM hT
    have e := h.fs.all_eq hK
    subst e
    have hto := (h.fs.tells h.fs.chg0 hM).2 t hT
    obtain ⟨s', k1, k2, k3, k4, k5⟩ := h.fs.record hPl (by rw [hP]; exact hiG) (ids_zero n (List.mem_range.2 (by omega)) h1n) h.fs.chg0 hM cv
    exact ⟨_, rfl, ⟨hto, hto.ne hne, ⟨_, rfl, s', UW.of k1 hO, k2, k3, k4, k5⟩, (hu.mono h.lo).trans hb, (HeldT.of_below hu).trans hh⟩, kin9 hh⟩
end
end Go.Proofs.YtgdfipmdmgkidaaGreatDoor
