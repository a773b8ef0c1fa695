/- Told: what the two records make. -/
import Derived.Test.YtamadmepbmholaaGreatPwrite
namespace Go.Proofs.YtamadmepbmholaaGreat
open Go.RowKit

abbrev nmA : ByteArray := ⟨#[97]⟩
abbrev id1 : Pid := ⟨48, 48, 48, 49⟩
abbrev id2 : Pid := ⟨48, 48, 48, 50⟩
theorem id1_ok : IdOK id1 := ⟨by decide, by decide, by decide, by decide⟩
theorem id2_ok : IdOK id2 := ⟨by decide, by decide, by decide, by decide⟩

/-- One of the statement's texts. -/
structure Txt (o : ByteArray) (C : List ByteArray) : Prop where
  cut : cutAll o = C
  cat : catB C = o
  nine : ∀ l ∈ C, l ∈ nineLines
  len : C.length ≤ 16
  size : o.size ≤ 208
theorem nine_small : ∀ l ∈ nineLines, l.size ≤ 13 ∧ decide (12 < lineRunes l) = false := by decide +kernel
theorem Txt.ok {o : ByteArray} {C : List ByteArray} (h : Txt o C) : linesOk o = true := by
  have h1 : anyLong (cutAll o) = false := by
    rw [h.cut]
    unfold anyLong
    rw [List.any_eq_false]
    intro l hl
    rw [(nine_small l (h.nine l hl)).2]
    simp
  unfold linesOk
  rw [h1, h.cut]
  have := h.len
  have := h.size
  simp
  omega
theorem Txt.line {o : ByteArray} {C : List ByteArray} (h : Txt o C) : ∀ l ∈ C, l.size ≤ 1000 := fun l hl => by
  have := (nine_small l (h.nine l hl)).1
  omega
theorem nameA : nameB nmA = true := by decide +kernel

/-- A file of one name alone. -/
def only (t : ByteArray) (x : ByteArray) : Option ByteArray := if x = nmA then some t else none
theorem only_put (o n : ByteArray) : (fun x => if x = nmA then some n else only o x) = only n := by
  funext x
  unfold only
  split <;> rfl
theorem none_put (o : ByteArray) : (fun x : ByteArray => if x = nmA then some o else (fun _ => none) x) = only o := rfl
def sOf (p : PL) (x : ByteArray) : PL := if x = nmA then p else pl0
theorem sOf_a (p : PL) : sOf p nmA = p := if_pos rfl
theorem only_a (t : ByteArray) : only t nmA = some t := if_pos rfl
theorem s0_eq : (fun _ : ByteArray => pl0) = sOf pl0 := by
  funext x
  unfold sOf
  split <;> rfl

theorem all_one {t : ByteArray} {p : PL} {K : List ByteArray} (h : AllOf (only t) (sOf p) K) : K = [nmA] := by
  refine Srt.ext h.1 (List.pairwise_singleton _ _) (fun x => ?_)
  rw [h.2, List.mem_singleton]
  unfold only sOf
  by_cases e : x = nmA
  · simp [e]
  · simp [e, pl0]
theorem rec_ok {t : ByteArray} {C : List ByteArray} (ht : Txt t C) {p : PL} (hp : p.S.length ≤ 9000) (hl : (rowLines p.S).length ≤ 900) (hx : (rowText p.S).size ≤ 1000000000) : RecOK (only t) (sOf p) := by
  refine ⟨fun x hx' => ?_, fun K h1 h2 => ?_⟩
  · have e : x = nmA := by
      by_cases e : x = nmA
      · exact e
      · unfold only sOf at hx'
        simp [e, pl0] at hx'
    subst e
    rw [sOf_a]
    refine ⟨by decide, hp, hx, ⟨by show nmA.size ≤ 1000; decide, ?_, ?_, ?_, ?_⟩⟩
    · show ((only t nmA).getD ⟨#[]⟩).size ≤ 10000
      rw [only_a]
      have := ht.size
      show t.size ≤ 10000
      omega
    · show (cutAll ((only t nmA).getD ⟨#[]⟩)).length ≤ 20
      rw [only_a]
      show (cutAll t).length ≤ 20
      rw [ht.cut]
      have := ht.len
      omega
    · show (sOf p nmA).S.length ≤ 9000
      rw [sOf_a]
      exact hp
    · show (rowLines (sOf p nmA).S).length ≤ 900
      rw [sOf_a]
      exact hl
  · rw [all_one ⟨h1, h2⟩]
    decide
theorem fl_a (t : ByteArray) : flOf (only t) nmA = ⟨nmA, true, t⟩ := by
  unfold flOf
  rw [only_a]
  rfl
theorem kept_a (p : PL) (h : p.alive = true) : keptFl (sOf p) nmA = ⟨nmA, true, rowText p.S⟩ := by
  unfold keptFl
  rw [sOf_a, if_pos h]
theorem kept_a0 (p : PL) (h : p.alive = false) : keptFl (sOf p) nmA = ⟨nmA, false, ⟨#[]⟩⟩ := by
  unfold keptFl
  rw [sOf_a, if_neg (by rw [h]; simp)]
theorem chg_dead {t : ByteArray} {p : PL} (h : p.alive = false) : chgOf (only t) (sOf p) [nmA] = [⟨nmA, true, t⟩] := by
  have hd : differs (only t) (sOf p) nmA = true := by
    unfold differs
    rw [fl_a, kept_a0 p h]
    simp
  unfold chgOf
  rw [List.filter_cons_of_pos hd, List.filter_nil, List.map_cons, List.map_nil, fl_a]
theorem chg_same {t : ByteArray} {p : PL} (h : p.alive = true) (he : rowText p.S = t) : chgOf (only t) (sOf p) [nmA] = [] := by
  have hd : differs (only t) (sOf p) nmA = false := by
    unfold differs
    rw [fl_a, kept_a p h, he]
    simp
  unfold chgOf
  rw [List.filter_cons_of_neg (by rw [hd]; simp), List.filter_nil, List.map_nil]
theorem chg_other {t : ByteArray} {p : PL} (h : p.alive = true) (he : t ≠ rowText p.S) : chgOf (only t) (sOf p) [nmA] = [⟨nmA, true, t⟩] := by
  have hd : differs (only t) (sOf p) nmA = true := by
    unfold differs
    rw [fl_a, kept_a p h]
    simp [he]
  unfold chgOf
  rw [List.filter_cons_of_pos hd, List.filter_nil, List.map_cons, List.map_nil, fl_a]

theorem made_one {s : ByteArray → PL} {i : Pid} {g : Fl} {Cs : List (ByteArray × ChM)} {m : Nat → Int} (h : MadeAll s i [g] Cs m) : ∃ c, Cs = [(g.name, c)] ∧ ChMade (s g.name) i 0 g.there g.text c (m 1) := by
  have hl := h.len
  match Cs, hl with
  | [c], _ =>
    obtain ⟨h1, h2⟩ := h.at_ 0 g c rfl rfl
    rw [h.zero] at h2
    obtain ⟨c1, c2⟩ := c
    simp only at h1 h2
    subst h1
    exact ⟨c2, rfl, h2⟩
theorem made_none {s : ByteArray → PL} {i : Pid} {Cs : List (ByteArray × ChM)} {m : Nat → Int} (h : MadeAll s i [] Cs m) : Cs = [] := List.eq_nil_of_length_eq_zero h.len
theorem bring_small (i : Pid) (n : Int) {o : ByteArray} {C : List ByteArray} (h : Txt o C) : Small (bring i n C) := by
  refine ⟨?_, fun l hl => ?_⟩
  · rw [bring_len]
    have := h.len
    omega
  · rw [rowLines_bring] at hl
    exact h.line l hl
theorem told1 (t : Nat → ByteArray) : (⟨(toldTo t 1).toArray⟩ : ByteArray) = t 0 := by
  simp [toldTo]
end Go.Proofs.YtamadmepbmholaaGreat

/- Told: the patches stand, and are told. -/
namespace Go.Proofs.YtamadmepbmholaaGreat
open Go.RowKit

theorem chain_stands {Ps : List PM} {ps : Nat → PL} (h0 : ps 0 = pl0) (hc : ∀ p P, Ps[p]? = some P → ∃ c, P.Cs = [(nmA, c)] ∧ ApplyP c (ps p) (ps (p + 1))) (hl : Ps.length ≤ 900) : Stands Ps (fun p k => sOf (ps (p + k))) (fun p => min p 1000) := by
  refine ⟨?_, fun p P hP => ?_, fun p P k c hP hk x hx => ?_, fun p P k c hP hk => ?_, fun P hP c hcm => ?_, fun P hP => ?_, fun p P hP => ?_, fun p => ?_⟩
  · show sOf (ps 0) = _
    rw [h0, ← s0_eq]
  · obtain ⟨c, e, _⟩ := hc p P hP
    rw [e]
    rfl
  · obtain ⟨c', e, _⟩ := hc p P hP
    rw [e] at hk
    match k, hk with
    | 0, hk =>
      cases hk
      show sOf _ x = sOf _ x
      unfold sOf
      rw [if_neg hx, if_neg hx]
  · obtain ⟨c', e, ha⟩ := hc p P hP
    rw [e] at hk
    match k, hk with
    | 0, hk =>
      cases hk
      show ApplyP c' (sOf _ nmA) (sOf _ nmA)
      rw [sOf_a, sOf_a]
      exact ha
  · obtain ⟨p, hp⟩ := List.mem_iff_getElem?.1 hP
    obtain ⟨c', e, _⟩ := hc p P hp
    rw [e, List.mem_singleton] at hcm
    subst hcm
    show nmA.size ≤ 1000
    decide
  · obtain ⟨p, hp⟩ := List.mem_iff_getElem?.1 hP
    obtain ⟨c', e, _⟩ := hc p P hp
    rw [e]
    simp
  · obtain ⟨c', e, _⟩ := hc p P hP
    have := (List.getElem?_eq_some_iff.1 hP).1
    rw [e]
    simp only [List.length_singleton]
    omega
  · omega

/-- The first patch: an addition. -/
theorem add_facts {o : ByteArray} {C : List ByteArray} (ho : Txt o C) {c : ChM} {n' : Int} (h : ChMade pl0 id1 0 true o c n') : ∃ l rv, c = .add id1 l rv (bring id1 0 C) ∧ TellsP c nmA pl0 (addHead nmA ++ tellB ⟨#[43]⟩ (bring id1 0 C)) ∧ ApplyP c pl0 ⟨id1, true, bring id1 0 C⟩ := by
  cases c with
  | add i l rv S =>
    obtain ⟨_, rfl, rfl, rfl, _⟩ := h
    rw [ho.cut]
    exact ⟨_, rv, rfl, ⟨bring_small _ _ ho, rfl⟩, rfl⟩
  | remove i rv S =>
    obtain ⟨h1, _⟩ := h
    cases h1
  | alter i hv Hs =>
    obtain ⟨h1, _⟩ := h
    cases h1

theorem bring_mem {i : Pid} {n : Int} {L : List ByteArray} {s : Spot} (h : s ∈ bring i n L) : ∃ k, k < L.length ∧ s = brS i n L k := by
  unfold bring brTo at h
  obtain ⟨k, hk, rfl⟩ := List.mem_map.1 h
  exact ⟨k, List.mem_range.1 hk, rfl⟩
theorem bring_nodup (i : Pid) (n : Int) (L : List ByteArray) : (bring i n L).Nodup := by
  unfold bring brTo
  refine List.pairwise_map.2 (List.pairwise_lt_range.imp fun {a b} hab e => ?_)
  have := congrArg Spot.num e
  unfold brS at this
  simp only at this
  omega
theorem framed_nodup {i : Pid} {L : List ByteArray} (hi : ¬ (i.a = 0 ∧ i.b = 0 ∧ i.c = 0 ∧ i.d = 0)) (n : Int) : (framed (bring i n L)).Nodup := by
  unfold framed
  have hne : ∀ s ∈ bring i n L, ∀ k, s ≠ edgeS k := fun s hs k e => by
    obtain ⟨h1, h2, h3, h4⟩ := bring_id hs
    rw [e] at h1 h2 h3 h4
    exact hi ⟨h1.symm, h2.symm, h3.symm, h4.symm⟩
  rw [List.nodup_cons, List.nodup_append]
  refine ⟨fun h => ?_, bring_nodup i n L, List.nodup_cons.2 ⟨by simp, List.nodup_nil⟩, fun a ha b hb e => ?_⟩
  · rcases List.mem_append.1 h with h | h
    · exact hne _ h (-1) rfl
    · rw [List.mem_singleton] at h
      simp [begS, endS, edgeS] at h
  · rw [List.mem_singleton] at hb
    subst hb
    exact hne a ha (-2) e

section
variable {S : List Spot} {N : List ByteArray} {i : Pid} {n : Int} {Q : List Quad} {Hs : List Hk}
theorem made_len (hm : Made (framed S) i n N Q Hs) (hg : GapsR (rowLines S) N 0 0 Q) (hF : (framed S).Nodup) (hid : ∀ s ∈ framed S, ¬ (s.a = i.a ∧ s.b = i.b ∧ s.c = i.c ∧ s.d = i.d)) :
    (fSeq (framed S) (qbOf Q Hs) Hs.length).length ≤ (framed S).length + Hs.length * N.length := by
  have ho := hg.ord (Nat.zero_le _) (Nat.zero_le _)
  have hlf := living_framed S
  have hB : ∀ r ∈ qbOf Q Hs, ∀ s ∈ r.2, s ∉ framed S := fun r hr s hs hsF => by
    obtain ⟨m, h⟩ := qb_mem hm r hr
    rw [h] at hs
    exact hid s hsF (bring_id hs)
  have hM : ∀ r ∈ qbOf Q Hs, r.2.length ≤ N.length := fun r hr => by
    obtain ⟨m, h⟩ := qb_mem hm r hr
    rw [h, bring_len]
    exact linesAt_len N r.1
  have h0 : HkAt (framed S) (qbOf Q Hs) 0 := HkAt.start (living_first S) (by omega) (by rw [qb_map hm, hlf]; exact ho)
  exact (fSeq_len hF hB h0 N.length hM _ (by rw [qb_len hm]; exact Nat.le_refl _)).1
end

/-- The second patch: an alteration. -/
theorem alter_facts {o n : ByteArray} {C D : List ByteArray} (ho : Txt o C) (hn : Txt n D) {c : ChM} {n' : Int} (h : ChMade ⟨id1, true, bring id1 0 C⟩ id2 0 true n c n') :
    ∃ Q S2, GapsR C D 0 0 Q ∧ TellsP c nmA ⟨id1, true, bring id1 0 C⟩ (alterHead nmA ++ catB (Q.flatMap (hunkL C D))) ∧ ApplyP c ⟨id1, true, bring id1 0 C⟩ ⟨id1, true, S2⟩ ∧ rowLines S2 = D ∧ S2.length ≤ 900 := by
  cases c with
  | add i l rv S =>
    obtain ⟨h1, _⟩ := h
    cases h1
  | remove i rv S =>
    obtain ⟨_, h1, _⟩ := h
    cases h1
  | alter i hv Hs =>
    obtain ⟨_, _, rfl, Q, hg, hm, _⟩ := h
    rw [hn.cut] at hg hm
    simp only at hg hm
    have hC := ho.len
    have hD := hn.len
    have hSl := bring_len id1 0 C
    have hF : (framed (bring id1 0 C)).Nodup := framed_nodup (by decide) 0
    have hid : ∀ s ∈ framed (bring id1 0 C), ¬ (s.a = id2.a ∧ s.b = id2.b ∧ s.c = id2.c ∧ s.d = id2.d) := by
      intro s hs hh
      unfold framed at hs
      rcases List.mem_cons.1 hs with rfl | hs
      · exact absurd hh (by decide)
      · rcases List.mem_append.1 hs with hs | hs
        · obtain ⟨_, _, _, h4⟩ := bring_id hs
          rw [h4] at hh
          exact absurd hh.2.2.2 (by decide)
        · rw [List.mem_singleton] at hs
          subst hs
          exact absurd hh (by decide)
    obtain ⟨s1, s2, s3⟩ := made_steps hm hg hF hid (by omega) (by omega)
    have hl := made_len hm hg hF hid
    have ht := made_tells nmA (by decide) hm hg hF (by omega) (by omega) (by rw [rowLines_bring]; omega) (by rw [rowLines_bring]; exact ho.line) hn.line
    have hQ := hg.len (Nat.zero_le _) (Nat.zero_le _)
    have hHs : Hs.length = Q.length := hm.1
    rw [rowLines_bring] at hg ht hQ
    have hFl : (framed (bring id1 0 C)).length = C.length + 2 := by simp [framed, hSl]
    refine ⟨Q, _, hg, ⟨gSeq nmA C D Q, ?_, ht, ?_, by show (bring id1 0 C).length ≤ 90000; omega, by omega⟩, ⟨fSeq (framed (bring id1 0 C)) (qbOf Q Hs), rfl, s1, rfl, by show (bring id1 0 C).length ≤ 100000; omega, by omega⟩, s2, ?_⟩
    · unfold gSeq
      rw [List.take_zero, List.flatMap_nil, catB_nil]
      exact ByteArray.ext (by simp)
    · unfold gSeq
      rw [hHs, List.take_length]
    · have hmr : ∀ X : List Spot, (midRow X).length ≤ X.length := fun X => by unfold midRow; simp; omega
      have h1 := hmr (fSeq (framed (bring id1 0 C)) (qbOf Q Hs) Hs.length)
      have h2 : Hs.length * D.length ≤ 17 * 16 := Nat.mul_le_mul (by omega) hD
      omega
end Go.Proofs.YtamadmepbmholaaGreat

/- Told: the calls of its one world. -/
namespace Go.Proofs.YtamadmepbmholaaGreat
open Go.RowKit

abbrev cRec1 : ByteArray := ⟨#[114, 101, 99, 111, 114, 100, 32, 48, 48, 48, 49]⟩
abbrev cRec2 : ByteArray := ⟨#[114, 101, 99, 111, 114, 100, 32, 48, 48, 48, 50]⟩
abbrev cNew : ByteArray := ⟨#[110, 101, 119]⟩
theorem cRec1_ok : wordsOk cRec1 = true ∧ splitAll cRec1 = [wdRecord, ⟨#[48, 48, 48, 49]⟩] := by decide +kernel
theorem cRec2_ok : wordsOk cRec2 = true ∧ splitAll cRec2 = [wdRecord, ⟨#[48, 48, 48, 50]⟩] := by decide +kernel
theorem cNew_ok : wordsOk cNew = true ∧ splitAll cNew = [wdNew] := by decide +kernel

/-- The words of a command, as they lie. -/
theorem words_at {u : World} {B : Nat} {va : Option Addr} {vc : Nat} {L : List ByteArray} (h : u.ownsRow B 9 1 (.slice va L.length vc) L.length (strs L)) (h0 : 0 < L.length) : ∃ b, va = some ⟨b, 0, none⟩ ∧ TB u b 9 ∧ L.length ≤ vc ∧ ∀ k, (hk : k < L.length) → u.cell? ⟨b, k, none⟩ = some (.string L[k]) := by
  have hc := fun g => World.ownsRow.cells h (g := g)
  rcases h.2 with ⟨_, h1⟩ | ⟨g, cp, cur, h1, _, hg, hcp, _⟩
  · omega
  · cases h1
    refine ⟨g, rfl, ⟨cur, _, hg⟩, hcp, fun k hk => ?_⟩
    have := hc g rfl k (.string L[k]) (by unfold strs; rw [List.getElem?_map, List.getElem?_eq_getElem hk]; rfl)
    rw [← this]
    cases k <;> simp [Addr.add]

section
variable {B pb rg cap gb : Nat} {pv : Value} {Ps : List PM} {fb fn : Nat} {f : ByteArray → Option ByteArray} {G : List Pid}
theorem do_record {w : World} (h : OneAt w B pb rg cap gb pv Ps fb fn f G) (s : ByteArray) (a b c d : UInt8) (hs : wordsOk s = true ∧ splitAll s = [wdRecord, ⟨#[a, b, c, d]⟩]) (cd : Int) (Q : ByteArray → World → Prop)
    (hR : ∀ u na nc, Below w.heap.size w u → Calls Tryz.prog 68 #[.pointer (some ⟨pb, 0, none⟩), .pointer (some ⟨rg, 0, none⟩), .agg #[.int .u8 a.toNat, .int .u8 b.toNat, .int .u8 c.toNat, .int .u8 d.toNat], .slice na 0 nc] u fun e w' => ∃ x, e = .returned (.tuple #[.string x, .int .i64 cd]) ∧ Q x w' ∧ HeldT (· = 9) u w') :
    Calls Tryz.prog 15 #[.pointer (some ⟨pb, 0, none⟩), .int .i64 0, .string s] w fun e w' => ∃ x, e = .returned (.tuple #[.string x, .int .i64 cd]) ∧ Q x w' := by
  refine (do12_any h s hs.1 (fun x c w' => c = cd ∧ Q x w') (fun u va vc hu ho => ?_)).mono ?_
  · rw [hs.2] at ho ⊢
    obtain ⟨wb, rfl, htb, hcap, hcl⟩ := words_at ho (by simp)
    have h0 := hcl 0 (by simp)
    have h1 := hcl 1 (by simp)
    refine (carry29_record pb rg wb 0 vc a b c d u cd Q h0 h1 htb hcap (fun u' na nc hu' => hR u' na nc (hu.trans (hu'.mono hu.size)))).mono ?_
    rintro e w' ⟨x, rfl, hq⟩
    exact ⟨x, cd, rfl, rfl, hq⟩
  · rintro e w' ⟨x, c, rfl, rfl, hq⟩
    exact ⟨x, rfl, hq⟩
theorem do_new {w : World} (h : OneAt w B pb rg cap gb pv Ps fb fn f G) (Q : ByteArray → World → Prop)
    (hR : ∀ u, Below w.heap.size w u → Calls Tryz.prog 62 #[.pointer (some ⟨rg, 0, none⟩)] u fun e w' => ∃ x, e = .returned (.string x) ∧ Q x w') :
    Calls Tryz.prog 15 #[.pointer (some ⟨pb, 0, none⟩), .int .i64 0, .string cNew] w fun e w' => ∃ x, e = .returned (.tuple #[.string x, .int .i64 0]) ∧ Q x w' := by
  refine (do12_any h cNew cNew_ok.1 (fun x c w' => c = 0 ∧ Q x w') (fun u va vc hu ho => ?_)).mono ?_
  · rw [cNew_ok.2] at ho ⊢
    obtain ⟨wb, rfl, htb, hcap, hcl⟩ := words_at ho (by simp)
    have h0 := hcl 0 (by simp)
    refine (carry29_new pb rg wb 0 1 vc u Q h0 (by omega) (hR u hu)).mono ?_
    rintro e w' ⟨x, rfl, hq⟩
    exact ⟨x, 0, rfl, rfl, hq⟩
  · rintro e w' ⟨x, c, rfl, rfl, hq⟩
    exact ⟨x, rfl, hq⟩
end
end Go.Proofs.YtamadmepbmholaaGreat
