/- Told: what the two records make. -/
import Derived.Test.YtgdfipmdmgkidaaGreatDoorPwrite
import Derived.Test.YtgdfipmdmgkidaaGreatDoorPkcom
namespace Go.Proofs.YtgdfipmdmgkidaaGreatDoor
open Go.RowKit

abbrev nmA : ByteArray := ⟨#[97]⟩
abbrev id1 : Pid := ⟨48, 48, 48, 49⟩
abbrev id2 : Pid := ⟨48, 48, 48, 50⟩
theorem id1_ok : IdOK id1 := ⟨by decide, by decide, by decide, by decide⟩
theorem id2_ok : IdOK id2 := ⟨by decide, by decide, by decide, by decide⟩

/-- One of the statement's texts. -/
structure Txt (o : ByteArray) (C : List ByteArray) : Prop where
  cut : cutAll o = C
  cat : catB C = o
  nine : ∀ l ∈ C, l ∈ nineLines
  len : C.length ≤ 16
  size : o.size ≤ 208
theorem nine_small : ∀ l ∈ nineLines, l.size ≤ 13 ∧ decide (12 < lineRunes l) = false := by decide +kernel
theorem Txt.ok {o : ByteArray} {C : List ByteArray} (h : Txt o C) : linesOk o = true := by
  have h1 : anyLong (cutAll o) = false := by
    rw [h.cut]
    unfold anyLong
    rw [List.any_eq_false]
    intro l hl
    rw [(nine_small l (h.nine l hl)).2]
    simp
  unfold linesOk
  rw [h1, h.cut]
  have := h.len
  have := h.size
  simp
  omega
theorem Txt.line {o : ByteArray} {C : List ByteArray} (h : Txt o C) : ∀ l ∈ C, l.size ≤ 1000 := fun l hl => by
  have := (nine_small l (h.nine l hl)).1
  omega
theorem nameA : nameB nmA = true := by decide +kernel

/-- A file of one name alone. -/
def only (t : ByteArray) (x : ByteArray) : Option ByteArray := if x = nmA then some t else none
theorem only_put (o n : ByteArray) : (fun x => if x = nmA then some n else only o x) = only n := by
  funext x
  unfold only
  split <;> rfl
theorem none_put (o : ByteArray) : (fun x : ByteArray => if x = nmA then some o else (fun _ => none) x) = only o := rfl
def sOf (p : PL) (x : ByteArray) : PL := if x = nmA then p else pl0
theorem sOf_a (p : PL) : sOf p nmA = p := if_pos rfl
theorem only_a (t : ByteArray) : only t nmA = some t := if_pos rfl
theorem s0_eq : (fun _ : ByteArray => pl0) = sOf pl0 := by
  funext x
  unfold sOf
  split <;> rfl

theorem all_one {t : ByteArray} {p : PL} {K : List ByteArray} (h : AllOf (only t) (sOf p) K) : K = [nmA] := by
  refine Srt.ext h.1 (List.pairwise_singleton _ _) (fun x => ?_)
  rw [h.2, List.mem_singleton]
  unfold only sOf
  by_cases e : x = nmA
  · simp [e]
  · simp [e, pl0]
theorem rec_ok {t : ByteArray} {C : List ByteArray} (ht : Txt t C) {p : PL} (hp : p.S.length ≤ 9000) (hl : (rowLines p.S).length ≤ 900) (hx : (rowText p.S).size ≤ 1000000000) : RecOK (only t) (sOf p) := by
  refine ⟨fun x hx' => ?_, fun K h1 h2 => ?_⟩
  · have e : x = nmA := by
      by_cases e : x = nmA
      · exact e
      · unfold only sOf at hx'
        simp [e, pl0] at hx'
    subst e
    rw [sOf_a]
    refine ⟨by decide, hp, hx, ⟨by show nmA.size ≤ 1000; decide, ?_, ?_, ?_, ?_⟩⟩
    · show ((only t nmA).getD ⟨#[]⟩).size ≤ 10000
      rw [only_a]
      have := ht.size
      show t.size ≤ 10000
      omega
    · show (cutAll ((only t nmA).getD ⟨#[]⟩)).length ≤ 20
      rw [only_a]
      show (cutAll t).length ≤ 20
      rw [ht.cut]
      have := ht.len
      omega
    · show (sOf p nmA).S.length ≤ 9000
      rw [sOf_a]
      exact hp
    · show (rowLines (sOf p nmA).S).length ≤ 900
      rw [sOf_a]
      exact hl
  · rw [all_one ⟨h1, h2⟩]
    decide
theorem fl_a (t : ByteArray) : flOf (only t) nmA = ⟨nmA, true, t⟩ := by
  unfold flOf
  rw [only_a]
  rfl
theorem kept_a (p : PL) (h : p.alive = true) : keptFl (sOf p) nmA = ⟨nmA, true, rowText p.S⟩ := by
  unfold keptFl
  rw [sOf_a, if_pos h]
theorem kept_a0 (p : PL) (h : p.alive = false) : keptFl (sOf p) nmA = ⟨nmA, false, ⟨#[]⟩⟩ := by
  unfold keptFl
  rw [sOf_a, if_neg (by rw [h]; simp)]
theorem chg_dead {t : ByteArray} {p : PL} (h : p.alive = false) : chgOf (only t) (sOf p) [nmA] = [⟨nmA, true, t⟩] := by
  have hd : differs (only t) (sOf p) nmA = true := by
    unfold differs
    rw [fl_a, kept_a0 p h]
    simp
  unfold chgOf
  rw [List.filter_cons_of_pos hd, List.filter_nil, List.map_cons, List.map_nil, fl_a]
theorem chg_same {t : ByteArray} {p : PL} (h : p.alive = true) (he : rowText p.S = t) : chgOf (only t) (sOf p) [nmA] = [] := by
  have hd : differs (only t) (sOf p) nmA = false := by
    unfold differs
    rw [fl_a, kept_a p h, he]
    simp
  unfold chgOf
  rw [List.filter_cons_of_neg (by rw [hd]; simp), List.filter_nil, List.map_nil]
theorem chg_other {t : ByteArray} {p : PL} (h : p.alive = true) (he : t ≠ rowText p.S) : chgOf (only t) (sOf p) [nmA] = [⟨nmA, true, t⟩] := by
  have hd : differs (only t) (sOf p) nmA = true := by
    unfold differs
    rw [fl_a, kept_a p h]
    simp [he]
  unfold chgOf
  rw [List.filter_cons_of_pos hd, List.filter_nil, List.map_cons, List.map_nil, fl_a]

theorem made_one {s : ByteArray → PL} {i : Pid} {g : Fl} {Cs : List (ByteArray × ChM)} {m : Nat → Int} (h : MadeAll s i [g] Cs m) : ∃ c, Cs = [(g.name, c)] ∧ ChMade (s g.name) i 0 g.there g.text c (m 1) := by
  have hl := h.len
  match Cs, hl with
  | [c], _ =>
    obtain ⟨h1, h2⟩ := h.at_ 0 g c rfl rfl
    rw [h.zero] at h2
    obtain ⟨c1, c2⟩ := c
    simp only at h1 h2
    subst h1
    exact ⟨c2, rfl, h2⟩
theorem made_none {s : ByteArray → PL} {i : Pid} {Cs : List (ByteArray × ChM)} {m : Nat → Int} (h : MadeAll s i [] Cs m) : Cs = [] := List.eq_nil_of_length_eq_zero h.len
theorem bring_small (i : Pid) (n : Int) {o : ByteArray} {C : List ByteArray} (h : Txt o C) : Small (bring i n C) := by
  refine ⟨?_, fun l hl => ?_⟩
  · rw [bring_len]
    have := h.len
    omega
  · rw [rowLines_bring] at hl
    exact h.line l hl
theorem told1 (t : Nat → ByteArray) : (⟨(toldTo t 1).toArray⟩ : ByteArray) = t 0 := by
  simp [toldTo]
end Go.Proofs.YtgdfipmdmgkidaaGreatDoor

/- Told: the patches stand, and are told. -/
namespace Go.Proofs.YtgdfipmdmgkidaaGreatDoor
open Go.RowKit

theorem chain_stands {Ps : List PM} {ps : Nat → PL} (h0 : ps 0 = pl0) (hc : ∀ p P, Ps[p]? = some P → ∃ c, P.Cs = [(nmA, c)] ∧ ApplyP c (ps p) (ps (p + 1))) (hl : Ps.length ≤ 900) : Stands Ps (fun p k => sOf (ps (p + k))) (fun p => min p 1000) := by
  refine ⟨?_, fun p P hP => ?_, fun p P k c hP hk x hx => ?_, fun p P k c hP hk => ?_, fun P hP c hcm => ?_, fun P hP => ?_, fun p P hP => ?_, fun p => ?_⟩
  · show sOf (ps 0) = _
    rw [h0, ← s0_eq]
  · obtain ⟨c, e, _⟩ := hc p P hP
    rw [e]
    rfl
  · obtain ⟨c', e, _⟩ := hc p P hP
    rw [e] at hk
    match k, hk with
    | 0, hk =>
      cases hk
      show sOf _ x = sOf _ x
      unfold sOf
      rw [if_neg hx, if_neg hx]
  · obtain ⟨c', e, ha⟩ := hc p P hP
    rw [e] at hk
    match k, hk with
    | 0, hk =>
      cases hk
      show ApplyP c' (sOf _ nmA) (sOf _ nmA)
      rw [sOf_a, sOf_a]
      exact ha
  · obtain ⟨p, hp⟩ := List.mem_iff_getElem?.1 hP
    obtain ⟨c', e, _⟩ := hc p P hp
    rw [e, List.mem_singleton] at hcm
    subst hcm
    show nmA.size ≤ 1000
    decide
  · obtain ⟨p, hp⟩ := List.mem_iff_getElem?.1 hP
    obtain ⟨c', e, _⟩ := hc p P hp
    rw [e]
    simp
  · obtain ⟨c', e, _⟩ := hc p P hP
    have := (List.getElem?_eq_some_iff.1 hP).1
    rw [e]
    simp only [List.length_singleton]
    omega
  · omega

/-- The first patch: an addition. -/
theorem add_facts {o : ByteArray} {C : List ByteArray} (ho : Txt o C) {c : ChM} {n' : Int} (h : ChMade pl0 id1 0 true o c n') : ∃ l rv, c = .add id1 l rv (bring id1 0 C) ∧ TellsP c nmA pl0 (addHead nmA ++ tellB ⟨#[43]⟩ (bring id1 0 C)) ∧ ApplyP c pl0 ⟨id1, true, bring id1 0 C⟩ := by
  cases c with
  | add i l rv S =>
    obtain ⟨_, rfl, rfl, rfl, _⟩ := h
    rw [ho.cut]
    exact ⟨_, rv, rfl, ⟨bring_small _ _ ho, rfl⟩, rfl⟩
  | remove i rv S =>
    obtain ⟨h1, _⟩ := h
    cases h1
  | alter i hv Hs =>
    obtain ⟨h1, _⟩ := h
    cases h1

theorem bring_mem {i : Pid} {n : Int} {L : List ByteArray} {s : Spot} (h : s ∈ bring i n L) : ∃ k, k < L.length ∧ s = brS i n L k := by
  unfold bring brTo at h
  obtain ⟨k, hk, rfl⟩ := List.mem_map.1 h
  exact ⟨k, List.mem_range.1 hk, rfl⟩
theorem bring_nodup (i : Pid) (n : Int) (L : List ByteArray) : (bring i n L).Nodup := by
  unfold bring brTo
  refine List.pairwise_map.2 (List.pairwise_lt_range.imp fun {a b} hab e => ?_)
  have := congrArg Spot.num e
  unfold brS at this
  simp only at this
  omega
theorem framed_nodup {i : Pid} {L : List ByteArray} (hi : ¬ (i.a = 0 ∧ i.b = 0 ∧ i.c = 0 ∧ i.d = 0)) (n : Int) : (framed (bring i n L)).Nodup := by
  unfold framed
  have hne : ∀ s ∈ bring i n L, ∀ k, s ≠ edgeS k := fun s hs k e => by
    obtain ⟨h1, h2, h3, h4⟩ := bring_id hs
    rw [e] at h1 h2 h3 h4
    exact hi ⟨h1.symm, h2.symm, h3.symm, h4.symm⟩
  rw [List.nodup_cons, List.nodup_append]
  refine ⟨fun h => ?_, bring_nodup i n L, List.nodup_cons.2 ⟨by simp, List.nodup_nil⟩, fun a ha b hb e => ?_⟩
  · rcases List.mem_append.1 h with h | h
    · exact hne _ h (-1) rfl
    · rw [List.mem_singleton] at h
      simp [begS, endS, edgeS] at h
  · rw [List.mem_singleton] at hb
    subst hb
    exact hne a ha (-2) e

section
variable {S : List Spot} {N : List ByteArray} {i : Pid} {n : Int} {Q : List Quad} {Hs : List Hk}
theorem made_len (hm : Made (framed S) i n N Q Hs) (hg : GapsR (rowLines S) N 0 0 Q) (hF : (framed S).Nodup) (hid : ∀ s ∈ framed S, ¬ (s.a = i.a ∧ s.b = i.b ∧ s.c = i.c ∧ s.d = i.d)) :
    (fSeq (framed S) (qbOf Q Hs) Hs.length).length ≤ (framed S).length + Hs.length * N.length := by
  have ho := hg.ord (Nat.zero_le _) (Nat.zero_le _)
  have hlf := living_framed S
  have hB : ∀ r ∈ qbOf Q Hs, ∀ s ∈ r.2, s ∉ framed S := fun r hr s hs hsF => by
    obtain ⟨m, h⟩ := qb_mem hm r hr
    rw [h] at hs
    exact hid s hsF (bring_id hs)
  have hM : ∀ r ∈ qbOf Q Hs, r.2.length ≤ N.length := fun r hr => by
    obtain ⟨m, h⟩ := qb_mem hm r hr
    rw [h, bring_len]
    exact linesAt_len N r.1
  have h0 : HkAt (framed S) (qbOf Q Hs) 0 := HkAt.start (living_first S) (by omega) (by rw [qb_map hm, hlf]; exact ho)
  exact (fSeq_len hF hB h0 N.length hM _ (by rw [qb_len hm]; exact Nat.le_refl _)).1
end

/-- The second patch: an alteration. -/
theorem alter_facts {o n : ByteArray} {C D : List ByteArray} (ho : Txt o C) (hn : Txt n D) {c : ChM} {n' : Int} (h : ChMade ⟨id1, true, bring id1 0 C⟩ id2 0 true n c n') :
    ∃ Q S2, GapsR C D 0 0 Q ∧ TellsP c nmA ⟨id1, true, bring id1 0 C⟩ (alterHead nmA ++ catB (Q.flatMap (hunkL C D))) ∧ ApplyP c ⟨id1, true, bring id1 0 C⟩ ⟨id1, true, S2⟩ ∧ rowLines S2 = D ∧ S2.length ≤ 900 := by
  cases c with
  | add i l rv S =>
    obtain ⟨h1, _⟩ := h
    cases h1
  | remove i rv S =>
    obtain ⟨_, h1, _⟩ := h
    cases h1
  | alter i hv Hs =>
    obtain ⟨_, _, rfl, Q, hg, hm, _⟩ := h
    rw [hn.cut] at hg hm
    simp only at hg hm
    have hC := ho.len
    have hD := hn.len
    have hSl := bring_len id1 0 C
    have hF : (framed (bring id1 0 C)).Nodup := framed_nodup (by decide) 0
    have hid : ∀ s ∈ framed (bring id1 0 C), ¬ (s.a = id2.a ∧ s.b = id2.b ∧ s.c = id2.c ∧ s.d = id2.d) := by
      intro s hs hh
      unfold framed at hs
      rcases List.mem_cons.1 hs with rfl | hs
      · exact absurd hh (by decide)
      · rcases List.mem_append.1 hs with hs | hs
        · obtain ⟨_, _, _, h4⟩ := bring_id hs
          rw [h4] at hh
          exact absurd hh.2.2.2 (by decide)
        · rw [List.mem_singleton] at hs
          subst hs
          exact absurd hh (by decide)
    obtain ⟨s1, s2, s3⟩ := made_steps hm hg hF hid (by omega) (by omega)
    have hl := made_len hm hg hF hid
    have ht := made_tells nmA (by decide) hm hg hF (by omega) (by omega) (by rw [rowLines_bring]; omega) (by rw [rowLines_bring]; exact ho.line) hn.line
    have hQ := hg.len (Nat.zero_le _) (Nat.zero_le _)
    have hHs : Hs.length = Q.length := hm.1
    rw [rowLines_bring] at hg ht hQ
    have hFl : (framed (bring id1 0 C)).length = C.length + 2 := by simp [framed, hSl]
    refine ⟨Q, _, hg, ⟨gSeq nmA C D Q, ?_, ht, ?_, by show (bring id1 0 C).length ≤ 90000; omega, by omega⟩, ⟨fSeq (framed (bring id1 0 C)) (qbOf Q Hs), rfl, s1, rfl, by show (bring id1 0 C).length ≤ 100000; omega, by omega⟩, s2, ?_⟩
    · unfold gSeq
      rw [List.take_zero, List.flatMap_nil, catB_nil]
      exact ByteArray.ext (by simp)
    · unfold gSeq
      rw [hHs, List.take_length]
    · have hmr : ∀ X : List Spot, (midRow X).length ≤ X.length := fun X => by unfold midRow; simp; omega
      have h1 := hmr (fSeq (framed (bring id1 0 C)) (qbOf Q Hs) Hs.length)
      have h2 : Hs.length * D.length ≤ 17 * 16 := Nat.mul_le_mul (by omega) hD
      omega
end Go.Proofs.YtgdfipmdmgkidaaGreatDoor

/- Told: the calls of its one world. -/
namespace Go.Proofs.YtgdfipmdmgkidaaGreatDoor
open Go.RowKit

abbrev cRec1 : ByteArray := ⟨#[114, 101, 99, 111, 114, 100, 32, 48, 48, 48, 49]⟩
abbrev cRec2 : ByteArray := ⟨#[114, 101, 99, 111, 114, 100, 32, 48, 48, 48, 50]⟩
abbrev cNew : ByteArray := ⟨#[110, 101, 119]⟩
theorem cRec1_ok : wordsOk cRec1 = true ∧ splitAll cRec1 = [wdRecord, ⟨#[48, 48, 48, 49]⟩] := by decide +kernel
theorem cRec2_ok : wordsOk cRec2 = true ∧ splitAll cRec2 = [wdRecord, ⟨#[48, 48, 48, 50]⟩] := by decide +kernel
theorem cNew_ok : wordsOk cNew = true ∧ splitAll cNew = [wdNew] := by decide +kernel

/-- The words of a command, as they lie. -/
theorem words_at {u : World} {B : Nat} {va : Option Addr} {vc : Nat} {L : List ByteArray} (h : u.ownsRow B 9 1 (.slice va L.length vc) L.length (strs L)) (h0 : 0 < L.length) : ∃ b, va = some ⟨b, 0, none⟩ ∧ TB u b 9 ∧ L.length ≤ vc ∧ ∀ k, (hk : k < L.length) → u.cell? ⟨b, k, none⟩ = some (.string L[k]) := by
  have hc := fun g => World.ownsRow.cells h (g := g)
  rcases h.2 with ⟨_, h1⟩ | ⟨g, cp, cur, h1, _, hg, hcp, _⟩
  · omega
  · cases h1
    refine ⟨g, rfl, ⟨cur, _, hg⟩, hcp, fun k hk => ?_⟩
    have := hc g rfl k (.string L[k]) (by unfold strs; rw [List.getElem?_map, List.getElem?_eq_getElem hk]; rfl)
    rw [← this]
    cases k <;> simp [Addr.add]

section
variable {B pb rg cap gb : Nat} {pv : Value} {Ps : List PM} {fb fn : Nat} {f : ByteArray → Option ByteArray} {G : List Pid}
theorem do_record {w : World} (h : OneAt w B pb rg cap gb pv Ps fb fn f G) (s : ByteArray) (a b c d : UInt8) (hs : wordsOk s = true ∧ splitAll s = [wdRecord, ⟨#[a, b, c, d]⟩]) (cd : Int) (Q : ByteArray → World → Prop)
    (hR : ∀ u na nc, Below w.heap.size w u → Calls Tryz.prog 72 #[.pointer (some ⟨pb, 0, none⟩), .pointer (some ⟨rg, 0, none⟩), .agg #[.int .u8 a.toNat, .int .u8 b.toNat, .int .u8 c.toNat, .int .u8 d.toNat], .slice na 0 nc] u fun e w' => ∃ x, e = .returned (.tuple #[.string x, .int .i64 cd]) ∧ Q x w' ∧ HeldT (· = 9) u w') :
    Calls Tryz.prog 17 #[.pointer (some ⟨pb, 0, none⟩), .int .i64 0, .string s] w fun e w' => ∃ x, e = .returned (.tuple #[.string x, .int .i64 cd]) ∧ Q x w' := by
  refine (do12_any h s hs.1 (fun x c w' => c = cd ∧ Q x w') (fun u va vc hu ho => ?_)).mono ?_
  · rw [hs.2] at ho ⊢
    obtain ⟨wb, rfl, htb, hcap, hcl⟩ := words_at ho (by simp)
    have h0 := hcl 0 (by simp)
    have h1 := hcl 1 (by simp)
    refine (carry29_record pb rg wb 0 vc a b c d u cd Q h0 h1 htb hcap (fun u' na nc hu' => hR u' na nc (hu.trans (hu'.mono hu.size)))).mono ?_
    rintro e w' ⟨x, rfl, hq⟩
    exact ⟨x, cd, rfl, rfl, hq⟩
  · rintro e w' ⟨x, c, rfl, rfl, hq⟩
    exact ⟨x, rfl, hq⟩
theorem do_new {w : World} (h : OneAt w B pb rg cap gb pv Ps fb fn f G) (Q : ByteArray → World → Prop)
    (hR : ∀ u, Below w.heap.size w u → Calls Tryz.prog 66 #[.pointer (some ⟨rg, 0, none⟩)] u fun e w' => ∃ x, e = .returned (.string x) ∧ Q x w') :
    Calls Tryz.prog 17 #[.pointer (some ⟨pb, 0, none⟩), .int .i64 0, .string cNew] w fun e w' => ∃ x, e = .returned (.tuple #[.string x, .int .i64 0]) ∧ Q x w' := by
  refine (do12_any h cNew cNew_ok.1 (fun x c w' => c = 0 ∧ Q x w') (fun u va vc hu ho => ?_)).mono ?_
  · rw [cNew_ok.2] at ho ⊢
    obtain ⟨wb, rfl, htb, hcap, hcl⟩ := words_at ho (by simp)
    have h0 := hcl 0 (by simp)
    refine (carry29_new pb rg wb 0 1 vc u Q h0 (by omega) (hR u hu)).mono ?_
    rintro e w' ⟨x, rfl, hq⟩
    exact ⟨x, 0, rfl, rfl, hq⟩
  · rintro e w' ⟨x, c, rfl, rfl, hq⟩
    exact ⟨x, rfl, hq⟩
end
end Go.Proofs.YtgdfipmdmgkidaaGreatDoor

/- Told: its steps on the world. -/
namespace Go.Proofs.YtgdfipmdmgkidaaGreatDoor
open Go.RowKit

/-- Patches of one file, one behind the other. -/
def Chain (Ps : List PM) (ps : Nat → PL) : Prop := ps 0 = pl0 ∧ (∀ p P, Ps[p]? = some P → ∃ c, P.Cs = [(nmA, c)] ∧ ApplyP c (ps p) (ps (p + 1))) ∧ Ps.length ≤ 39
theorem Chain.stands {Ps : List PM} {ps : Nat → PL} (h : Chain Ps ps) : Stands Ps (fun p k => sOf (ps (p + k))) (fun p => min p 1000) := chain_stands h.1 h.2.1 (by have := h.2.2; omega)
theorem Chain.snoc {Ps : List PM} {ps : Nat → PL} (h : Chain Ps ps) {i : Pid} {cv : Value} {c : ChM} {p' : PL} (ha : ApplyP c (ps Ps.length) p') (hl : Ps.length ≤ 38) : Chain (Ps ++ [⟨i, cv, [(nmA, c)]⟩]) (fun p => if p = Ps.length + 1 then p' else ps p) := by
  refine ⟨by simp [h.1], fun p P hP => ?_, by simp; omega⟩
  by_cases e : p = Ps.length
  · subst e
    rw [List.getElem?_append_right (Nat.le_refl _), Nat.sub_self] at hP
    cases hP
    refine ⟨c, rfl, ?_⟩
    simp only [if_pos, if_neg (show ¬ Ps.length = Ps.length + 1 by omega)]
    exact ha
  · have hpl : p < Ps.length := by
      have := (List.getElem?_eq_some_iff.1 hP).1
      simp at this
      omega
    rw [List.getElem?_append_left hpl] at hP
    obtain ⟨c', e1, e2⟩ := h.2.1 p P hP
    refine ⟨c', e1, ?_⟩
    simp only [if_neg (show ¬ p = Ps.length + 1 by omega), if_neg (show ¬ p + 1 = Ps.length + 1 by omega)]
    exact e2
theorem Chain.nil (ps : Nat → PL) (h : ps 0 = pl0) : Chain [] ps := ⟨h, fun p P hP => by simp at hP, by simp⟩

theorem tells_one {c : ChM} {p : PL} {T T' : ByteArray} (h : TellsP c nmA p T) (h' : TellsP c nmA p T') : T = T' := by
  cases c with
  | add i l rv S => rw [h.2, h'.2]
  | remove i rv S => rw [h.2, h'.2]
  | alter i hv Hs =>
    obtain ⟨g, g0, g1, g2, _⟩ := h
    obtain ⟨k, k0, k1, k2, _⟩ := h'
    have : ∀ j, j ≤ Hs.length → g j = k j := by
      intro j
      induction j with
      | zero => intro _; rw [g0, k0]
      | succ j ih =>
        intro hj
        have hh : Hs[j]? = some Hs[j] := List.getElem?_eq_getElem (by omega)
        obtain ⟨t, q, a1, a2, _, _, _, _, _, _, a3⟩ := g1.step j _ hh
        obtain ⟨t', q', b1, b2, _, _, _, _, _, _, b3⟩ := k1.step j _ hh
        rw [a1] at b1
        cases b1
        rw [a2] at b2
        cases b2
        rw [a3, b3, ih (by omega)]
    rw [g2, k2, this _ (Nat.le_refl _)]
section
variable {B pb rg cap gb : Nat} {pv : Value} {Ps : List PM} {ps : Nat → PL} {fb fn : Nat} {G : List Pid} {t : ByteArray} {C : List ByteArray}

/-- A record that makes a change of the one file. -/
theorem chain_record {w : World} (h : OneAt w B pb rg cap gb pv Ps fb fn (only t) G) (hc : Chain Ps ps) (hl : Ps.length ≤ 38) (hB : B ≤ w.heap.size) (hfn : fn ≤ 1000) (ht : Txt t C) (hp : (ps Ps.length).S.length ≤ 9000 ∧ (rowLines (ps Ps.length).S).length ≤ 900 ∧ (rowText (ps Ps.length).S).size ≤ 1000000000) {i : Pid} (hi : IdOK i) (hiG : i ∉ G) (hG : G.length < 40)
    (hch : chgOf (only t) (sOf (ps Ps.length)) [nmA] = [⟨nmA, true, t⟩]) (R : ChM → ByteArray → PL → Prop) (hR : ∀ c n', ChMade (ps Ps.length) i 0 true t c n' → ∃ T p', TellsP c nmA (ps Ps.length) T ∧ T.size ≤ 1000000 ∧ ApplyP c (ps Ps.length) p' ∧ R c T p') (na : Option Addr) (nc : Nat) :
    Calls Tryz.prog 72 #[.pointer (some ⟨pb, 0, none⟩), .pointer (some ⟨rg, 0, none⟩), .agg #[.int .u8 i.a, .int .u8 i.b, .int .u8 i.c, .int .u8 i.d], .slice na 0 nc] w fun e w' => ∃ T, e = .returned (.tuple #[.string T, .int .i64 0]) ∧ (∃ c p' pv' cv, R c T p' ∧ Chain (Ps ++ [⟨i, cv, [(nmA, c)]⟩]) (fun p => if p = Ps.length + 1 then p' else ps p) ∧ OneAt w' B pb rg cap gb pv' (Ps ++ [⟨i, cv, [(nmA, c)]⟩]) fb fn (only t) (G ++ [i]) ∧ Below B w w') ∧ HeldT (· = 9) w w' := by
  have hsA : ∀ K, AllOf (only t) (sOf (ps (Ps.length + 0))) K → chgOf (only t) (sOf (ps (Ps.length + 0))) K = [⟨nmA, true, t⟩] := fun K hK => by
    rw [all_one hK]
    exact hch
  refine (record53_yes B pb rg cap gb pv Ps fb fn (only t) G _ _ i na nc w h hc.stands hB (by omega) hfn hi hiG hG (rec_ok ht hp.1 hp.2.1 hp.2.2) (fun K hK => by rw [hsA K hK]; simp) (fun K Cs m hK hM => ?_)).mono ?_
  · rw [hsA K hK] at hM
    obtain ⟨c, rfl, hcm⟩ := made_one hM
    have hcm' : ChMade (ps Ps.length) i 0 true t c (m 1) := by
      have := hcm
      simp only [Nat.add_zero] at this
      rw [sOf_a] at this
      exact this
    obtain ⟨T, p', h1, h2, _⟩ := hR c _ hcm'
    refine ⟨fun _ => T, fun k d hd => ?_, fun _ => h2⟩
    match k, hd with
    | 0, hd =>
      cases hd
      simp only [Nat.add_zero]
      rw [sOf_a]
      exact h1
  · rintro e w' ⟨K, Cs, m, tt, pv', cv, rfl, hK, hM, htt, hO, hb, hh⟩
    rw [hsA K hK] at hM
    obtain ⟨c, rfl, hcm⟩ := made_one hM
    have hcm' : ChMade (ps Ps.length) i 0 true t c (m 1) := by
      have := hcm
      simp only [Nat.add_zero] at this
      rw [sOf_a] at this
      exact this
    obtain ⟨T, p', h1, h2, h3, h4⟩ := hR c _ hcm'
    have htt0 := htt 0 _ rfl
    simp only [Nat.add_zero] at htt0
    rw [sOf_a] at htt0
    have hTe : T = tt 0 := tells_one h1 htt0
    refine ⟨T, ?_, ⟨c, p', pv', cv, h4, hc.snoc h3 hl, hO, hb⟩, hh⟩
    simp only [List.length_singleton]
    rw [told1, hTe]
/-- New, where all is the same. -/
theorem chain_new {w : World} (h : OneAt w B pb rg cap gb pv Ps fb fn (only t) G) (hc : Chain Ps ps) (hfn : fn ≤ 1000) (ht : Txt t C) (hp : (ps Ps.length).S.length ≤ 9000 ∧ (rowLines (ps Ps.length).S).length ≤ 900 ∧ (rowText (ps Ps.length).S).size ≤ 1000000000) (hch : chgOf (only t) (sOf (ps Ps.length)) [nmA] = []) :
    Calls Tryz.prog 66 #[.pointer (some ⟨rg, 0, none⟩)] w fun e w' => ∃ x, e = .returned (.string x) ∧ x = ⟨#[]⟩ ∧ Below w.heap.size w w' := by
  have hsA : ∀ K, AllOf (only t) (sOf (ps (Ps.length + 0))) K → chgOf (only t) (sOf (ps (Ps.length + 0))) K = [] := fun K hK => by
    rw [all_one hK]
    exact hch
  refine (new48_any B pb rg cap gb pv Ps fb fn (only t) G _ _ w h hc.stands (by have := hc.2.2; omega) hfn (rec_ok ht hp.1 hp.2.1 hp.2.2) (fun K Cs m hK hM => ?_)).mono ?_
  · rw [hsA K hK] at hM
    rw [made_none hM]
    exact ⟨fun _ => ⟨#[]⟩, fun k c hk => by simp at hk, fun _ => by show (⟨#[]⟩ : ByteArray).size ≤ 1000000; decide⟩
  · rintro e w' ⟨K, Cs, m, tt, rfl, hK, hM, _, hb⟩
    rw [hsA K hK] at hM
    rw [made_none hM]
    exact ⟨_, rfl, rfl, hb⟩

/-- The first record. -/
theorem told_first {w : World} (h : OneAt w B pb rg cap gb (.slice none 0 0) [] fb fn (only t) []) (hB : B ≤ w.heap.size) (hfn : fn ≤ 1000) (ht : Txt t C) :
    Calls Tryz.prog 17 #[.pointer (some ⟨pb, 0, none⟩), .int .i64 0, .string cRec1] w fun e w' => ∃ T, e = .returned (.tuple #[.string T, .int .i64 0]) ∧ T = addHead nmA ++ tellB ⟨#[43]⟩ (bring id1 0 C) ∧ ∃ pv' P ps, P.length = 1 ∧ Chain P ps ∧ ps 1 = ⟨id1, true, bring id1 0 C⟩ ∧ OneAt w' B pb rg cap gb pv' P fb fn (only t) [id1] ∧ Below B w w' := by
  refine (do_record h cRec1 48 48 48 49 cRec1_ok 0 (fun T w' => T = addHead nmA ++ tellB ⟨#[43]⟩ (bring id1 0 C) ∧ ∃ pv' P ps, P.length = 1 ∧ Chain P ps ∧ ps 1 = ⟨id1, true, bring id1 0 C⟩ ∧ OneAt w' B pb rg cap gb pv' P fb fn (only t) [id1] ∧ Below B w w') (fun u na nc hu => ?_)).mono (fun e w' ⟨x, h1, h2⟩ => ⟨x, h1, h2⟩)
  have hC := ht.len
  have hsz := ht.size
  refine (chain_record (ps := fun _ => pl0) (h.below hu) (Chain.nil _ rfl) (by simp) (Nat.le_trans hB hu.size) hfn ht ⟨by decide, by decide, by decide⟩ id1_ok (by simp) (by simp) (chg_dead rfl) (fun c T p' => T = addHead nmA ++ tellB ⟨#[43]⟩ (bring id1 0 C) ∧ p' = ⟨id1, true, bring id1 0 C⟩) (fun c n' hm => ?_) na nc).mono ?_
  · obtain ⟨l, rv, rfl, h1, h2⟩ := add_facts ht hm
    refine ⟨_, _, h1, ?_, h2, rfl, rfl⟩
    have hcs := cat_size (C.map (tlA 43)) 1003 (fun x hx => by
      obtain ⟨y, hy, rfl⟩ := List.mem_map.1 hx
      have := tlA_size 43 y
      have := ht.line y hy
      omega)
    rw [cat_tlA] at hcs
    have e : tellB ⟨#[43]⟩ (bring id1 0 C) = ⟨(tellL ⟨#[43]⟩ C).toArray⟩ := by unfold tellB; rw [rowLines_bring]
    rw [ByteArray.size_append, e]
    have h5 : (addHead nmA).size = 6 := by decide +kernel
    rw [List.length_map] at hcs
    have : C.length * 1003 ≤ 16 * 1003 := Nat.mul_le_mul_right _ hC
    omega
  · rintro e w' ⟨T, rfl, ⟨c, p', pv', cv, ⟨rfl, rfl⟩, h3, h4, h5⟩, h6⟩
    refine ⟨_, rfl, ⟨rfl, pv', _, _, by simp, h3, by simp, h4, ?_⟩, h6⟩
    exact (hu.mono hB).trans h5

/-- The second record, of another text. -/
theorem told_second {w : World} {n : ByteArray} {D : List ByteArray} {P : List PM} (h : OneAt w B pb rg cap gb pv P fb fn (only n) [id1]) (hP : P.length = 1) (hc : Chain P ps) (hp1 : ps 1 = ⟨id1, true, bring id1 0 C⟩) (hB : B ≤ w.heap.size) (hfn : fn ≤ 1000) (ht : Txt t C) (hn : Txt n D) (hne : n ≠ t) :
    Calls Tryz.prog 17 #[.pointer (some ⟨pb, 0, none⟩), .int .i64 0, .string cRec2] w fun e w' => ∃ T, e = .returned (.tuple #[.string T, .int .i64 0]) ∧ ∃ Q S2 pv' P' ps', GapsR C D 0 0 Q ∧ T = alterHead nmA ++ catB (Q.flatMap (hunkL C D)) ∧ P'.length = 2 ∧ Chain P' ps' ∧ ps' 2 = ⟨id1, true, S2⟩ ∧ rowLines S2 = D ∧ S2.length ≤ 900 ∧ OneAt w' B pb rg cap gb pv' P' fb fn (only n) [id1, id2] ∧ Below B w w' := by
  refine (do_record h cRec2 48 48 48 50 cRec2_ok 0 (fun T w' => ∃ Q S2 pv' P' ps', GapsR C D 0 0 Q ∧ T = alterHead nmA ++ catB (Q.flatMap (hunkL C D)) ∧ P'.length = 2 ∧ Chain P' ps' ∧ ps' 2 = ⟨id1, true, S2⟩ ∧ rowLines S2 = D ∧ S2.length ≤ 900 ∧ OneAt w' B pb rg cap gb pv' P' fb fn (only n) [id1, id2] ∧ Below B w w') (fun u na nc hu => ?_)).mono (fun e w' ⟨x, h1, h2⟩ => ⟨x, h1, h2⟩)
  have hC := ht.len
  have hsz := ht.size
  have hrt : rowText (bring id1 0 C) = t := by unfold rowText; rw [rowLines_bring, ht.cat]
  have hpP : ps P.length = ⟨id1, true, bring id1 0 C⟩ := by rw [hP]; exact hp1
  have hbl := bring_len id1 0 C
  have hpb : (ps P.length).S.length ≤ 9000 ∧ (rowLines (ps P.length).S).length ≤ 900 ∧ (rowText (ps P.length).S).size ≤ 1000000000 := by
    rw [hpP]
    refine ⟨?_, ?_, ?_⟩
    · show (bring id1 0 C).length ≤ 9000
      omega
    · show (rowLines (bring id1 0 C)).length ≤ 900
      rw [rowLines_bring]
      omega
    · show (rowText (bring id1 0 C)).size ≤ 1000000000
      rw [hrt]
      omega
  refine (chain_record (h.below hu) hc (by omega) (Nat.le_trans hB hu.size) hfn hn hpb id2_ok (by decide) (by simp) (by rw [hpP]; exact chg_other rfl (by show n ≠ rowText (bring id1 0 C); rw [hrt]; exact hne))
    (fun c T p' => ∃ Q S2, GapsR C D 0 0 Q ∧ T = alterHead nmA ++ catB (Q.flatMap (hunkL C D)) ∧ p' = ⟨id1, true, S2⟩ ∧ rowLines S2 = D ∧ S2.length ≤ 900) (fun c n' hm => ?_) na nc).mono ?_
  · rw [hpP] at hm ⊢
    obtain ⟨Q, S2, g1, g2, g3, g4, g5⟩ := alter_facts ht hn hm
    refine ⟨_, _, g2, ?_, g3, Q, S2, g1, rfl, rfl, g4, g5⟩
    cases c with
    | add i l rv S => obtain ⟨h1, _⟩ := hm; cases h1
    | remove i rv S => obtain ⟨_, h1, _⟩ := hm; cases h1
    | alter i hv Hs =>
      have hl := g1.len (Nat.zero_le _) (Nat.zero_le _)
      have hok := g1.ok (Nat.zero_le _) (Nat.zero_le _)
      have hcs : ∀ R : List Quad, (∀ q ∈ R, q ∈ Q) → (catB (R.flatMap (hunkL C D))).size ≤ R.length * 40000 := by
        intro R
        induction R with
        | nil => intro _; simp [catB, ByteArray.size]
        | cons q R ih =>
          intro hR
          rw [List.flatMap_cons, catB_app, ByteArray.size_append, List.length_cons, Nat.add_mul]
          have h1 := ih (fun x hx => hR x (by simp [hx]))
          have h2 : (catB (hunkL C D q)).size ≤ 40000 := by
            have hq := hok q (hR q (by simp))
            have h3 := cat_size (hunkL C D q) 1003 (fun l hl => by
              unfold hunkL at hl
              rcases List.mem_cons.1 hl with rfl | hl
              · have := atA_size (n := q.i + 1) (by omega)
                omega
              · rcases List.mem_append.1 hl with hl | hl
                · obtain ⟨x, hx, rfl⟩ := List.mem_map.1 hl
                  have := tlA_size 45 x
                  have := ht.line x (List.mem_of_mem_take (List.mem_of_mem_drop hx))
                  omega
                · obtain ⟨x, hx, rfl⟩ := List.mem_map.1 hl
                  have := tlA_size 43 x
                  have := hn.line x (List.mem_of_mem_take (List.mem_of_mem_drop hx))
                  omega)
            have h4 : (hunkL C D q).length ≤ 33 := by
              unfold hunkL
              have := linesAt_len D q
              have : (midOf C q.i q.k).length ≤ C.length := by unfold midOf; simp; omega
              have := hn.len
              simp
              omega
            have : (hunkL C D q).length * 1003 ≤ 33 * 1003 := Nat.mul_le_mul_right _ h4
            omega
          omega
      have h6 := hcs Q (fun q hq => hq)
      have h7 : (alterHead nmA).size = 8 := by decide +kernel
      rw [ByteArray.size_append, h7]
      have : Q.length * 40000 ≤ 17 * 40000 := Nat.mul_le_mul_right _ (by omega)
      omega
  · rintro e w' ⟨T, rfl, ⟨c, p', pv', cv, ⟨Q, S2, g1, rfl, rfl, g4, g5⟩, h3, h4, h5⟩, h6⟩
    refine ⟨_, rfl, ⟨Q, S2, pv', _, _, g1, rfl, by simp [hP], h3, by simp [hP], g4, g5, h4, (hu.mono hB).trans h5⟩, h6⟩
/-- The second record, of the same text. -/
theorem told_clean {w : World} {P : List PM} (h : OneAt w B pb rg cap gb pv P fb fn (only t) [id1]) (hP : P.length = 1) (hc : Chain P ps) (hp1 : ps 1 = ⟨id1, true, bring id1 0 C⟩) (hB : B ≤ w.heap.size) (hfn : fn ≤ 1000) (ht : Txt t C) :
    Calls Tryz.prog 17 #[.pointer (some ⟨pb, 0, none⟩), .int .i64 0, .string cRec2] w fun e w' => ∃ T, e = .returned (.tuple #[.string T, .int .i64 9]) ∧ T = ⟨#[]⟩ ∧ Below w.heap.size w w' := by
  have hC := ht.len
  have hsz := ht.size
  have hrt : rowText (bring id1 0 C) = t := by unfold rowText; rw [rowLines_bring, ht.cat]
  have hpP : ps (P.length + 0) = ⟨id1, true, bring id1 0 C⟩ := by rw [hP]; exact hp1
  have hbl := bring_len id1 0 C
  refine (do_record h cRec2 48 48 48 50 cRec2_ok 9 (fun T w' => T = ⟨#[]⟩ ∧ Below w.heap.size w w') (fun u na nc hu => ?_)).mono (fun e w' ⟨x, h1, h2⟩ => ⟨x, h1, h2⟩)
  refine (record53_clean B pb rg cap gb pv P fb fn (only t) [id1] _ _ id2 na nc u (h.below hu) hc.stands (Nat.le_trans hB hu.size) (by omega) hfn id2_ok (by decide) (by simp) ?_ (fun K hK => ?_)).mono ?_
  · show RecOK (only t) (sOf (ps (P.length + 0)))
    rw [hpP]
    refine rec_ok ht ?_ ?_ ?_
    · show (bring id1 0 C).length ≤ 9000; omega
    · show (rowLines (bring id1 0 C)).length ≤ 900; rw [rowLines_bring]; omega
    · show (rowText (bring id1 0 C)).size ≤ 1000000000; rw [hrt]; omega
  · have hK' : AllOf (only t) (sOf (ps (P.length + 0))) K := hK
    rw [all_one hK']
    show chgOf (only t) (sOf (ps (P.length + 0))) [nmA] = []
    rw [hpP]
    exact chg_same rfl hrt
  · rintro e w' ⟨rfl, hb⟩
    exact ⟨_, rfl, ⟨rfl, hu.trans (hb.mono hu.size)⟩, HeldT.of_below hb⟩
end
end Go.Proofs.YtgdfipmdmgkidaaGreatDoor

/- The lines of a telling, read one behind another. -/
namespace Go.Proofs.YtgdfipmdmgkidaaGreatDoor
open Go.RowKit

theorem But.under {a b : World} {m B : Nat} (h : But a b m) (h1 : B ≤ m) (h2 : B ≤ a.heap.size) : Below B a b := ⟨h.os, h.tape, h.output, h.size, fun i hi => h.block i (by omega) (by omega)⟩
theorem flat_len {α β : Type} (f : α → List β) (m : Nat) : ∀ Q : List α, (∀ q ∈ Q, (f q).length ≤ m) → (Q.flatMap f).length ≤ Q.length * m
  | [], _ => by simp
  | q :: Q, h => by
    have h1 := h q (by simp)
    have h2 := flat_len f m Q (fun x hx => h x (by simp [hx]))
    rw [List.flatMap_cons, List.length_append, List.length_cons, Nat.succ_mul]
    omega
theorem TReads.small {O : List ByteArray} {a c d : Nat} {X R Z : List ByteArray} (h : TReads O a X c R Z d) : ∀ l ∈ R, l.size ≤ 20 := by
  induction h with
  | done h => intro l hl; cases hl
  | at_ h1 h2 h3 h4 ih =>
    intro l hl
    rcases List.mem_cons.1 hl with rfl | hl
    · rename_i n _ _ _ _ _
      have := (atA_facts (n + 1) (by omega)).2.1
      omega
    · exact ih l hl
  | minus h1 h2 h3 h4 ih =>
    intro l hl
    rcases List.mem_cons.1 hl with rfl | hl
    · exact (tlA_facts 45 (by simp) _ h3).2.1
    · exact ih l hl
  | plus h3 h4 ih =>
    intro l hl
    rcases List.mem_cons.1 hl with rfl | hl
    · exact (tlA_facts 43 (by simp) _ h3).2.1
    · exact ih l hl

theorem tells_small {C D : List ByteArray} {Q : List Quad} (hQ : GapsR C D 0 0 Q) (hC : C.length ≤ 16) (hD : D.length ≤ 16) (hc : ∀ l ∈ C, l ∈ nineLines) (hd : ∀ l ∈ D, l ∈ nineLines) :
    TReads C 0 [] 0 (Q.flatMap (hunkL C D)) D (toldN Q) ∧ (Q.flatMap (hunkL C D)).length ≤ 600 ∧ (catB (Q.flatMap (hunkL C D))).size ≤ 12000 ∧ toldN Q + 2 * CC C D 0 0 = C.length + D.length := by
  have h1 := reads_all C D hc hd (by omega) Q 0 [] 0 (Nat.zero_le _) (hQ.ord (Nat.zero_le _) (Nat.zero_le _)) (fun q hq => (hQ.ok (Nat.zero_le _) (Nat.zero_le _) q hq).2.2.2)
  rw [hQ.gives (Nat.zero_le _) (Nat.zero_le _), List.drop_zero, List.nil_append, Nat.zero_add] at h1
  have h2 := flat_len (hunkL C D) 33 Q (fun q hq => by
    have h := hQ.ok (Nat.zero_le _) (Nat.zero_le _) q hq
    have g1 := midOf_len (O := C) (i := q.i) (k := q.k) h.2.1
    have g2 : (linesAt D q).length ≤ q.l - q.j := by unfold linesAt; simp; omega
    unfold hunkL
    simp only [List.length_cons, List.length_append, List.length_map]
    omega)
  have h3 := hQ.len (Nat.zero_le _) (Nat.zero_le _)
  have h4 := cat_size _ 20 h1.small
  have h5 := hQ.count (Nat.zero_le _) (Nat.zero_le _)
  refine ⟨h1, by omega, by omega, by omega⟩

/-- A line is taken. -/
theorem take_step (w0 : World) (C : List ByteArray) (oa : Option Addr) (oc rb a c d : Nat) (X R Z : List ByteArray) (xv : Value) (s : ByteArray) (w : World) (h : TReads C a X c (s :: R) Z d) (hr : RdAt w rb (.slice oa C.length oc) a xv c) (hv : View w oa C) (hoc : C.length ≤ oc) (hC : C.length ≤ 100) (hrb : rb < w0.heap.size) (hb0 : But w0 w rb) (hown : w.ownsRow w0.heap.size 9 1 xv X.length (strs X)) (hX : X.length ≤ 100) (hc : c ≤ 100) :
    Calls Tryz.prog 20 #[.pointer (some ⟨rb, 0, none⟩), .string s] w fun e w' => e = .returned (.bool true) ∧ ∃ a' X' c' xv', TReads C a' X' c' R Z d ∧ RdAt w' rb (.slice oa C.length oc) a' xv' c' ∧ w'.ownsRow w0.heap.size 9 1 xv' X'.length (strs X') ∧ But w0 w' rb := by
  cases h with
  | at_ h1 h2 h3 h4 =>
    rename_i n
    obtain ⟨f1, f2, f3, f4, f5, _⟩ := atA_facts (n + 1) (by omega)
    by_cases e : a = n
    · subst e
      refine (ktake15_at0 w0 C X oa oc a c rb xv _ w hr hoc (by omega) hrb hb0 hown (by omega) f1 f2 f3 f4 f5 h2).mono ?_
      rintro e w' ⟨rfl, xv', k1, k2, k3⟩
      refine ⟨rfl, a, X, c, xv', ?_, k1, k2, k3⟩
      have e0 : midOf C a a = [] := by unfold midOf; exact List.drop_eq_nil_of_le (by simp; omega)
      rw [e0, List.append_nil] at h4
      exact h4
    · rcases hv with h0 | ⟨b, o, rfl, hb, hcl⟩
      · omega
      · refine (ktake15_at w0 C X b o oc a n c rb xv _ w hr hoc (by omega) hcl hrb hb0 hown (by omega) f1 f2 f3 f4 f5 (by omega) h2).mono ?_
        rintro e w' ⟨rfl, xv', k1, k2, k3⟩
        exact ⟨rfl, n, _, c, xv', h4, k1, k2, k3⟩
  | minus h1 h2 h3 h4 =>
    rename_i l
    obtain ⟨f1, f2, f3, f4, _⟩ := tlA_facts 45 (by simp) l h3
    refine (ktake15_minus C oa oc a c rb xv _ w hr hv (by omega) (by omega) f1 (by omega) f3 h1 (by rw [f4]; exact h2)).mono ?_
    rintro e w' ⟨rfl, k1, k2⟩
    exact ⟨rfl, a + 1, X, c + 1, xv, h4, k1, own_but hown k2 hrb, hb0.trans (k2)⟩
  | plus h3 h4 =>
    rename_i l
    obtain ⟨f1, f2, f3, f4, _⟩ := tlA_facts 43 (by simp) l h3
    refine (ktake15_plus w0 _ X a c rb xv _ w hr hrb hb0 hown (by omega) (by omega) f1 (by omega) f3).mono ?_
    rintro e w' ⟨rfl, xv', k1, k2, k3⟩
    rw [f4] at k2
    exact ⟨rfl, a, _, c + 1, xv', h4, k1, k2, k3⟩

theorem wpList_append_all {P : Program} {w : World} {ops : Array Oper} {rest : List Oper} {o : Oper} {a : Act} {Q : Exit → Act → World → Prop} (hgd : o.guard = none) (s x : Operand) (t : TypeId)
    (ho : o.op = .call { callee := .builtin .append, args := #[s, x], argTypes := #[t, t] })
    (base : Nat) (e : TypeId) (i : TypeInfo) (z : Value) (size bytes : Nat) (ht : P.underlying t = some (.slice e)) (hi : P.info? e = some i) (hz : i.zero = some z)
    (hsize : i.size = size) (hby : i.bytes = bytes) (hzs : z.cells.size = size) (hsz : 0 < size)
    (v : Value) (n : Nat) (xs : List Value) (hs : a.eval s = v) (hown : w.ownsRow base e size v n xs)
    (xa : Option Addr) (m c : Nat) (news : List Value) (hx : a.eval x = .slice xa m c) (hl : news.length = m * size) (hnews : m = 0 ∨ ∃ ad, xa = some ad ∧ ∀ j u, news[j]? = some u → w.cell? (ad.add j) = some u) (h1 : ∀ u ∈ news, u.oneCell' = true)
    (h63 : n + m ≤ maxLen) (hbytes : (n + m) * bytes ≤ 140737488355328) (hbase : base ≤ w.heap.size)
    (h : ∀ va vn vc w', w'.ownsRow base e size (.slice va vn vc) (n + m) (xs ++ news) → w.grownBy w' v.ownBlock → wpList P ops Q rest (a.put o.dst (.slice va vn vc)) w') : wpList P ops Q (o :: rest) a w :=
  wpList_plain hgd fun K hK => by
    have h2 := step_append_all (P := P) (ops := #[]) (K := K) (Q := Q) (E := True) hgd s x t ho base e i z size bytes ht hi hz hsize hby hzs hsz v n xs hs hown xa m c news hx hl hnews h1 h63 hbytes hbase (fun va vn vc w' k1 k2 => hK _ _ (h va vn vc w' k1 k2))
    have hw : Region.wanted o (yielded #[] a.tmps) = true := by simp [Region.wanted, hgd]
    rw [if_pos hw] at h2
    exact h2
end Go.Proofs.YtgdfipmdmgkidaaGreatDoor
