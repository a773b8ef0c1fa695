/- Told: what the two records make. -/
import Derived.Test.YtgdfipmdmgkidaaGreatDoorWcomm
import Derived.Test.YtgdfipmdmgkidaaGreatDoorPmrow
import Derived.Test.YtgdfipmdmgkidaaGreatDoorPheld
import Derived.Test.YtgdfipmdmgkidaaGreatDoorPmake
import Derived.Test.YtgdfipmdmgkidaaGreatDoorPstand
namespace Go.Proofs.YtgdfipmdmgkidaaGreatDoor
open Go.RowKit

abbrev nmA : ByteArray := ⟨#[97]⟩
/-- One of the statement's texts. -/
structure Txt (o : ByteArray) (C : List ByteArray) : Prop where
  cut : cutAll o = C
  cat : catB C = o
  nine : ∀ l ∈ C, l ∈ nineLines
  len : C.length ≤ 16
  size : o.size ≤ 208
theorem nine_small : ∀ l ∈ nineLines, l.size ≤ 13 ∧ decide (12 < lineRunes l) = false := by decide +kernel
theorem Txt.ok {o : ByteArray} {C : List ByteArray} (h : Txt o C) : linesOk o = true := by
  have h1 : anyLong (cutAll o) = false := by
    rw [h.cut]
    unfold anyLong
    rw [List.any_eq_false]
    intro l hl
    rw [(nine_small l (h.nine l hl)).2]
    simp
  unfold linesOk
  rw [h1, h.cut]
  have := h.len
  have := h.size
  simp
  omega
theorem Txt.line {o : ByteArray} {C : List ByteArray} (h : Txt o C) : ∀ l ∈ C, l.size ≤ 1000 := fun l hl => by
  have := (nine_small l (h.nine l hl)).1
  omega
/-- A file of one name alone. -/
def only (t : ByteArray) (x : ByteArray) : Option ByteArray := if x = nmA then some t else none
def sOf (p : PL) (x : ByteArray) : PL := if x = nmA then p else pl0
theorem sOf_a (p : PL) : sOf p nmA = p := if_pos rfl
theorem s0_eq : (fun _ : ByteArray => pl0) = sOf pl0 := by
  funext x
  unfold sOf
  split <;> rfl

theorem told1 (t : Nat → ByteArray) : (⟨(toldTo t 1).toArray⟩ : ByteArray) = t 0 := by
  simp [toldTo]
end Go.Proofs.YtgdfipmdmgkidaaGreatDoor

/- Told: the patches stand, and are told. -/
namespace Go.Proofs.YtgdfipmdmgkidaaGreatDoor
open Go.RowKit

theorem chain_stands {Ps : List PM} {ps : Nat → PL} (h0 : ps 0 = pl0) (hc : ∀ p P, Ps[p]? = some P → ∃ c, P.Cs = [(nmA, c)] ∧ ApplyP c (ps p) (ps (p + 1))) (hl : Ps.length ≤ 900) : Stands Ps (fun p k => sOf (ps (p + k))) (fun p => min p 1000) := by
  refine ⟨?_, fun p P hP => ?_, fun p P k c hP hk x hx => ?_, fun p P k c hP hk => ?_, fun P hP c hcm => ?_, fun P hP => ?_, fun p P hP => ?_, fun p => ?_⟩
  · show sOf (ps 0) = _
    rw [h0, ← s0_eq]
  · obtain ⟨c, e, _⟩ := hc p P hP
    rw [e]
    rfl
  · obtain ⟨c', e, _⟩ := hc p P hP
    rw [e] at hk
    match k, hk with
    | 0, hk =>
      cases hk
      show sOf _ x = sOf _ x
      unfold sOf
      rw [if_neg hx, if_neg hx]
  · obtain ⟨c', e, ha⟩ := hc p P hP
    rw [e] at hk
    match k, hk with
    | 0, hk =>
      cases hk
      show ApplyP c' (sOf _ nmA) (sOf _ nmA)
      rw [sOf_a, sOf_a]
      exact ha
  · obtain ⟨p, hp⟩ := List.mem_iff_getElem?.1 hP
    obtain ⟨c', e, _⟩ := hc p P hp
    rw [e, List.mem_singleton] at hcm
    subst hcm
    show nmA.size ≤ 1000
    decide
  · obtain ⟨p, hp⟩ := List.mem_iff_getElem?.1 hP
    obtain ⟨c', e, _⟩ := hc p P hp
    rw [e]
    simp
  · obtain ⟨c', e, _⟩ := hc p P hP
    have := (List.getElem?_eq_some_iff.1 hP).1
    rw [e]
    simp only [List.length_singleton]
    omega
  · omega

end Go.Proofs.YtgdfipmdmgkidaaGreatDoor

/- Told: the calls of its one world. -/
namespace Go.Proofs.YtgdfipmdmgkidaaGreatDoor
open Go.RowKit

abbrev cNew : ByteArray := ⟨#[110, 101, 119]⟩
theorem cNew_ok : wordsOk cNew = true ∧ splitAll cNew = [wdNew] := by decide +kernel

/-- The words of a command, as they lie. -/
theorem words_at {u : World} {B : Nat} {va : Option Addr} {vc : Nat} {L : List ByteArray} (h : u.ownsRow B 9 1 (.slice va L.length vc) L.length (strs L)) (h0 : 0 < L.length) : ∃ b, va = some ⟨b, 0, none⟩ ∧ TB u b 9 ∧ L.length ≤ vc ∧ ∀ k, (hk : k < L.length) → u.cell? ⟨b, k, none⟩ = some (.string L[k]) := by
  have hc := fun g => World.ownsRow.cells h (g := g)
  rcases h.2 with ⟨_, h1⟩ | ⟨g, cp, cur, h1, _, hg, hcp, _⟩
  · omega
  · cases h1
    refine ⟨g, rfl, ⟨cur, _, hg⟩, hcp, fun k hk => ?_⟩
    have := hc g rfl k (.string L[k]) (by unfold strs; rw [List.getElem?_map, List.getElem?_eq_getElem hk]; rfl)
    rw [← this]
    cases k <;> simp [Addr.add]

section
variable {B pb rg cap gb : Nat} {pv : Value} {Ps : List PM} {fb fn : Nat} {f : ByteArray → Option ByteArray} {G : List Pid}
theorem do_record {w : World} (h : OneAt w B pb rg cap gb pv Ps fb fn f G) (s : ByteArray) (a b c d : UInt8) (hs : wordsOk s = true ∧ splitAll s = [wdRecord, ⟨#[a, b, c, d]⟩]) (cd : Int) (Q : ByteArray → World → Prop)
    (hR : ∀ u na nc, Below w.heap.size w u → Calls Tryz.prog 72 #[.pointer (some ⟨pb, 0, none⟩), .pointer (some ⟨rg, 0, none⟩), .agg #[.int .u8 a.toNat, .int .u8 b.toNat, .int .u8 c.toNat, .int .u8 d.toNat], .slice na 0 nc] u fun e w' => ∃ x, e = .returned (.tuple #[.string x, .int .i64 cd]) ∧ Q x w' ∧ HeldT (· = 9) u w') :
    Calls Tryz.prog 17 #[.pointer (some ⟨pb, 0, none⟩), .int .i64 0, .string s] w fun e w' => ∃ x, e = .returned (.tuple #[.string x, .int .i64 cd]) ∧ Q x w' := by
  refine (do12_any h s hs.1 (fun x c w' => c = cd ∧ Q x w') (fun u va vc hu ho => ?_)).mono ?_
  · rw [hs.2] at ho ⊢
    obtain ⟨wb, rfl, htb, hcap, hcl⟩ := words_at ho (by simp)
    have h0 := hcl 0 (by simp)
    have h1 := hcl 1 (by simp)
    refine (carry29_record pb rg wb 0 vc a b c d u cd Q h0 h1 htb hcap (fun u' na nc hu' => hR u' na nc (hu.trans (hu'.mono hu.size)))).mono ?_
    rintro e w' ⟨x, rfl, hq⟩
    exact ⟨x, cd, rfl, rfl, hq⟩
  · rintro e w' ⟨x, c, rfl, rfl, hq⟩
    exact ⟨x, rfl, hq⟩
theorem do_new {w : World} (h : OneAt w B pb rg cap gb pv Ps fb fn f G) (Q : ByteArray → World → Prop)
    (hR : ∀ u, Below w.heap.size w u → Calls Tryz.prog 66 #[.pointer (some ⟨rg, 0, none⟩)] u fun e w' => ∃ x, e = .returned (.string x) ∧ Q x w') :
    Calls Tryz.prog 17 #[.pointer (some ⟨pb, 0, none⟩), .int .i64 0, .string cNew] w fun e w' => ∃ x, e = .returned (.tuple #[.string x, .int .i64 0]) ∧ Q x w' := by
  refine (do12_any h cNew cNew_ok.1 (fun x c w' => c = 0 ∧ Q x w') (fun u va vc hu ho => ?_)).mono ?_
  · rw [cNew_ok.2] at ho ⊢
    obtain ⟨wb, rfl, htb, hcap, hcl⟩ := words_at ho (by simp)
    have h0 := hcl 0 (by simp)
    refine (carry29_new pb rg wb 0 1 vc u Q h0 (by omega) (hR u hu)).mono ?_
    rintro e w' ⟨x, rfl, hq⟩
    exact ⟨x, 0, rfl, rfl, hq⟩
  · rintro e w' ⟨x, c, rfl, rfl, hq⟩
    exact ⟨x, rfl, hq⟩
end
end Go.Proofs.YtgdfipmdmgkidaaGreatDoor

/- Told: its steps on the world. -/
namespace Go.Proofs.YtgdfipmdmgkidaaGreatDoor
open Go.RowKit

/-- Patches of one file, one behind the other. -/
def Chain (Ps : List PM) (ps : Nat → PL) : Prop := ps 0 = pl0 ∧ (∀ p P, Ps[p]? = some P → ∃ c, P.Cs = [(nmA, c)] ∧ ApplyP c (ps p) (ps (p + 1))) ∧ Ps.length ≤ 39
theorem Chain.stands {Ps : List PM} {ps : Nat → PL} (h : Chain Ps ps) : Stands Ps (fun p k => sOf (ps (p + k))) (fun p => min p 1000) := chain_stands h.1 h.2.1 (by have := h.2.2; omega)
theorem Chain.snoc {Ps : List PM} {ps : Nat → PL} (h : Chain Ps ps) {i : Pid} {cv : Value} {c : ChM} {p' : PL} (ha : ApplyP c (ps Ps.length) p') (hl : Ps.length ≤ 38) : Chain (Ps ++ [⟨i, cv, [(nmA, c)]⟩]) (fun p => if p = Ps.length + 1 then p' else ps p) := by
  refine ⟨by simp [h.1], fun p P hP => ?_, by simp; omega⟩
  by_cases e : p = Ps.length
  · subst e
    rw [List.getElem?_append_right (Nat.le_refl _), Nat.sub_self] at hP
    cases hP
    refine ⟨c, rfl, ?_⟩
    simp only [if_pos, if_neg (show ¬ Ps.length = Ps.length + 1 by omega)]
    exact ha
  · have hpl : p < Ps.length := by
      have := (List.getElem?_eq_some_iff.1 hP).1
      simp at this
      omega
    rw [List.getElem?_append_left hpl] at hP
    obtain ⟨c', e1, e2⟩ := h.2.1 p P hP
    refine ⟨c', e1, ?_⟩
    simp only [if_neg (show ¬ p = Ps.length + 1 by omega), if_neg (show ¬ p + 1 = Ps.length + 1 by omega)]
    exact e2
theorem Chain.nil (ps : Nat → PL) (h : ps 0 = pl0) : Chain [] ps := ⟨h, fun p P hP => by simp at hP, by simp⟩

end Go.Proofs.YtgdfipmdmgkidaaGreatDoor

/- The lines of a telling, read one behind another. -/
namespace Go.Proofs.YtgdfipmdmgkidaaGreatDoor
open Go.RowKit

theorem TReads.small {O : List ByteArray} {a c d : Nat} {X R Z : List ByteArray} (h : TReads O a X c R Z d) : ∀ l ∈ R, l.size ≤ 20 := by
  induction h with
  | done h => intro l hl; cases hl
  | at_ h1 h2 h3 h4 ih =>
    intro l hl
    rcases List.mem_cons.1 hl with rfl | hl
    · rename_i n _ _ _ _ _
      have := (atA_facts (n + 1) (by omega)).2.1
      omega
    · exact ih l hl
  | minus h1 h2 h3 h4 ih =>
    intro l hl
    rcases List.mem_cons.1 hl with rfl | hl
    · exact (tlA_facts 45 (by simp) _ h3).2.1
    · exact ih l hl
  | plus h3 h4 ih =>
    intro l hl
    rcases List.mem_cons.1 hl with rfl | hl
    · exact (tlA_facts 43 (by simp) _ h3).2.1
    · exact ih l hl

theorem wpList_append_all {P : Program} {w : World} {ops : Array Oper} {rest : List Oper} {o : Oper} {a : Act} {Q : Exit → Act → World → Prop} (hgd : o.guard = none) (s x : Operand) (t : TypeId)
    (ho : o.op = .call { callee := .builtin .append, args := #[s, x], argTypes := #[t, t] })
    (base : Nat) (e : TypeId) (i : TypeInfo) (z : Value) (size bytes : Nat) (ht : P.underlying t = some (.slice e)) (hi : P.info? e = some i) (hz : i.zero = some z)
    (hsize : i.size = size) (hby : i.bytes = bytes) (hzs : z.cells.size = size) (hsz : 0 < size)
    (v : Value) (n : Nat) (xs : List Value) (hs : a.eval s = v) (hown : w.ownsRow base e size v n xs)
    (xa : Option Addr) (m c : Nat) (news : List Value) (hx : a.eval x = .slice xa m c) (hl : news.length = m * size) (hnews : m = 0 ∨ ∃ ad, xa = some ad ∧ ∀ j u, news[j]? = some u → w.cell? (ad.add j) = some u) (h1 : ∀ u ∈ news, u.oneCell' = true)
    (h63 : n + m ≤ maxLen) (hbytes : (n + m) * bytes ≤ 140737488355328) (hbase : base ≤ w.heap.size)
    (h : ∀ va vn vc w', w'.ownsRow base e size (.slice va vn vc) (n + m) (xs ++ news) → w.grownBy w' v.ownBlock → wpList P ops Q rest (a.put o.dst (.slice va vn vc)) w') : wpList P ops Q (o :: rest) a w :=
  wpList_plain hgd fun K hK => by
    have h2 := step_append_all (P := P) (ops := #[]) (K := K) (Q := Q) (E := True) hgd s x t ho base e i z size bytes ht hi hz hsize hby hzs hsz v n xs hs hown xa m c news hx hl hnews h1 h63 hbytes hbase (fun va vn vc w' k1 k2 => hK _ _ (h va vn vc w' k1 k2))
    have hw : Region.wanted o (yielded #[] a.tmps) = true := by simp [Region.wanted, hgd]
    rw [if_pos hw] at h2
    exact h2
end Go.Proofs.YtgdfipmdmgkidaaGreatDoor

/- Mathematics: the cells of a file: which there are behind an alteration, which of them live. -/
namespace Go.Proofs.YtgdfipmdmgkidaaGreatDoor
open Go.RowKit

/-- The patch that brought a cell. -/
def sid (s : Spot) : Pid := ⟨s.a, s.b, s.c, s.d⟩
/-- A cell, alive or dead. -/
def cid (s : Spot) : Pid × Int := (sid s, s.num)
theorem cid_dead (s : Spot) : cid (deadS s) = cid s := rfl
theorem cids_dead (S : List Spot) : (deadRow S).map cid = S.map cid := by
  unfold deadRow
  rw [List.map_map]
  rfl

theorem tail_mem {F : List Spot} : ∀ (QB : List (Quad × List Spot)) (c : Nat) (s : Spot), s ∈ tailRow F c QB → s ∈ F ∨ (∃ t ∈ F, s = deadS t) ∨ ∃ r ∈ QB, s ∈ r.2
  | [], c, s, h => .inl (List.mem_of_mem_drop h)
  | (q, B) :: R, c, s, h => by
    unfold tailRow at h
    rcases List.mem_append.1 h with h | h
    · exact .inl (List.mem_of_mem_take (List.mem_of_mem_drop h))
    · rcases List.mem_append.1 h with h | h
      · obtain ⟨t, ht, rfl⟩ := List.mem_map.1 h
        exact .inr (.inl ⟨t, List.mem_of_mem_take (List.mem_of_mem_drop ht), rfl⟩)
      · rcases List.mem_append.1 h with h | h
        · exact .inr (.inr ⟨(q, B), List.mem_cons_self, h⟩)
        · rcases tail_mem R _ s h with h | h | ⟨r, hr, h⟩
          · exact .inl h
          · exact .inr (.inl h)
          · exact .inr (.inr ⟨r, List.mem_cons_of_mem _ hr, h⟩)

theorem split_three (F : List Spot) {c a b : Nat} (hca : c ≤ a) (hab : a ≤ b) : F.drop c = (F.take a).drop c ++ ((F.take b).drop a ++ F.drop b) := by
  have h1 : F.drop a = (F.take b).drop a ++ F.drop b := by
    conv => lhs; rw [← List.take_append_drop b F]
    by_cases hb : b ≤ F.length
    · rw [List.drop_append_of_le_length (by simp; omega)]
    · rw [List.drop_of_length_le (show F.length ≤ b by omega), List.append_nil, List.append_nil]
  have h2 : F.drop c = (F.take a).drop c ++ F.drop a := by
    conv => lhs; rw [← List.take_append_drop a F]
    by_cases ha : a ≤ F.length
    · rw [List.drop_append_of_le_length (by simp; omega)]
    · rw [List.drop_of_length_le (show F.length ≤ a by omega), List.append_nil, List.append_nil]
  rw [h2, h1]

theorem tail_cids {F : List Spot} : ∀ (QB : List (Quad × List Spot)) (x : Nat), GOrd (living F).length x (QB.map (·.1)) →
    ((tailRow F ((living F).getD x 0) QB).map cid).Perm ((F.drop ((living F).getD x 0)).map cid ++ (QB.flatMap (·.2)).map cid)
  | [], x, _ => by simp [tailRow]
  | (q, B) :: R, x, h => by
    have h' : GOrd (living F).length x (q :: R.map (·.1)) := h
    obtain ⟨h1, h2, h3, h4, h5⟩ := GOrd.at h'
    have ih := tail_cids R (q.k + 1) h.2.2.2
    have e : (living F).getD (q.k + 1) 0 = bv F q := rfl
    rw [e] at ih
    unfold tailRow
    rw [split_three F (show (living F).getD x 0 ≤ av F q + 1 by omega) (show av F q + 1 ≤ bv F q by omega)]
    simp only [List.map_append, cids_dead, List.flatMap_cons, List.append_assoc]
    refine List.Perm.append_left _ (List.Perm.append_left _ ?_)
    refine ((List.Perm.append_left _ ih).trans ?_)
    rw [← List.append_assoc, ← List.append_assoc]
    exact List.Perm.append_right _ List.perm_append_comm

/-- All cells that the hunks of an alteration bring. -/
def brAll (i : Pid) (N : List ByteArray) : Int → List Quad → List Spot
  | _, [] => []
  | n, q :: R => bring i n (linesAt N q) ++ brAll i N (n + (linesAt N q).length) R
theorem Made.tail {F : List Spot} {i : Pid} {n : Int} {N : List ByteArray} {q : Quad} {Q : List Quad} {h : Hk} {Hs : List Hk} (hm : Made F i n N (q :: Q) (h :: Hs)) : h.N = namedOf F q ∧ h.Br = bring i n (linesAt N q) ∧ Made F i (n + (linesAt N q).length) N Q Hs := by
  obtain ⟨q0, e1, e2, e3⟩ := hm.2 0 h rfl
  cases e1
  refine ⟨e2, e3, by have := hm.1; simpa using this, fun k x hx => ?_⟩
  obtain ⟨q1, e1, e2, e3⟩ := hm.2 (k + 1) x (by simpa using hx)
  exact ⟨q1, by simpa using e1, e2, by simpa [numTo] using e3⟩
theorem made_brings {F : List Spot} {i : Pid} {N : List ByteArray} : ∀ (Q : List Quad) (Hs : List Hk) (n : Int), Made F i n N Q Hs → Hs.flatMap (·.Br) = brAll i N n Q
  | [], Hs, n, h => by
    have : Hs = [] := List.eq_nil_of_length_eq_zero (by simpa using h.1)
    subst this
    rfl
  | q :: Q, [], n, h => by have := h.1; simp at this
  | q :: Q, h :: Hs, n, hm => by
    obtain ⟨_, h2, h3⟩ := hm.tail
    simp only [List.flatMap_cons, brAll]
    rw [h2, made_brings Q Hs _ h3]
theorem brAll_mem {i : Pid} {N : List ByteArray} : ∀ (Q : List Quad) (n : Int) (s : Spot), s ∈ brAll i N n Q → sid s = i ∧ n ≤ s.num ∧ s.num < numTo n N Q ∧ s.alive = true
  | [], n, s, h => by simp [brAll] at h
  | q :: Q, n, s, h => by
    unfold brAll at h
    rcases List.mem_append.1 h with h | h
    · unfold bring brTo at h
      obtain ⟨k, hk, rfl⟩ := List.mem_map.1 h
      have hk := List.mem_range.1 hk
      have := numTo_le (n + (linesAt N q).length) N Q
      refine ⟨rfl, ?_, ?_, rfl⟩
      · simp only [brS]; omega
      · simp only [brS, numTo]; omega
    · obtain ⟨h1, h2, h3, h4⟩ := brAll_mem Q _ s h
      exact ⟨h1, by omega, h3, h4⟩
theorem bring_cids (i : Pid) (n : Int) (L : List ByteArray) : ((bring i n L).map cid).Nodup := by
  unfold bring brTo
  rw [List.map_map, List.Nodup, List.pairwise_map]
  refine List.Pairwise.imp ?_ List.pairwise_lt_range
  intro a b hab e
  simp only [Function.comp, cid, brS, Prod.mk.injEq] at e
  omega
theorem brAll_nodup {i : Pid} {N : List ByteArray} : ∀ (Q : List Quad) (n : Int), ((brAll i N n Q).map cid).Nodup
  | [], n => by simp [brAll]
  | q :: Q, n => by
    unfold brAll
    rw [List.map_append, List.nodup_append]
    refine ⟨bring_cids _ _ _, brAll_nodup Q _, ?_⟩
    intro a ha b hb e
    obtain ⟨s, hs, rfl⟩ := List.mem_map.1 ha
    obtain ⟨t, ht, rfl⟩ := List.mem_map.1 hb
    obtain ⟨_, h2, _⟩ := brAll_mem Q _ t ht
    unfold bring brTo at hs
    obtain ⟨k, hk, rfl⟩ := List.mem_map.1 hs
    have hk := List.mem_range.1 hk
    simp only [cid, brS, Prod.mk.injEq] at e
    omega

theorem framed_mid {X : List Spot} (h1 : ∃ Z, X = begS :: Z) (h2 : ∃ Y, X = Y ++ [endS]) : X = framed (midRow X) := by
  obtain ⟨Z, rfl⟩ := h1
  obtain ⟨Y, hY⟩ := h2
  have hZ : ∃ W, Z = W ++ [endS] := by
    cases Y with
    | nil => simp [begS, endS, edgeS] at hY
    | cons y Y =>
      simp only [List.cons_append, List.cons.injEq] at hY
      exact ⟨Y, hY.2⟩
  obtain ⟨W, rfl⟩ := hZ
  simp [framed, midRow]
theorem qb_brings {F : List Spot} {i : Pid} {n : Int} {N : List ByteArray} {Q : List Quad} {Hs : List Hk} (hm : Made F i n N Q Hs) : (qbOf Q Hs).flatMap (·.2) = brAll i N n Q := by
  rw [← made_brings Q Hs n hm]
  unfold qbOf
  have : (Q.zip (Hs.map (·.Br))).map (·.2) = Hs.map (·.Br) := List.map_snd_zip (by simp [hm.1])
  rw [List.flatMap_def, this, ← List.flatMap_def]

section
variable {S : List Spot} {N : List ByteArray} {i : Pid} {n : Int} {Q : List Quad} {Hs : List Hk}
/-- The row behind an alteration. -/
def altRow (S : List Spot) (Q : List Quad) (Hs : List Hk) : List Spot := midRow (fSeq (framed S) (qbOf Q Hs) Hs.length)
theorem alt_tail (hm : Made (framed S) i n N Q Hs) (hg : GapsR (rowLines S) N 0 0 Q) (hF : (framed S).Nodup) (hid : ∀ s ∈ framed S, ¬ (s.a = i.a ∧ s.b = i.b ∧ s.c = i.c ∧ s.d = i.d)) : tailRow (framed S) 0 (qbOf Q Hs) = framed (altRow S Q Hs) := by
  have ho := hg.ord (Nat.zero_le _) (Nat.zero_le _)
  have hlf := living_framed S
  have hB : ∀ r ∈ qbOf Q Hs, ∀ s ∈ r.2, s ∉ framed S := fun r hr s hs hsF => by
    obtain ⟨m, h⟩ := qb_mem hm r hr
    rw [h] at hs
    exact hid s hsF (bring_id hs)
  have h0 : HkAt (framed S) (qbOf Q Hs) 0 := HkAt.start (living_first S) (by omega) (by rw [qb_map hm, hlf]; exact ho)
  have hl := (HkAt.all hF hB h0 _ (Nat.le_refl _)).last
  have e : altRow S Q Hs = midRow (tailRow (framed S) 0 (qbOf Q Hs)) := by
    unfold altRow
    rw [← qb_len hm, hl]
  rw [e]
  refine framed_mid ?_ ?_
  · exact tail_first _
  · have := tail_end (G := begS :: S) (qbOf Q Hs) 0 0 (by simp) (by
      have e2 : (begS :: S) ++ [endS] = framed S := rfl
      rw [e2, qb_map hm, hlf]
      exact ho)
    exact this
theorem alt_cids (hm : Made (framed S) i n N Q Hs) (hg : GapsR (rowLines S) N 0 0 Q) (hF : (framed S).Nodup) (hid : ∀ s ∈ framed S, ¬ (s.a = i.a ∧ s.b = i.b ∧ s.c = i.c ∧ s.d = i.d)) : ((altRow S Q Hs).map cid).Perm (S.map cid ++ (brAll i N n Q).map cid) := by
  have ho := hg.ord (Nat.zero_le _) (Nat.zero_le _)
  have hlf := living_framed S
  have h := tail_cids (F := framed S) (qbOf Q Hs) 0 (by rw [qb_map hm, hlf]; exact ho)
  rw [living_first, List.drop_zero, alt_tail hm hg hF hid, qb_brings hm] at h
  unfold framed at h
  simp only [List.map_cons, List.map_append, List.cons_append, List.map_nil, List.append_assoc] at h
  have h1 := (List.perm_cons _).1 h
  have h2 : (S.map cid ++ ([cid endS] ++ (brAll i N n Q).map cid)).Perm (S.map cid ++ (brAll i N n Q).map cid ++ [cid endS]) := by
    rw [List.append_assoc]
    exact List.Perm.append_left _ List.perm_append_comm
  have h3 := h1.trans h2
  exact (List.perm_append_right_iff _).1 h3
theorem alt_mem (hm : Made (framed S) i n N Q Hs) (hg : GapsR (rowLines S) N 0 0 Q) (hF : (framed S).Nodup) (hid : ∀ s ∈ framed S, ¬ (s.a = i.a ∧ s.b = i.b ∧ s.c = i.c ∧ s.d = i.d)) {s : Spot} (hs : s ∈ altRow S Q Hs) : (s ∈ framed S) ∨ (∃ t ∈ framed S, s = deadS t) ∨ s ∈ brAll i N n Q := by
  have h : s ∈ tailRow (framed S) 0 (qbOf Q Hs) := by
    rw [alt_tail hm hg hF hid]
    unfold framed
    simp [hs]
  rcases tail_mem _ _ _ h with h | h | ⟨r, hr, h⟩
  · exact .inl h
  · exact .inr (.inl h)
  · refine .inr (.inr ?_)
    rw [← qb_brings hm]
    exact List.mem_flatMap.2 ⟨r, hr, h⟩
end
end Go.Proofs.YtgdfipmdmgkidaaGreatDoor

/- Mathematics: what a change names and kills; a patch that was made last is needed by none. -/
namespace Go.Proofs.YtgdfipmdmgkidaaGreatDoor
open Go.RowKit

abbrev zid : Pid := ⟨0, 0, 0, 0⟩
/-- The whole file, as a cell. -/
def wholeS (i : Pid) (al : Bool) : Spot := ⟨i.a, i.b, i.c, i.d, -3, ByteArray.empty, al⟩
/-- What is killed of some cells. -/
def killedS (S : List Spot) : List Spot := deadRow (aliveOf S)
def namesOf : ChM → List Spot
  | .add _ l _ _ => [wholeS l false]
  | .remove i _ S => wholeS i true :: S
  | .alter i _ Hs => wholeS i true :: Hs.flatMap (·.N)
def killsOf : ChM → List Spot
  | .add .. => []
  | .remove i _ S => killedS (wholeS i true :: S)
  | .alter _ _ Hs => Hs.flatMap fun h => killedS (midRow h.N)
def leansOn (N : List Spot) (i : Pid) (K : List Spot) : Prop := ∃ s ∈ N, sid s = i ∨ s ∈ K
def NeedsP (P Q : PM) : Prop := ∃ c ∈ P.Cs, ∃ d ∈ Q.Cs, c.1 = d.1 ∧ leansOn (namesOf c.2) Q.id (killsOf d.2)

theorem killed_mem {S : List Spot} {s : Spot} (h : s ∈ killedS S) : ∃ t ∈ S, t.alive = true ∧ s = deadS t := by
  obtain ⟨t, ht, rfl⟩ := List.mem_map.1 h
  obtain ⟨h1, h2⟩ := List.mem_filter.1 ht
  exact ⟨t, h1, h2, rfl⟩
/-- The cells that live in a file, and the file itself. -/
def liveC (p : PL) : List (Pid × Int) := if p.alive = true then (p.by_, -3) :: (aliveOf p.S).map cid else []
theorem live_mem {p : PL} {s : Spot} (ha : p.alive = true) (hs : s ∈ p.S) (h : s.alive = true) : cid s ∈ liveC p := by
  unfold liveC
  rw [if_pos ha]
  exact List.mem_cons_of_mem _ (List.mem_map.2 ⟨s, List.mem_filter.2 ⟨hs, h⟩, rfl⟩)
theorem live_inv {p : PL} {c : Pid × Int} (h : c ∈ liveC p) : p.alive = true ∧ (c = (p.by_, -3) ∨ ∃ s ∈ p.S, s.alive = true ∧ c = cid s) := by
  unfold liveC at h
  split at h
  · rename_i ha
    rcases List.mem_cons.1 h with h | h
    · exact ⟨ha, .inl h⟩
    · obtain ⟨s, hs, rfl⟩ := List.mem_map.1 h
      obtain ⟨h1, h2⟩ := List.mem_filter.1 hs
      exact ⟨ha, .inr ⟨s, h1, h2, rfl⟩⟩
  · simp at h

/-- The cells of a file are in order. -/
structure CellsOK (ids : List Pid) (p : PL) : Prop where
  nd : (p.S.map cid).Nodup
  own : ∀ s ∈ p.S, sid s ∈ ids ∧ 0 ≤ s.num
  byA : p.alive = true → p.by_ ∈ ids
  byZ : p.by_ ∈ ids ∨ p.by_ = zid
  dead : p.alive = false → ∀ s ∈ p.S, s.alive = false
/-- What some changes of a file name: nothing of other patches; and what they name dead lives no more. -/
def NamedOK (ids : List Pid) (c : ChM) (p : PL) : Prop := ∀ t ∈ namesOf c, (sid t ∈ ids ∨ sid t = zid) ∧ (t.alive = false → cid t ∉ liveC p)

theorem nd_alive {S : List Spot} (h : (S.map cid).Nodup) {s t : Spot} (hs : s ∈ S) (ht : t ∈ S) (e : cid s = cid t) : s = t := by
  induction S with
  | nil => simp at hs
  | cons x S ih =>
    rw [List.map_cons, List.nodup_cons] at h
    rcases List.mem_cons.1 hs with e1 | hs' <;> rcases List.mem_cons.1 ht with e2 | ht'
    · rw [e1, e2]
    · exact absurd (List.mem_map.2 ⟨t, ht', by rw [← e, e1]⟩) h.1
    · exact absurd (List.mem_map.2 ⟨s, hs', by rw [e, e2]⟩) h.1
    · exact ih h.2 hs' ht'

theorem midRow_mem {N : List Spot} {s : Spot} (h : s ∈ midRow N) : s ∈ N := List.mem_of_mem_take (List.mem_of_mem_drop h)
theorem named_mem {F : List Spot} {q : Quad} {s : Spot} (h : s ∈ namedOf F q) : s ∈ F := List.mem_of_mem_take (List.mem_of_mem_drop h)
theorem framed_mem {S : List Spot} {s : Spot} (h : s ∈ framed S) : s = begS ∨ s ∈ S ∨ s = endS := by
  unfold framed at h
  rcases List.mem_cons.1 h with h | h
  · exact .inl h
  · rcases List.mem_append.1 h with h | h
    · exact .inr (.inl h)
    · exact .inr (.inr (List.mem_singleton.1 h))
theorem cids_framed {ids : List Pid} {p : PL} (h : CellsOK ids p) (_hz : zid ∉ ids) : ((framed p.S).map cid).Nodup := by
  unfold framed
  rw [List.map_cons, List.map_append, List.nodup_cons, List.nodup_append]
  have hS : ∀ c ∈ p.S.map cid, 0 ≤ c.2 := fun c hc => by
    obtain ⟨s, hs, rfl⟩ := List.mem_map.1 hc
    exact (h.own s hs).2
  refine ⟨fun hm => ?_, h.nd, by simp, fun a ha b hb e => ?_⟩
  · rcases List.mem_append.1 hm with hm | hm
    · have := hS _ hm
      simp [cid, begS, edgeS] at this
    · simp [cid, begS, endS, edgeS] at hm
  · subst e
    have := hS _ ha
    simp only [List.map_cons, List.map_nil, List.mem_singleton] at hb
    rw [hb] at this
    simp [cid, endS, edgeS] at this
theorem nodup_of_map {S : List Spot} (h : (S.map cid).Nodup) : S.Nodup := by
  rw [List.Nodup, List.pairwise_map] at h
  exact h.imp fun hne e => hne (by rw [e])
theorem fresh_framed {ids : List Pid} {p : PL} (h : CellsOK ids p) {i : Pid} (hi : i ∉ ids) (hz : i ≠ zid) : ∀ s ∈ framed p.S, ¬ (s.a = i.a ∧ s.b = i.b ∧ s.c = i.c ∧ s.d = i.d) := by
  rintro s hs ⟨h1, h2, h3, h4⟩
  have e : sid s = i := by unfold sid; rw [h1, h2, h3, h4]
  rcases framed_mem hs with rfl | hs | rfl
  · exact hz (by rw [← e]; rfl)
  · exact hi (e ▸ (h.own s hs).1)
  · exact hz (by rw [← e]; rfl)

/-- What a change that is made now names and kills. -/
theorem made_names {ids : List Pid} {p : PL} (h : CellsOK ids p) {i : Pid} {n n' : Int} {there : Bool} {text : ByteArray} {c : ChM} (hc : ChMade p i n there text c n') : ∀ t ∈ namesOf c, (sid t ∈ ids ∨ sid t = zid) ∧ (t.alive = false → cid t ∉ liveC p) := by
  have hrow : p.alive = true → ∀ t, t ∈ p.S → (sid t ∈ ids ∨ sid t = zid) ∧ (t.alive = false → cid t ∉ liveC p) := fun ha t ht => by
    refine ⟨.inl (h.own t ht).1, fun hd hl => ?_⟩
    obtain ⟨_, hl⟩ := live_inv hl
    rcases hl with hl | ⟨s, hs, h2, h3⟩
    · have := (h.own t ht).2
      have e2 : t.num = -3 := congrArg Prod.snd hl
      omega
    · have := nd_alive h.nd ht hs h3
      subst this
      rw [hd] at h2
      cases h2
  have hwh : ∀ al, p.alive = true → al = true → (sid (wholeS p.by_ al) ∈ ids ∨ sid (wholeS p.by_ al) = zid) ∧ ((wholeS p.by_ al).alive = false → cid (wholeS p.by_ al) ∉ liveC p) := fun al ha e => by
    subst e
    exact ⟨.inl (h.byA ha), fun hd => by cases hd⟩
  cases c with
  | add i' l rv S =>
    obtain ⟨h1, _, rfl, _⟩ := hc
    intro t ht
    rw [List.mem_singleton.1 ht]
    refine ⟨h.byZ, fun _ hl => ?_⟩
    have := (live_inv hl).1
    rw [h1] at this
    cases this
  | remove i' rv S =>
    obtain ⟨h1, _, rfl, rfl, _⟩ := hc
    intro t ht
    rcases List.mem_cons.1 ht with rfl | ht
    · exact hwh true h1 rfl
    · exact hrow h1 t ht
  | alter i' hv Hs =>
    obtain ⟨h1, _, rfl, Q, hg, hm, _⟩ := hc
    intro t ht
    rcases List.mem_cons.1 ht with rfl | ht
    · exact hwh true h1 rfl
    · obtain ⟨x, hx, ht⟩ := List.mem_flatMap.1 ht
      obtain ⟨k, hk⟩ := List.mem_iff_getElem?.1 hx
      obtain ⟨q, _, e, _⟩ := hm.2 k x hk
      rw [e] at ht
      rcases framed_mem (named_mem ht) with rfl | hs | rfl
      · exact ⟨.inr rfl, fun hd => by cases hd⟩
      · exact hrow h1 t hs
      · exact ⟨.inr rfl, fun hd => by cases hd⟩
theorem mid_inner {S : List Spot} {q : Quad} (hik : q.i ≤ q.k) (hk : q.k + 1 < (living (framed S)).length) {s : Spot} (h : s ∈ midRow (namedOf (framed S) q)) : s ∈ S := by
  have h1 : av (framed S) q < bv (framed S) q ∧ bv (framed S) q < (framed S).length := by
    have := GOrd.at (F := framed S) (x := 0) (q := q) (R := []) ⟨Nat.zero_le _, hik, hk, trivial⟩
    exact ⟨this.2.1, this.2.2.1⟩
  have e : midRow (namedOf (framed S) q) = ((framed S).take (bv (framed S) q)).drop (av (framed S) q + 1) := mid_named h1.1 h1.2
  rw [e] at h
  have hl : (framed S).length = S.length + 2 := by simp [framed]
  have hb : bv (framed S) q ≤ (begS :: S).length := by
    have := h1.2
    rw [hl] at this
    rw [List.length_cons]
    omega
  have e2 : (framed S).take (bv (framed S) q) = (begS :: S).take (bv (framed S) q) := by
    show ((begS :: S) ++ [endS]).take _ = _
    rw [List.take_append_of_le_length hb]
  obtain ⟨b', hb'⟩ : ∃ b', bv (framed S) q = b' + 1 := ⟨bv (framed S) q - 1, by have := h1.1; omega⟩
  rw [e2, hb', List.take_succ_cons, List.drop_succ_cons] at h
  exact List.mem_of_mem_take (List.mem_of_mem_drop h)
theorem made_kills {ids : List Pid} {p : PL} (_h : CellsOK ids p) {i : Pid} {n n' : Int} {there : Bool} {text : ByteArray} {c : ChM} (hc : ChMade p i n there text c n') : ∀ s ∈ killsOf c, s.alive = false ∧ cid s ∈ liveC p := by
  cases c with
  | add i' l rv S => intro s hs; simp [killsOf] at hs
  | remove i' rv S =>
    obtain ⟨h1, _, rfl, rfl, _⟩ := hc
    intro s hs
    obtain ⟨t, ht, ha, rfl⟩ := killed_mem hs
    refine ⟨rfl, ?_⟩
    rw [cid_dead]
    rcases List.mem_cons.1 ht with rfl | ht
    · unfold liveC
      rw [if_pos h1]
      exact List.mem_cons_self
    · exact live_mem h1 ht ha
  | alter i' hv Hs =>
    obtain ⟨h1, _, rfl, Q, hg, hm, _⟩ := hc
    intro s hs
    obtain ⟨x, hx, hs⟩ := List.mem_flatMap.1 hs
    obtain ⟨t, ht, ha, rfl⟩ := killed_mem hs
    refine ⟨rfl, ?_⟩
    rw [cid_dead]
    obtain ⟨k, hk⟩ := List.mem_iff_getElem?.1 hx
    obtain ⟨q, hq, e, _⟩ := hm.2 k x hk
    rw [e] at ht
    have ho := hg.ord (Nat.zero_le _) (Nat.zero_le _)
    have hqo := gord_mem ho (List.mem_of_getElem? hq)
    have hlf := living_framed p.S
    exact live_mem h1 (mid_inner hqo.1 (by omega) ht) ha
where
  gord_mem {m : Nat} : ∀ {x : Nat} {Q : List Quad}, GOrd m x Q → ∀ {q : Quad}, q ∈ Q → q.i ≤ q.k ∧ q.k + 1 < m
    | _, [], _, _, hq => by simp at hq
    | _, q' :: R, h, q, hq => by
      rcases List.mem_cons.1 hq with rfl | hq
      · exact ⟨h.2.1, h.2.2.1⟩
      · exact gord_mem h.2.2.2 hq
end Go.Proofs.YtgdfipmdmgkidaaGreatDoor

/- Mathematics: a change that is made of what is kept: what it makes, and how it is told. -/
namespace Go.Proofs.YtgdfipmdmgkidaaGreatDoor
open Go.RowKit

theorem GapsR.det {O N : List ByteArray} {i j : Nat} {Q : List Quad} (h : GapsR O N i j Q) : ∀ {Q' : List Quad}, GapsR O N i j Q' → Q = Q' := by
  induction h with
  | stop h1 h2 =>
    intro Q' h'
    cases h' with
    | stop k1 k2 => rw [h1] at k1; cases k1; rfl
    | go k1 k2 k3 => rw [h1] at k1; cases k1; omega
  | go h1 h2 h3 ih =>
    intro Q' h'
    cases h' with
    | stop k1 k2 => rw [h1] at k1; cases k1; omega
    | go k1 k2 k3 => rw [h1] at k1; cases k1; rw [ih k3]
theorem numTo_app (N : List ByteArray) : ∀ (A B : List Quad) (n : Int), numTo n N (A ++ B) = numTo (numTo n N A) N B
  | [], B, n => rfl
  | q :: A, B, n => by simp only [List.cons_append, numTo]; exact numTo_app N A B _
theorem numTo_gap (N : List ByteArray) (n : Int) (i k j l : Nat) (hjl : j ≤ l) (hl : l ≤ N.length) : numTo n N (gapOf i k j l) = n + (l - j : Nat) := by
  unfold gapOf
  split
  · simp only [numTo, linesAt]
    simp
    omega
  · have : l = j := by omega
    subst this
    simp [numTo]
/-- As many cells come as there are new lines, at most. -/
theorem GapsR.num {O N : List ByteArray} {i j : Nat} {Q : List Quad} (h : GapsR O N i j Q) (hi : i ≤ O.length) (hj : j ≤ N.length) (n : Int) : numTo n N Q ≤ n + (N.length - j : Nat) := by
  induction h generalizing n with
  | stop h1 h2 =>
    have p := nxt_at hi hj h1
    have hl := p.2.2.2.1
    have hjl := p.2.1
    rw [numTo_gap N n _ _ _ _ (by omega) (by omega)]
    omega
  | go h1 h2 h3 ih =>
    have p := nxt_at hi hj h1
    rcases p.2.2.2.2 with h | h
    · have h4 := h.2.1
      have q := ih (by omega) h4
      rw [numTo_app, numTo_gap N n _ _ _ _ (by omega) (by omega)]
      refine Int.le_trans (q _) ?_
      omega
    · omega

section
variable {S : List Spot} {N : List ByteArray} {i : Pid} {n : Int} {Q : List Quad} {Hs : List Hk}
theorem brAll_len : ∀ (Q : List Quad) (n : Int), n + (brAll i N n Q).length = numTo n N Q
  | [], n => by simp [brAll, numTo]
  | q :: Q, n => by
    unfold brAll
    rw [List.length_append, bring_len]
    simp only [numTo]
    rw [← brAll_len Q (n + (linesAt N q).length)]
    omega
/-- Hunks that were made of a row's gaps fit that row, one behind the other, and give the new lines; the row may be long. -/
theorem made_steps2 (hm : Made (framed S) i n N Q Hs) (hg : GapsR (rowLines S) N 0 0 Q) (hF : (framed S).Nodup) (hid : ∀ s ∈ framed S, ¬ (s.a = i.a ∧ s.b = i.b ∧ s.c = i.c ∧ s.d = i.d)) (hS : S.length ≤ 9000) (hR : (rowLines S).length ≤ 400) (hN : N.length ≤ 400) :
    Steps (fSeq (framed S) (qbOf Q Hs)) Hs ∧ rowLines (midRow (fSeq (framed S) (qbOf Q Hs) Hs.length)) = N ∧ (fSeq (framed S) (qbOf Q Hs) Hs.length).length ≤ 200000 := by
  have ho := hg.ord (Nat.zero_le _) (Nat.zero_le _)
  have hlen := ho.len
  have hlf := living_framed S
  have hQH : Hs.length = Q.length := hm.1
  have hB : ∀ r ∈ qbOf Q Hs, ∀ s ∈ r.2, s ∉ framed S := fun r hr s hs hsF => by
    obtain ⟨m, h⟩ := qb_mem hm r hr
    rw [h] at hs
    exact hid s hsF (bring_id hs)
  have hM : ∀ r ∈ qbOf Q Hs, r.2.length ≤ 400 := fun r hr => by
    obtain ⟨m, h⟩ := qb_mem hm r hr
    have := linesAt_len N r.1
    rw [h, bring_len]
    omega
  have h0 : HkAt (framed S) (qbOf Q Hs) 0 := HkAt.start (living_first S) (by omega) (by rw [qb_map hm, hlf]; exact ho)
  have hql := qb_len hm
  have hFl : (framed S).length = S.length + 2 := by simp [framed]
  have hbig : ∀ k, k ≤ Hs.length → (fSeq (framed S) (qbOf Q Hs) k).length ≤ 200000 ∧ 2 ≤ (fSeq (framed S) (qbOf Q Hs) k).length := fun k hk => by
    obtain ⟨a, b⟩ := fSeq_len hF hB h0 400 hM k (by omega)
    have : k * 400 ≤ 402 * 400 := Nat.mul_le_mul_right _ (by omega)
    omega
  refine ⟨⟨fun k h hk => ?_, fun k h hk => ?_, (hbig _ (Nat.le_refl _)).2, by have := (hbig _ (Nat.le_refl _)).1; omega⟩, ?_, (hbig _ (Nat.le_refl _)).1⟩
  · have hkl : k < Hs.length := (List.getElem?_eq_some_iff.1 hk).1
    obtain ⟨q, e1, e2, e3, e4⟩ := qb_at hm hk
    obtain ⟨_, p, a1, a2, a3, a4, a5, a6, a7⟩ := (HkAt.all hF hB h0 k (by omega)).step hF e2 (hB _ (List.mem_of_getElem? e2))
    rw [e3]
    exact ⟨_, p, a1, a2, a3, a4, a6⟩
  · have hkl : k < Hs.length := (List.getElem?_eq_some_iff.1 hk).1
    obtain ⟨q, e1, e2, e3, e4⟩ := qb_at hm hk
    obtain ⟨_, p, a1, a2, a3, a4, a5, a6, a7⟩ := (HkAt.all hF hB h0 k (by omega)).step hF e2 (hB _ (List.mem_of_getElem? e2))
    have b1 := (hbig k (by omega)).1
    have b2 := hM _ (List.mem_of_getElem? e2)
    rw [e3]
    simp only at b2
    omega
  · rw [← hql, (HkAt.all hF hB h0 _ (Nat.le_refl _)).last, rows_laid S N _ (by rw [qb_map hm]; exact ho) (fun r hr => ?_), qb_map hm]
    · have := hg.gives (Nat.zero_le _) (Nat.zero_le _)
      rw [this, List.drop_zero]
    · obtain ⟨m, h⟩ := qb_mem hm r hr
      rw [h, rowLines_bring]
end

/-- What a change that is made now makes of the file. -/
theorem made_next {ids : List Pid} {p : PL} (h : CellsOK ids p) {i : Pid} (hi : i ∉ ids) (hz : zid ∉ ids) (hiz : i ≠ zid) {n n' : Int} (hn : 0 ≤ n) {there : Bool} {text : ByteArray} {c : ChM} (hc : ChMade p i n there text c n') (hth : p.alive = false → there = true) (hS : p.S.length ≤ 9000) (hR : (rowLines p.S).length ≤ 90) (hN : (cutAll text).length ≤ 20) :
    ∃ p', ApplyP c p p' ∧ CellsOK (ids ++ [i]) p' ∧ (∀ x ∈ liveC p', x ∈ liveC p ∨ x.1 = i) ∧ p'.alive = there ∧ (there = true → rowLines p'.S = cutAll text) ∧ p'.S.length ≤ p.S.length + (cutAll text).length := by
  cases c with
  | add i' l rv S =>
    obtain ⟨h1, rfl, _, rfl, _⟩ := hc
    refine ⟨⟨i', true, bring i' n (cutAll text)⟩, rfl, ⟨bring_cids _ _ _, fun s hs => ?_, fun _ => by simp, .inl (by simp), fun e => by cases e⟩, fun x hx => ?_, (hth h1).symm, fun _ => rowLines_bring _ _ _, by simp only [bring_len]; omega⟩
    · have hs' : s ∈ bring i' n (cutAll text) := hs
      obtain ⟨a, b, c, d⟩ := bring_id hs'
      refine ⟨?_, ?_⟩
      · have : sid s = i' := by unfold sid; rw [a, b, c, d]
        rw [this]; simp
      · unfold bring brTo at hs'
        obtain ⟨k, _, rfl⟩ := List.mem_map.1 hs'
        simp only [brS]
        omega
    · obtain ⟨_, hx⟩ := live_inv hx
      right
      rcases hx with rfl | ⟨s, hs, _, rfl⟩
      · rfl
      · obtain ⟨a, b, c, d⟩ := bring_id (show s ∈ bring i' n (cutAll text) from hs)
        show sid s = i'
        unfold sid; rw [a, b, c, d]
  | remove i' rv S =>
    obtain ⟨h1, h2, rfl, rfl, _⟩ := hc
    refine ⟨⟨p.by_, false, deadRow p.S⟩, ⟨rfl, by omega⟩, ⟨by rw [cids_dead]; exact h.nd, fun s hs => ?_, (fun e => by cases e), ?_, fun _ s hs => ?_⟩, fun x hx => ?_, h2.symm, (fun e => by rw [h2] at e; cases e), ?_⟩
    · obtain ⟨t, ht, rfl⟩ := List.mem_map.1 hs
      obtain ⟨a, b⟩ := h.own t ht
      exact ⟨List.mem_append_left _ a, b⟩
    · rcases h.byZ with a | a
      · exact .inl (List.mem_append_left _ a)
      · exact .inr a
    · obtain ⟨t, ht, rfl⟩ := List.mem_map.1 hs
      rfl
    · have := (live_inv hx).1
      cases this
    · simp [deadRow]
  | alter i' hv Hs =>
    obtain ⟨h1, h2, rfl, Q, hg, hm, _⟩ := hc
    have hFc := cids_framed h hz
    have hF := nodup_of_map hFc
    have hid := fresh_framed h hi hiz
    obtain ⟨s1, s2, s3⟩ := made_steps2 hm hg hF hid hS (by omega) (by omega)
    have hQ := hg.len (Nat.zero_le _) (Nat.zero_le _)
    have hHs : Hs.length = Q.length := hm.1
    have hperm := alt_cids hm hg hF hid
    have hnum := hg.num (Nat.zero_le _) (Nat.zero_le _) n
    have hbl := brAll_len (i := i) (N := cutAll text) Q n
    have hcid : ∀ s ∈ altRow p.S Q Hs, (∃ t ∈ p.S, cid s = cid t) ∨ ∃ t ∈ brAll i (cutAll text) n Q, cid s = cid t := fun s hs => by
      have := hperm.mem_iff.1 (List.mem_map.2 ⟨s, hs, rfl⟩)
      rcases List.mem_append.1 this with h | h
      · obtain ⟨t, ht, e⟩ := List.mem_map.1 h
        exact .inl ⟨t, ht, e.symm⟩
      · obtain ⟨t, ht, e⟩ := List.mem_map.1 h
        exact .inr ⟨t, ht, e.symm⟩
    refine ⟨⟨p.by_, true, altRow p.S Q Hs⟩, ⟨_, rfl, s1, rfl, by omega, by omega⟩, ⟨?_, fun s hs => ?_, fun _ => List.mem_append_left _ (h.byA h1), .inl (List.mem_append_left _ (h.byA h1)), fun e => by cases e⟩, fun x hx => ?_, h2.symm, fun _ => s2, ?_⟩
    · refine hperm.nodup_iff.2 ?_
      rw [List.nodup_append]
      refine ⟨h.nd, brAll_nodup Q n, fun a ha b hb e => ?_⟩
      obtain ⟨s, hs, rfl⟩ := List.mem_map.1 ha
      obtain ⟨t, ht, rfl⟩ := List.mem_map.1 hb
      have h3 := (brAll_mem Q n t ht).1
      have h4 : sid s = sid t := congrArg Prod.fst e
      exact hi (by rw [← h3, ← h4]; exact (h.own s hs).1)
    · rcases hcid s hs with ⟨t, ht, e⟩ | ⟨t, ht, e⟩
      · have e1 : sid s = sid t := congrArg Prod.fst e
        have e2 : s.num = t.num := congrArg Prod.snd e
        rw [e1, e2]
        exact ⟨List.mem_append_left _ (h.own t ht).1, (h.own t ht).2⟩
      · have e1 : sid s = sid t := congrArg Prod.fst e
        have e2 : s.num = t.num := congrArg Prod.snd e
        obtain ⟨b1, b2, _⟩ := brAll_mem Q n t ht
        rw [e1, e2, b1]
        exact ⟨by simp, by omega⟩
    · obtain ⟨_, hx⟩ := live_inv hx
      rcases hx with rfl | ⟨s, hs, ha, rfl⟩
      · left
        unfold liveC
        rw [if_pos h1]
        exact List.mem_cons_self
      · rcases alt_mem hm hg hF hid hs with k | ⟨t, _, rfl⟩ | k
        · rcases hcid s hs with ⟨t, ht, e⟩ | ⟨t, ht, e⟩
          · left
            have e2 : s.num = t.num := congrArg Prod.snd e
            have h0 := (h.own t ht).2
            rcases framed_mem k with rfl | k | rfl
            · simp [begS, edgeS] at e2; omega
            · exact live_mem h1 k ha
            · simp [endS, edgeS] at e2; omega
          · right
            exact (congrArg Prod.fst e).trans (brAll_mem Q n t ht).1
        · cases ha
        · right
          exact (brAll_mem Q n s k).1
    · have hl := hperm.length_eq
      rw [List.length_append, List.length_map, List.length_map, List.length_map] at hl
      show (altRow p.S Q Hs).length ≤ _
      rw [hl]
      omega
end Go.Proofs.YtgdfipmdmgkidaaGreatDoor
