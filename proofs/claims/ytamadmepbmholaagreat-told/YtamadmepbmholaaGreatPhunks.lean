/- The hunks that turn a row into a list of lines. -/
import Derived.Test.YtamadmepbmholaaGreatPgapn
import Derived.Test.YtamadmepbmholaaGreatPalter
namespace Go.Proofs.YtamadmepbmholaaGreat
open Go.RowKit

theorem gaps186_any (O N : List ByteArray) (hO : O.length ≤ 10000) (hN : N.length ≤ 10000) (ov nv : Value) (w : World) (hvo : LV w ov O) (hvn : LV w nv N) :
    Calls Tryz.prog 224 #[ov, nv] w fun e w' => ∃ v, e = .returned v ∧ GapsOut O N w w' v ∧ Below w.heap.size w w' := by
  obtain ⟨oa, oc, rfl, ho, _⟩ := hvo
  obtain ⟨na, nc, rfl, hn, hnc, ⟨rfl, rfl, rfl⟩ | ⟨b, o, rfl, hb⟩⟩ := hvn
  · exact gaps186_none O hO oa oc w ho (common197_any O [] hO (by simp) oa none oc 0 w ho hn)
  · exact gaps186_some O N hO hN oa oc b o nc w ho hn hb hnc (common197_any O N hO hN oa _ oc nc w ho hn)

theorem gapOf_ok {O N : List ByteArray} {i j k l : Nat} (hi : i ≤ O.length) (hj : j ≤ N.length) (h : nxt O N i j = (k, l)) : ∀ q ∈ gapOf i k j l, q.i ≤ q.k ∧ q.k ≤ O.length ∧ q.j ≤ q.l ∧ q.l ≤ N.length := by
  have p := nxt_props O N i j hi hj
  rw [h] at p
  intro q hq
  unfold gapOf at hq
  split at hq
  · simp at hq; subst hq; exact ⟨p.1, p.2.1, p.2.2.1, p.2.2.2.1⟩
  · cases hq
theorem GapsR.ok {O N : List ByteArray} {i j : Nat} {Q : List Quad} (h : GapsR O N i j Q) (hi : i ≤ O.length) (hj : j ≤ N.length) : ∀ q ∈ Q, q.i ≤ q.k ∧ q.k ≤ O.length ∧ q.j ≤ q.l ∧ q.l ≤ N.length := by
  induction h with
  | stop h1 h2 => exact gapOf_ok hi hj h1
  | go h1 h2 h3 ih =>
    rename_i i j k l rest
    have p := nxt_props O N i j hi hj
    rw [h1] at p
    simp only at p
    have hl : l < N.length := by
      rcases p.2.2.2.2 with h | h
      · exact h.2.1
      · omega
    intro q hq
    rcases List.mem_append.1 hq with hq | hq
    · exact gapOf_ok hi hj h1 q hq
    · exact ih (by omega) (by omega) q hq

theorem living_len (S : List Spot) : (living S).length = (aliveOf S).length := by
  have h := congrArg List.length (rowLines_eq S)
  unfold rowLines at h
  simpa using h
theorem living_framed (S : List Spot) : (living (framed S)).length = (rowLines S).length + 2 := by
  rw [living_len, rowLines_eq, List.length_map]
  unfold aliveOf framed
  simp [begS, endS, edgeS]
theorem livTo_sorted (S : List Spot) (k : Nat) : (livTo S k).Pairwise (· < ·) := by
  induction k with
  | zero => simp [livTo]
  | succ k ih =>
    unfold livTo
    split
    · rw [List.pairwise_append]
      refine ⟨ih, by simp, fun a ha b hb => ?_⟩
      simp at hb
      subst hb
      exact (livTo_mem ha).1
    · exact ih
theorem living_lt (S : List Spot) {x y : Nat} (hxy : x < y) (hy : y < (living S).length) : (living S)[x]'(by omega) < (living S)[y] :=
  List.pairwise_iff_getElem.1 (livTo_sorted S S.length) x y (by show _ < (living S).length; omega) hy hxy
theorem living_in (S : List Spot) {x : Nat} (hx : x < (living S).length) : (living S)[x] < S.length := livTo_lt (List.getElem_mem hx)

/-- The cells that a hunk names. -/
def namedOf (F : List Spot) (q : Quad) : List Spot := (F.take ((living F).getD (q.k + 1) 0 + 1)).drop ((living F).getD q.i 0)
def numTo (n : Int) (N : List ByteArray) : List Quad → Int
  | [] => n
  | q :: qs => numTo (n + (linesAt N q).length) N qs
theorem numTo_snoc (n : Int) (N : List ByteArray) (qs : List Quad) (q : Quad) : numTo n N (qs ++ [q]) = numTo n N qs + (linesAt N q).length := by
  induction qs generalizing n with
  | nil => rfl
  | cons a qs ih => simp only [List.cons_append, numTo, ih]

structure HW (w : World) (B : Nat) (v : Value) (Hs : List Hk) : Prop where
  row : w.ownsRow B 305 2 v Hs.length (Hs.flatMap fun h => [h.nv, h.bv])
  nv : ∀ h ∈ Hs, w.ownsRow B 291 7 h.nv h.N.length (rowC h.N)
  bv : ∀ h ∈ Hs, w.ownsRow B 291 7 h.bv h.Br.length (rowC h.Br)
def Made (F : List Spot) (i : Pid) (n : Int) (N : List ByteArray) (qs : List Quad) (Hs : List Hk) : Prop := Hs.length = qs.length ∧ ∀ (k : Nat) (h : Hk), Hs[k]? = some h → ∃ q, qs[k]? = some q ∧ h.N = namedOf F q ∧ h.Br = bring i (numTo n N (qs.take k)) (linesAt N q)

theorem own_but {w w' : World} {B n size mb : Nat} {e : TypeId} {v : Value} {xs : List Value} (h : w.ownsRow B e size v n xs) (hb : But w w' mb) (hm : mb < B) : w'.ownsRow B e size v n xs := by
  have hlt := h.lt
  refine ⟨h.1, ?_⟩
  rcases h.2 with hn | ⟨g, cap, cur, hv, hg0, hg, rest⟩
  · exact .inl hn
  · exact .inr ⟨g, cap, cur, hv, hg0, (hb.block g (hlt g (by rw [hv]; rfl)).2 (by omega)).trans hg, rest⟩
theorem HW.but {w w' : World} {B mb : Nat} {v : Value} {Hs : List Hk} (h : HW w B v Hs) (hb : But w w' mb) (hm : mb < B) : HW w' B v Hs :=
  ⟨own_but h.row hb hm, fun x hx => own_but (h.nv x hx) hb hm, fun x hx => own_but (h.bv x hx) hb hm⟩
theorem HW.step {w w1 : World} {B : Nat} {v v' : Value} {Hs : List Hk} {h : Hk} (H : HW w B v Hs) (hg : w.grownBy w1 v.ownBlock) (hrow : w1.ownsRow B 305 2 v' (Hs.length + 1) ((Hs.flatMap fun h => [h.nv, h.bv]) ++ [h.nv, h.bv])) (hn : w.ownsRow B 291 7 h.nv h.N.length (rowC h.N)) (hb : w.ownsRow B 291 7 h.bv h.Br.length (rowC h.Br)) : HW w1 B v' (Hs ++ [h]) := by
  refine ⟨by simpa using hrow, fun x hx => ?_, fun x hx => ?_⟩
  · rcases List.mem_append.1 hx with hx | hx
    · exact (H.nv x hx).kept hg (own_far (H.nv x hx) H.row (by decide))
    · simp at hx; subst hx; exact hn.kept hg (own_far hn H.row (by decide))
  · rcases List.mem_append.1 hx with hx | hx
    · exact (H.bv x hx).kept hg (own_far (H.bv x hx) H.row (by decide))
    · simp at hx; subst hx; exact hb.kept hg (own_far hb H.row (by decide))
theorem Made.step {F : List Spot} {i : Pid} {n : Int} {N : List ByteArray} {qs : List Quad} {Hs : List Hk} {q : Quad} {h : Hk} (hm : Made F i n N qs Hs) (h1 : h.N = namedOf F q) (h2 : h.Br = bring i (numTo n N qs) (linesAt N q)) : Made F i n N (qs ++ [q]) (Hs ++ [h]) := by
  refine ⟨by simp [hm.1], fun k x hx => ?_⟩
  by_cases hk : k < Hs.length
  · rw [List.getElem?_append_left hk] at hx
    obtain ⟨q', e1, e2, e3⟩ := hm.2 k x hx
    have hkq : k < qs.length := by rw [← hm.1]; exact hk
    refine ⟨q', by rw [List.getElem?_append_left hkq]; exact e1, e2, ?_⟩
    rw [List.take_append_of_le_length (by omega)]
    exact e3
  · have hke : k = Hs.length := by
      have := (List.getElem?_eq_some_iff.1 hx).1
      simp at this
      omega
    subst hke
    simp at hx
    subst hx
    refine ⟨q, by rw [hm.1]; simp, h1, ?_⟩
    rw [hm.1, List.take_append_of_le_length (Nat.le_refl _), List.take_length]
    exact h2
end Go.Proofs.YtamadmepbmholaaGreat
