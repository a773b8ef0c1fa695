/- Mathematics: how hunks are told, and how a telling is read. -/
import Derived.Test.YtgdfipmdmgkidaaGreatDoorPmtext
import Derived.Test.YtgdfipmdmgkidaaGreatDoorPmrow
import Derived.Test.YtgdfipmdmgkidaaGreatDoorPtake
import Derived.Test.YtgdfipmdmgkidaaGreatDoorPapply
import Derived.Test.YtgdfipmdmgkidaaGreatDoorPalter
namespace Go.Proofs.YtgdfipmdmgkidaaGreatDoor
open Go.RowKit

/-- A line as it is told. -/
def tlA (m : UInt8) (l : ByteArray) : ByteArray := ⟨(tlB ⟨#[m]⟩ l).toArray⟩
def atA (n : Nat) : ByteArray := ((⟨#[64]⟩ : ByteArray) ++ ⟨(Lib.decDigits n).toArray⟩) ++ ⟨#[10]⟩
/-- A hunk as it is told, line by line. -/
def hunkL (O N : List ByteArray) (q : Quad) : List ByteArray := atA (q.i + 1) :: ((midOf O q.i q.k).map (tlA 45) ++ (linesAt N q).map (tlA 43))
theorem cat_tlA (m : UInt8) (L : List ByteArray) : catB (L.map (tlA m)) = ⟨(tellL ⟨#[m]⟩ L).toArray⟩ := by
  unfold catB tellL
  congr 2
  rw [List.flatMap_map]
  rfl
theorem hTell_cat {S N Br : List Spot} {p : Nat} {O T : List ByteArray} {q : Quad} (h1 : (living (S.take (p + 1))).length = q.i + 1) (h2 : rowLines (midRow N) = midOf O q.i q.k) (h3 : rowLines Br = linesAt T q) : hTell S N Br p = catB (hunkL O T q) := by
  unfold hTell hunkL tellB
  rw [h1, h2, h3, catB_cons, catB_app, cat_tlA, cat_tlA, app_assoc]
  rfl

theorem tlA_facts : ∀ m ∈ [(45 : UInt8), 43], ∀ l ∈ nineLines, 1 ≤ (tlA m l).size ∧ (tlA m l).size ≤ 20 ∧ gb (tlA m l) 0 = m.toNat ∧ wholeB ((tlA m l).extract 1 (tlA m l).size) = l ∧ gb (tlA m l) ((tlA m l).size - 1) = 10 ∧ ∀ i, i < (tlA m l).size - 1 → gb (tlA m l) i ≠ 10 := by
  decide +kernel
theorem atA_facts : ∀ n, n < 100 → 3 ≤ (atA n).size ∧ (atA n).size ≤ 5 ∧ gb (atA n) 0 = 64 ∧ (∀ i, i < ((atA n).extract 1 ((atA n).size - 1)).size → 48 ≤ gb ((atA n).extract 1 ((atA n).size - 1)) i ∧ gb ((atA n).extract 1 ((atA n).size - 1)) i ≤ 57) ∧ decV ((atA n).extract 1 ((atA n).size - 1)) ((atA n).extract 1 ((atA n).size - 1)).size = n ∧ gb (atA n) ((atA n).size - 1) = 10 ∧ ∀ i, i < (atA n).size - 1 → gb (atA n) i ≠ 10 := by
  decide +kernel
theorem tlA_line {m : UInt8} (hm : m = 45 ∨ m = 43) {l : ByteArray} (hl : l ∈ nineLines) : LineB (tlA m l) := by
  obtain ⟨h1, _, _, _, h5, h6⟩ := tlA_facts m (by rcases hm with rfl | rfl <;> simp) l hl
  exact ⟨h1, h5, fun i hi => h6 i (by omega)⟩
theorem atA_line {n : Nat} (h : n < 100) : LineB (atA n) := by
  obtain ⟨h1, _, _, _, _, h5, h6⟩ := atA_facts n h
  exact ⟨by omega, h5, fun i hi => h6 i (by omega)⟩

/-- A telling is read: how far the old lines are done, the new lines, how many lines were told; the rest of the telling; what comes of it. -/
inductive TReads (O : List ByteArray) : Nat → List ByteArray → Nat → List ByteArray → List ByteArray → Nat → Prop
  | done {a : Nat} {X : List ByteArray} {c : Nat} : a ≤ O.length → TReads O a X c [] (X ++ O.drop a) c
  | at_ {a n : Nat} {X Z R : List ByteArray} {c d : Nat} : a ≤ n → n ≤ O.length → n < 99 → TReads O n (X ++ midOf O a n) c R Z d → TReads O a X c (atA (n + 1) :: R) Z d
  | minus {a : Nat} {X Z R : List ByteArray} {c d : Nat} {l : ByteArray} : a < O.length → O.getD a ByteArray.empty = l → l ∈ nineLines → TReads O (a + 1) X (c + 1) R Z d → TReads O a X c (tlA 45 l :: R) Z d
  | plus {a : Nat} {X Z R : List ByteArray} {c d : Nat} {l : ByteArray} : l ∈ nineLines → TReads O a (X ++ [l]) (c + 1) R Z d → TReads O a X c (tlA 43 l :: R) Z d
theorem TReads.mono {O : List ByteArray} {a c d : Nat} {X R Z : List ByteArray} (h : TReads O a X c R Z d) : c ≤ d ∧ X.length ≤ Z.length ∧ a ≤ O.length := by
  induction h with
  | done h => exact ⟨Nat.le_refl _, by simp, h⟩
  | at_ h1 h2 h3 h4 ih => simp at ih; exact ⟨ih.1, by omega, by omega⟩
  | minus h1 h2 h3 h4 ih => exact ⟨by omega, ih.2.1, by omega⟩
  | plus h1 h2 ih => simp at ih; exact ⟨by omega, by omega, ih.2.2⟩
theorem TReads.line {O : List ByteArray} {a c d : Nat} {X R Z : List ByteArray} (h : TReads O a X c R Z d) : ∀ l ∈ R, LineB l := by
  induction h with
  | done h => intro l hl; cases hl
  | at_ h1 h2 h3 h4 ih =>
    intro l hl
    rcases List.mem_cons.1 hl with rfl | hl
    · exact atA_line (by omega)
    · exact ih l hl
  | minus h1 h2 h3 h4 ih =>
    intro l hl
    rcases List.mem_cons.1 hl with rfl | hl
    · exact tlA_line (.inl rfl) h3
    · exact ih l hl
  | plus h1 h2 ih =>
    intro l hl
    rcases List.mem_cons.1 hl with rfl | hl
    · exact tlA_line (.inr rfl) h1
    · exact ih l hl
theorem reads_minus (O : List ByteArray) (hO : ∀ l ∈ O, l ∈ nineLines) {X R Z : List ByteArray} {d k : Nat} (hk : k ≤ O.length) : ∀ (n i c : Nat), k = i + n → TReads O k X (c + n) R Z d → TReads O i X c ((midOf O i k).map (tlA 45) ++ R) Z d
  | 0, i, c, hn, h => by
    have : midOf O i k = [] := by apply List.eq_nil_of_length_eq_zero; rw [midOf_len hk]; omega
    rw [this]
    rw [hn] at h
    exact h
  | n + 1, i, c, hn, h => by
    have hi : i < O.length := by omega
    have e : midOf O i k = O[i] :: midOf O (i + 1) k := by
      unfold midOf
      rw [List.drop_eq_getElem_cons (by simp; omega), List.getElem_take]
    rw [e]
    refine TReads.minus hi (by rw [List.getD_eq_getElem?_getD, List.getElem?_eq_getElem hi]; rfl) (hO _ (List.getElem_mem hi)) ?_
    exact reads_minus O hO hk n (i + 1) (c + 1) (by omega) (by rw [show c + 1 + n = c + (n + 1) by omega]; exact h)
theorem reads_plus (O : List ByteArray) {R Z : List ByteArray} {a d : Nat} : ∀ (P X : List ByteArray) (c : Nat), (∀ l ∈ P, l ∈ nineLines) → TReads O a (X ++ P) (c + P.length) R Z d → TReads O a X c (P.map (tlA 43) ++ R) Z d
  | [], X, c, _, h => by simpa using h
  | l :: P, X, c, hP, h => by
    refine TReads.plus (hP l (by simp)) (reads_plus O P (X ++ [l]) (c + 1) (fun x hx => hP x (by simp [hx])) ?_)
    rw [List.append_assoc, show c + 1 + P.length = c + (l :: P).length by simp; omega]
    exact h
theorem reads_all (O N : List ByteArray) (hO : ∀ l ∈ O, l ∈ nineLines) (hN : ∀ l ∈ N, l ∈ nineLines) (h99 : O.length < 99) : ∀ (Q : List Quad) (a : Nat) (X : List ByteArray) (c : Nat), a ≤ O.length → GOrd (O.length + 2) a Q → (∀ q ∈ Q, q.l ≤ N.length) → TReads O a X c (Q.flatMap (hunkL O N)) (X ++ laid O N a Q) (c + toldN Q)
  | [], a, X, c, ha, _, _ => TReads.done ha
  | q :: Q, a, X, c, ha, ho, hq => by
    have h1 := ho.1
    have h2 := ho.2.1
    have h3 := ho.2.2.1
    have ih := reads_all O N hO hN h99 Q q.k (X ++ midOf O a q.i ++ linesAt N q) (c + (q.k - q.i) + (linesAt N q).length) (by omega) (ho.2.2.2.less (by omega)) (fun x hx => hq x (by simp [hx]))
    have hl : (linesAt N q).length = q.l - q.j := by have := hq q (by simp); unfold linesAt; simp; omega
    have e1 : X ++ laid O N a (q :: Q) = X ++ midOf O a q.i ++ linesAt N q ++ laid O N q.k Q := by simp [laid, midOf, List.append_assoc]
    have e2 : c + toldN (q :: Q) = c + (q.k - q.i) + (linesAt N q).length + toldN Q := by simp [toldN]; omega
    rw [e1, e2, List.flatMap_cons]
    unfold hunkL
    rw [List.cons_append, List.append_assoc]
    refine TReads.at_ h1 (by omega) (by omega) (reads_minus O hO (by omega) (q.k - q.i) q.i c (by omega) (reads_plus O _ _ _ (fun l hl => ?_) ih))
    exact hN l (List.mem_of_mem_take (List.mem_of_mem_drop hl))
end Go.Proofs.YtgdfipmdmgkidaaGreatDoor

/- Mathematics: hunks made of gaps fit, give the new lines, and are told by the gaps. -/
namespace Go.Proofs.YtgdfipmdmgkidaaGreatDoor
open Go.RowKit

theorem GOrd.len {m : Nat} : ∀ {Q : List Quad} {x : Nat}, GOrd m x Q → Q.length ≤ m - x
  | [], _, _ => Nat.zero_le _
  | q :: Q, x, h => by
    have h1 := h.1
    have h2 := h.2.1
    have h3 := h.2.2.1
    have := GOrd.len h.2.2.2
    simp only [List.length_cons]
    omega
def qbOf (Q : List Quad) (Hs : List Hk) : List (Quad × List Spot) := Q.zip (Hs.map (·.Br))
theorem bring_len (i : Pid) (n : Int) (L : List ByteArray) : (bring i n L).length = L.length := brTo_len i n L _
theorem bring_id {i : Pid} {n : Int} {L : List ByteArray} {s : Spot} (h : s ∈ bring i n L) : s.a = i.a ∧ s.b = i.b ∧ s.c = i.c ∧ s.d = i.d := by
  unfold bring brTo at h
  obtain ⟨k, _, rfl⟩ := List.mem_map.1 h
  exact ⟨rfl, rfl, rfl, rfl⟩
theorem linesAt_len (N : List ByteArray) (q : Quad) : (linesAt N q).length ≤ N.length := by unfold linesAt; simp; omega

section
variable {S : List Spot} {N : List ByteArray} {i : Pid} {n : Int} {Q : List Quad} {Hs : List Hk}
theorem qb_map (hm : Made (framed S) i n N Q Hs) : (qbOf Q Hs).map (·.1) = Q := by
  unfold qbOf
  exact List.map_fst_zip (by simp [hm.1])
theorem qb_len (hm : Made (framed S) i n N Q Hs) : (qbOf Q Hs).length = Hs.length := by
  unfold qbOf; simp [hm.1]
theorem qb_at (hm : Made (framed S) i n N Q Hs) {k : Nat} {h : Hk} (hk : Hs[k]? = some h) : ∃ q, Q[k]? = some q ∧ (qbOf Q Hs)[k]? = some (q, h.Br) ∧ h.N = namedOf (framed S) q ∧ h.Br = bring i (numTo n N (Q.take k)) (linesAt N q) := by
  obtain ⟨q, h1, h2, h3⟩ := hm.2 k h hk
  refine ⟨q, h1, ?_, h2, h3⟩
  unfold qbOf
  rw [List.getElem?_zip_eq_some]
  exact ⟨h1, by rw [List.getElem?_map, hk]; rfl⟩
theorem qb_mem (hm : Made (framed S) i n N Q Hs) : ∀ r ∈ qbOf Q Hs, ∃ m, r.2 = bring i m (linesAt N r.1) := by
  intro r hr
  obtain ⟨k, hk⟩ := List.mem_iff_getElem?.1 hr
  have hkl : k < Hs.length := by have := (List.getElem?_eq_some_iff.1 hk).1; rw [qb_len hm] at this; exact this
  obtain ⟨q, _, h2, _, h4⟩ := qb_at hm (List.getElem?_eq_getElem hkl)
  rw [hk] at h2
  injection h2 with h2
  rw [h2]
  exact ⟨_, h4⟩

/-- Hunks that were made of a row's gaps fit that row, one behind the other, and give the new lines. -/
theorem made_steps (hm : Made (framed S) i n N Q Hs) (hg : GapsR (rowLines S) N 0 0 Q) (hF : (framed S).Nodup) (hid : ∀ s ∈ framed S, ¬ (s.a = i.a ∧ s.b = i.b ∧ s.c = i.c ∧ s.d = i.d)) (hS : S.length ≤ 400) (hN : N.length ≤ 400) :
    Steps (fSeq (framed S) (qbOf Q Hs)) Hs ∧ rowLines (midRow (fSeq (framed S) (qbOf Q Hs) Hs.length)) = N ∧ (fSeq (framed S) (qbOf Q Hs) Hs.length).length ≤ 200000 := by
  have ho := hg.ord (Nat.zero_le _) (Nat.zero_le _)
  have hlen := ho.len
  have hrl := rowLines_len S
  have hlf := living_framed S
  have hQH : Hs.length = Q.length := hm.1
  have hB : ∀ r ∈ qbOf Q Hs, ∀ s ∈ r.2, s ∉ framed S := fun r hr s hs hsF => by
    obtain ⟨m, h⟩ := qb_mem hm r hr
    rw [h] at hs
    exact hid s hsF (bring_id hs)
  have hM : ∀ r ∈ qbOf Q Hs, r.2.length ≤ 400 := fun r hr => by
    obtain ⟨m, h⟩ := qb_mem hm r hr
    have := linesAt_len N r.1
    rw [h, bring_len]
    omega
  have h0 : HkAt (framed S) (qbOf Q Hs) 0 := HkAt.start (living_first S) (by omega) (by rw [qb_map hm, hlf]; exact ho)
  have hql := qb_len hm
  have hFl : (framed S).length = S.length + 2 := by simp [framed]
  have hbig : ∀ k, k ≤ Hs.length → (fSeq (framed S) (qbOf Q Hs) k).length ≤ 200000 ∧ 2 ≤ (fSeq (framed S) (qbOf Q Hs) k).length := fun k hk => by
    obtain ⟨a, b⟩ := fSeq_len hF hB h0 400 hM k (by omega)
    have : k * 400 ≤ 402 * 400 := Nat.mul_le_mul_right _ (by omega)
    omega
  refine ⟨⟨fun k h hk => ?_, fun k h hk => ?_, (hbig _ (Nat.le_refl _)).2, by have := (hbig _ (Nat.le_refl _)).1; omega⟩, ?_, (hbig _ (Nat.le_refl _)).1⟩
  · have hkl : k < Hs.length := (List.getElem?_eq_some_iff.1 hk).1
    obtain ⟨q, e1, e2, e3, e4⟩ := qb_at hm hk
    obtain ⟨_, p, a1, a2, a3, a4, a5, a6, a7⟩ := (HkAt.all hF hB h0 k (by omega)).step hF e2 (hB _ (List.mem_of_getElem? e2))
    rw [e3]
    exact ⟨_, p, a1, a2, a3, a4, a6⟩
  · have hkl : k < Hs.length := (List.getElem?_eq_some_iff.1 hk).1
    obtain ⟨q, e1, e2, e3, e4⟩ := qb_at hm hk
    obtain ⟨_, p, a1, a2, a3, a4, a5, a6, a7⟩ := (HkAt.all hF hB h0 k (by omega)).step hF e2 (hB _ (List.mem_of_getElem? e2))
    have b1 := (hbig k (by omega)).1
    have b2 := hM _ (List.mem_of_getElem? e2)
    rw [e3]
    simp only at b2
    omega
  · rw [← hql, (HkAt.all hF hB h0 _ (Nat.le_refl _)).last, rows_laid S N _ (by rw [qb_map hm]; exact ho) (fun r hr => ?_), qb_map hm]
    · have := hg.gives (Nat.zero_le _) (Nat.zero_le _)
      rw [this, List.drop_zero]
    · obtain ⟨m, h⟩ := qb_mem hm r hr
      rw [h, rowLines_bring]

/-- How they are told. -/
def gSeq (name : ByteArray) (O N : List ByteArray) (Q : List Quad) (k : Nat) : ByteArray := alterHead name ++ catB ((Q.take k).flatMap (hunkL O N))
theorem tlA_size (m : UInt8) (l : ByteArray) : (tlA m l).size ≤ l.size + 3 := by
  show (tlB ⟨#[m]⟩ l).length ≤ l.data.toList.length + 3
  unfold tlB
  simp only [List.length_append]
  split <;> simp <;> omega
theorem atA_size {n : Nat} (h : n < 100) : (atA n).size ≤ 5 := (atA_facts n h).2.1
theorem hunk_size {O N : List ByteArray} {q : Quad} (hO : ∀ l ∈ O, l.size ≤ 1000) (hN : ∀ l ∈ N, l.size ≤ 1000) (hOl : O.length ≤ 400) (hNl : N.length ≤ 400) (hq : q.i + 1 < 100) : (catB (hunkL O N q)).size ≤ 1000000 := by
  have h := cat_size (hunkL O N q) 1003 (fun l hl => by
    unfold hunkL at hl
    rcases List.mem_cons.1 hl with rfl | hl
    · have := atA_size hq; omega
    · rcases List.mem_append.1 hl with hl | hl
      · obtain ⟨x, hx, rfl⟩ := List.mem_map.1 hl
        have := tlA_size 45 x
        have := hO x (List.mem_of_mem_take (List.mem_of_mem_drop hx))
        omega
      · obtain ⟨x, hx, rfl⟩ := List.mem_map.1 hl
        have := tlA_size 43 x
        have := hN x (List.mem_of_mem_take (List.mem_of_mem_drop hx))
        omega)
  have h1 : (hunkL O N q).length ≤ 801 := by
    unfold hunkL
    have := linesAt_len N q
    have : (midOf O q.i q.k).length ≤ O.length := by unfold midOf; simp; omega
    simp
    omega
  have : (hunkL O N q).length * 1003 ≤ 801 * 1003 := Nat.mul_le_mul_right _ h1
  omega
theorem made_tells (name : ByteArray) (hname : name.size ≤ 1000) (hm : Made (framed S) i n N Q Hs) (hg : GapsR (rowLines S) N 0 0 Q) (hF : (framed S).Nodup) (hS : S.length ≤ 400) (hN : N.length ≤ 400) (h98 : (rowLines S).length < 98) (hlo : ∀ l ∈ rowLines S, l.size ≤ 1000) (hln : ∀ l ∈ N, l.size ≤ 1000) :
    Tells (framed S) Hs (gSeq name (rowLines S) N Q) := by
  have ho := hg.ord (Nat.zero_le _) (Nat.zero_le _)
  have hok := hg.ok (Nat.zero_le _) (Nat.zero_le _)
  have hlen := ho.len
  have hrl := rowLines_len S
  have hlf := living_framed S
  have hQH : Hs.length = Q.length := hm.1
  have hFl : (framed S).length = S.length + 2 := by simp [framed]
  refine ⟨fun k h hk => ?_, fun k hk => ?_⟩
  · obtain ⟨q, e1, e2, e3, e4⟩ := qb_at hm hk
    obtain ⟨o1, o2, o3, o4⟩ := hok q (List.mem_of_getElem? e1)
    have hqi : q.i < (living (framed S)).length := by omega
    have hqk : q.k + 1 < (living (framed S)).length := by omega
    have a2 := living_lt (framed S) (show q.i < q.k + 1 by omega) hqk
    have a3 := living_in (framed S) hqk
    have ea : (living (framed S)).getD q.i 0 = (living (framed S))[q.i] := getD_living _ hqi
    have eb : (living (framed S)).getD (q.k + 1) 0 = (living (framed S))[q.k + 1] := getD_living _ hqk
    have hN0 : (namedOf (framed S) q)[0]? = some ((framed S)[(living (framed S))[q.i]]'(by omega)) := by
      unfold namedOf
      rw [ea, eb, List.getElem?_drop, List.getElem?_take_of_lt (by omega), List.getElem?_eq_getElem (by omega)]
      rfl
    have hnl : (namedOf (framed S) q).length = (living (framed S))[q.k + 1] + 1 - (living (framed S))[q.i] := by
      unfold namedOf
      rw [ea, eb]
      simp
      omega
    have hidx := idx_at (P := []) hF (Nat.zero_le _) (show (living (framed S))[q.i] < (framed S).length by omega) (by simp)
    simp only [List.nil_append, List.drop_zero, List.length_nil, Nat.zero_add, Nat.sub_zero] at hidx
    have hkl := killed_lines S q o1 o2
    have hbl : rowLines h.Br = linesAt N q := by rw [e4, rowLines_bring]
    have hcnt := ahead_count (framed S) hqi
    have hml : (midRow (namedOf (framed S) q)).length ≤ (namedOf (framed S) q).length := by unfold midRow; simp; omega
    refine ⟨_, _, by rw [e3]; exact hN0, hidx, by omega, by rw [e3, hnl]; omega, ⟨by rw [e3]; omega, fun l hl => ?_⟩, ⟨by rw [e4, bring_len]; have := linesAt_len N q; omega, fun l hl => ?_⟩, by rw [e3, hnl]; omega, by rw [hcnt]; omega, ?_⟩
    · rw [e3, hkl] at hl
      exact hlo l (List.mem_of_mem_take (List.mem_of_mem_drop hl))
    · rw [hbl] at hl
      exact hln l (List.mem_of_mem_take (List.mem_of_mem_drop hl))
    · rw [hTell_cat (O := rowLines S) (T := N) (q := q) hcnt (by rw [e3]; exact hkl) hbl]
      obtain ⟨hkQ, hke⟩ := List.getElem?_eq_some_iff.1 e1
      unfold gSeq
      rw [List.take_succ_eq_append_getElem hkQ, List.flatMap_append, catB_app, hke, List.flatMap_cons, List.flatMap_nil, List.append_nil, app_assoc]
  · have hall : ∀ R : List Quad, (∀ q ∈ R, q ∈ Q) → (catB (R.flatMap (hunkL (rowLines S) N))).size ≤ R.length * 1000000 := by
      intro R
      induction R with
      | nil => intro _; simp [catB, ByteArray.size]
      | cons q R ih =>
        intro hR
        rw [List.flatMap_cons, catB_app, ByteArray.size_append, List.length_cons, Nat.add_mul]
        have := ih (fun x hx => hR x (by simp [hx]))
        have := hunk_size (q := q) hlo hln (by omega) (by omega) (by have := hok q (hR q (by simp)); omega)
        omega
    have h1 := hall (Q.take k) (fun q hq => List.mem_of_mem_take hq)
    have h2 : (Q.take k).length ≤ 100 := by simp; omega
    have h3 : (Q.take k).length * 1000000 ≤ 100 * 1000000 := Nat.mul_le_mul_right _ h2
    unfold gSeq alterHead
    rw [ByteArray.size_append, ByteArray.size_append, ByteArray.size_append]
    have e7 : (⟨#[97, 108, 116, 101, 114, 32]⟩ : ByteArray).size = 6 := rfl
    have e8 : (⟨#[10]⟩ : ByteArray).size = 1 := rfl
    omega
end
end Go.Proofs.YtgdfipmdmgkidaaGreatDoor
