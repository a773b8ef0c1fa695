/- take: the coming patches are laid behind those that are here. -/
import Derived.Test.YtgdfipmdmgkidaaGreatDoorMfith
import Derived.Test.YtgdfipmdmgkidaaGreatDoorUwr
import Derived.Test.YtgdfipmdmgkidaaGreatDoorUfk
import Derived.Deep.AppendLies
import Derived.Maps.AppendAt
import Derived.RangeFuncNested
import Derived.RangeFuncCalls
import Derived.RangeFuncBox
import Derived.RangeFuncLeaves
import Derived.Shelf.Abstract
import Derived.WalkKit
import Derived.OwnWalkIn
import Derived.TacticsInMore
import Derived.LoopNIn
import Derived.LoopIn
namespace Go.Proofs.YtgdfipmdmgkidaaGreatDoor
open Go.RowKit
theorem run_append_row {P : Program} {w : World} (base base2 : Nat) (t ty e : TypeId) (i : TypeInfo) (z : Value) (size bytes : Nat) (ht : P.underlying t = some (.slice e)) (hi : P.info? e = some i) (hz : i.zero = some z)
    (hsize : i.size = size) (hby : i.bytes = bytes) (hzs : z.cells.size = size) (hsz : 0 < size) (v : Value) (n : Nat) (xs : List Value) (hown : w.ownsRow base e size v n xs)
    (x : Value) (m : Nat) (news : List Value) (hx : w.ownsRow base2 e size x m news) (h1 : ∀ u ∈ news, u.oneCell' = true) (h63 : n + m ≤ maxLen) (hbytes : (n + m) * bytes ≤ 140737488355328) (hbase : base ≤ w.heap.size) :
    ∃ v' w', (Builtin.append_ #[t, t] ty #[v, x]).run P w = .ok v' w' ∧ w'.ownsRow base e size v' (n + m) (xs ++ news) ∧ w.grownBy w' v.ownBlock ∧ ∀ g, v'.ownBlock = some g → v.ownBlock = some g ∨ w.heap.size ≤ g := by
  rcases hx.2 with ⟨rfl, rfl⟩ | ⟨g, cap, cur, rfl, _⟩
  · have hn : news = [] := List.eq_nil_of_length_eq_zero (by simpa using hx.1)
    subst hn
    exact ⟨v, w, run_append_owned_none (P := P) (w := w) base t ty e i size ht hi v n xs hown, by simpa using hown, World.grownBy.refl _ _, fun g hg => .inl hg⟩
  · obtain ⟨v', w', hr, h2, h3, _, h5⟩ := run_append_own_at (P := P) w base t ty e i z size bytes ht hi hz hsize hby hzs hsz v n xs hown ⟨g, 0, none⟩ m cap news hx.1 (hx.cells rfl) h1 h63 hbytes hbase
    refine ⟨v', w', hr, h2, h3, fun k hk => ?_⟩
    rcases h5 with h5 | h5
    · exact .inl (h5 ▸ hk)
    · rw [h5] at hk
      cases hk
      exact .inr (Nat.le_refl _)
theorem wpList_append_rows {P : Program} {w : World} {ops : Array Oper} {rest : List Oper} {o : Oper} {a : Act} {Q : Exit → Act → World → Prop} (hgd : o.guard = none) (s x : Operand) (t : TypeId)
    (ho : o.op = .call { callee := .builtin .append, args := #[s, x], argTypes := #[t, t] })
    (base base2 : Nat) (e : TypeId) (i : TypeInfo) (z : Value) (size bytes : Nat) (ht : P.underlying t = some (.slice e)) (hi : P.info? e = some i) (hz : i.zero = some z)
    (hsize : i.size = size) (hby : i.bytes = bytes) (hzs : z.cells.size = size) (hsz : 0 < size) (v : Value) (n : Nat) (xs : List Value) (hs : a.eval s = v) (hown : w.ownsRow base e size v n xs)
    (xv : Value) (m : Nat) (news : List Value) (hxe : a.eval x = xv) (hx : w.ownsRow base2 e size xv m news) (h1 : ∀ u ∈ news, u.oneCell' = true) (h63 : n + m ≤ maxLen) (hbytes : (n + m) * bytes ≤ 140737488355328) (hbase : base ≤ w.heap.size)
    (h : ∀ v' w', w'.ownsRow base e size v' (n + m) (xs ++ news) → w.grownBy w' v.ownBlock → (∀ g, v'.ownBlock = some g → v.ownBlock = some g ∨ w.heap.size ≤ g) → wpList P ops Q rest (a.put o.dst v') w') : wpList P ops Q (o :: rest) a w := by
  refine wpList_plain hgd fun K hK => ?_
  obtain ⟨v', w', hrun, h2, h3, h4⟩ := run_append_row (P := P) (w := w) base base2 t o.type e i z size bytes ht hi hz hsize hby hzs hsz v n xs hown xv m news hx h1 h63 hbytes hbase
  unfold Oper.wp
  simp [execOp, ho, resolve, invoke, builtin, hs, hxe, hrun, Result.andThen]
  exact hK _ _ (h v' w' h2 h3 h4)
section
variable {w : World} {B pb rg : Nat} {cap : Cfg} {gb : Nat} {pv : Value} {Ps : List PM} {fb fn : Nat} {f : ByteArray → Option ByteArray} {G : List Pid}
theorem OneAt.pushL (h : OneAt w B pb rg cap gb pv Ps fb fn f G) {w1 w2 : World} {Cm : List PM} {pv2 : Value} (hb1 : Below w.heap.size w w1) (hg : w1.grownBy w2 pv.ownBlock) (hat : ∀ g, pv2.ownBlock = some g → pv.ownBlock = some g ∨ w1.heap.size ≤ g) (hown : w2.ownsRow B 149 5 pv2 (Ps ++ Cm).length (pmCells (Ps ++ Cm))) (hP : ∀ P ∈ Cm, CV w1 P.cv P.Cs) :
    OneAt (w2.setCell ⟨rg, cap.r * 2, none⟩ pv2) B pb rg cap gb pv2 (Ps ++ Cm) fb fn f G ∧ (∀ T : TypeId → Prop, ¬ T 149 → ¬ T 87 → HeldT T w1 (w2.setCell ⟨rg, cap.r * 2, none⟩ pv2)) ∧ ∀ k, k < w1.heap.size → k ≠ rg → (∀ q, pv.ownBlock = some q → k ≠ q) → (w2.setCell ⟨rg, cap.r * 2, none⟩ pv2).heap[k]? = w1.heap[k]? := by
  have h1 := h.below hb1
  obtain ⟨l1, l2, l3, l4⟩ := h1.lts
  obtain ⟨A, hA, hA0, hA1, hAo⟩ := h1.row
  have tb : ∀ q, pv.ownBlock = some q → TB w1 q 149 := fun q hq => own_TB h1.own hq
  have ne : ∀ {k : Nat} {o : Obj}, w1.heap[k]? = some o → (∀ cs fz, o ≠ .cells cs 149 fz) → ∀ q, pv.ownBlock = some q → k ≠ q := fun hk ho q hq e => by
    subst e
    obtain ⟨cs, fz, hq2⟩ := tb _ hq
    rw [hk] at hq2
    injection hq2 with e
    exact ho cs fz e
  have far : ∀ k, k < w1.heap.size → (∀ q, pv.ownBlock = some q → k ≠ q) → w2.heap[k]? = w1.heap[k]? := fun k hk hq => hg.block k hk (fun e => hq k e.symm rfl)
  have far2 : ∀ k, k < w1.heap.size → k ≠ rg → (∀ q, pv.ownBlock = some q → k ≠ q) → (w2.setCell ⟨rg, cap.r * 2, none⟩ pv2).heap[k]? = w1.heap[k]? := fun k hk hr hq => (Below.heap_setCell _ _ _ _ hr).trans (far k hk hq)
  have hA2 : w2.heap[rg]? = some (.cells A 87 (0, 0)) := (far rg l2 (ne hA (fun cs fz e => by simp at e))).trans hA
  have heldT : ∀ T : TypeId → Prop, ¬ T 149 → ¬ T 87 → HeldT T w1 (w2.setCell ⟨rg, cap.r * 2, none⟩ pv2) := fun T t1 t2 => (HeldT.of_grown hg (fun q hq => ⟨149, tb q hq, t1⟩)).trans (HeldT.set ⟨A, _, hA2⟩ t2 _)
  have held := heldT stuff (by simp [stuff]) (by simp [stuff])
  obtain ⟨es1, c1, m1⟩ := h1.given.map
  obtain ⟨es2, c2, m2⟩ := h1.files.map
  refine ⟨⟨h.lo, (far2 pb l1 (fun e => ?_) (ne h1.wb (fun cs fz e => by simp at e))).trans h1.wb, ⟨_, heap_setCell_same w2 rg (cap.r * 2) A 87 _ hA2, ?_, ?_, fun i hi => ?_⟩, h1.given.same (far2 gb l3 (fun e => ?_) (ne m1 (fun cs fz e => by cases e))), ?_, fun Q hQ => ?_, h1.files.same (far2 fb l4 (fun e => ?_) (ne m2 (fun cs fz e => by cases e))), h.ne, h.cap1, fun i hi => ?_⟩, heldT, far2⟩
  · have := h1.wb
    rw [e, hA] at this
    simp at this
  · have : cap.r * 2 < A.size := (Array.getElem?_eq_some_iff.1 hA0).1
    simp [this]
  · rw [Array.getElem?_setIfInBounds_ne (by omega)]
    exact hA1
  · have hir := hi.2
    rw [Array.getElem?_setIfInBounds_ne (by omega), Array.getElem?_setIfInBounds_ne (by omega)]
    exact hAo i hi
  · rw [e, hA] at m1
    cases m1
  · refine hown.kept (w' := w2.setCell ⟨rg, cap.r * 2, none⟩ _) (row := some rg) ⟨rfl, rfl, rfl, by simp [World.setCell], fun k _ hne => Below.heap_setCell _ _ _ _ (fun e => hne (by rw [e]))⟩ (Or.inr ?_)
    intro e
    obtain ⟨cs, fz, hq⟩ := own_TB hown (g := rg) e
    rw [hA2] at hq
    simp at hq
  · rcases List.mem_append.1 hQ with hQ | hQ
    · exact (h1.chs Q hQ).held held
    · exact (hP Q hQ).held held
  · rw [e, hA] at m2
    cases m2
  · have hR := h1.oths i hi
    obtain ⟨es3, c3, m3⟩ := hR.files.map
    refine hR.same (far2 _ hR.files.lt (fun e => ?_) (ne m3 (fun cs fz e => by cases e))) (fun k hk => far2 k (hR.own.lt k hk).2 (fun e => ?_) (fun q hq e => hR.far k hk (by rw [hq, e]))) (fun Q hQ => (hR.chs Q hQ).held held) (fun k hk e => ?_)
    · rw [e, hA] at m3
      cases m3
    · obtain ⟨cs, fz, hq⟩ := own_TB hR.own hk
      rw [e, hA] at hq
      simp at hq
    · rcases hat k e with q | q
      · exact hR.far k hk q
      · have := (hR.own.lt k hk).2
        omega
end
end Go.Proofs.YtgdfipmdmgkidaaGreatDoor

/- slices.Reverse of a list of patches. -/
set_option maxRecDepth 100000
namespace Go.Proofs.YtgdfipmdmgkidaaGreatDoor
open Go.RowKit
structure RevI (w wr : World) (L M : List PM) (base g cap k : Nat) : Prop where
  len : M.length = L.length
  at_ : ∀ m : Nat, M[m]? = if m < k ∨ L.length ≤ m + k then L.reverse[m]? else L[m]?
  own : wr.ownsRow base 149 5 (.slice (some ⟨g, 0, none⟩) M.length cap) M.length (pmCells M)
  grown : w.grownBy wr (some g)
theorem RevI.done {w wr : World} {L M : List PM} {base g cap k : Nat} (h : RevI w wr L M base g cap k) (h1 : L.length ≤ 2 * k + 1) : M = L.reverse := by
  apply List.ext_getElem?
  intro m
  rw [h.at_]
  split
  · rfl
  · next hn =>
    have e : L.length - 1 - m = m := by omega
    rw [List.getElem?_reverse (by omega), e]
set_option maxHeartbeats 6400000 in
theorem rev130_some (L : List PM) (g base cap : Nat) (w : World) (ho : w.ownsRow base 149 5 (.slice (some ⟨g, 0, none⟩) L.length cap) L.length (pmCells L)) (hcv : ∀ P ∈ L, ∃ a n c, P.cv = .slice a n c) (hl : L.length ≤ 1000000) :
    Calls Tryz.prog 130 #[.slice (some ⟨g, 0, none⟩) L.length cap] w fun e w' => e = .returned (.tuple #[]) ∧ w'.ownsRow base 149 5 (.slice (some ⟨g, 0, none⟩) L.length cap) L.length (pmCells L.reverse) ∧ w.grownBy w' (some g) := by
  have HI0 : Hid (RevI w w L L base g cap 0) := ⟨rfl, fun m => by
    by_cases h : m < 0 ∨ L.length ≤ m + 0
    · rw [if_pos h, List.getElem?_eq_none (by omega), List.getElem?_eq_none (by rw [List.length_reverse]; omega)]
    · rw [if_neg h], ho, World.grownBy.refl _ _⟩
  have HCV := hid hcv
  clear hcv ho
  go_enter Tryz.func130, Tryz.ntmps130
  go_wp2_with fail
  go_loopw [2, 3] (fun i j wr => ∃ (k : Nat) (M : List PM), 2 * k ≤ L.length ∧ i = .int .i64 k ∧ j = .int .i64 ((L.length : Int) - 1 - k) ∧ Hid (RevI w wr L M base g cap k)) (fun i _ _ => L.length - (intOf i).toNat)
  case atStart => exact ⟨0, L, by omega, rfl, by simp, HI0⟩
  case round =>
    clear HI0
    obtain ⟨k, M, hk, rfl, rfl, HI⟩ := hrel
    by_cases hlt : 2 * k + 1 < L.length
    · obtain ⟨j, hj⟩ : ∃ j : Nat, (L.length : Int) - 1 - k = (j : Int) := ⟨L.length - 1 - k, by omega⟩
      rw [hj]
      have hjn : j + 1 + k = L.length := by omega
      have hkj : (k : Int) < (j : Int) := by omega
      have hml := HI.out.len
      obtain ⟨P, hP⟩ : ∃ P, M[k]? = some P := ⟨_, List.getElem?_eq_getElem (by omega)⟩
      obtain ⟨Q, hQ⟩ : ∃ Q, M[j]? = some Q := ⟨_, List.getElem?_eq_getElem (by omega)⟩
      have hPL : L[k]? = some P := by rw [← hP, HI.out.at_, if_neg (by omega)]
      have hQL : L[j]? = some Q := by rw [← hQ, HI.out.at_, if_neg (by omega)]
      obtain ⟨pa, pn, pc, hpv⟩ := HCV.out P (List.mem_of_getElem? hPL)
      obtain ⟨qa, qn, qc, hqv⟩ := HCV.out Q (List.mem_of_getElem? hQL)
      obtain ⟨p0, p1, p2, p3, p4⟩ := pm_at HI.out.own hP
      obtain ⟨q0, q1, q2, q3, q4⟩ := pm_at HI.out.own hQ
      rw [hpv] at p4
      rw [hqv] at q4
      have fz := fun x => World.ownsRow.frozenAt HI.out.own x
      have f0 := fz (k * 5)
      have f1 := fz (k * 5 + 1)
      have f2 := fz (k * 5 + 2)
      have f3 := fz (k * 5 + 3)
      have f4 := fz (k * 5 + 4)
      have g0 := fz (j * 5)
      have g1 := fz (j * 5 + 1)
      have g2 := fz (j * 5 + 2)
      have g3 := fz (j * 5 + 3)
      have g4 := fz (j * 5 + 4)
      have HPV := hid hpv
      have HQV := hid hqv
      have HPL := hid hPL
      have HQL := hid hQL
      have HML := hid hml
      have HJ := hid hj
      have HJN := hid hjn
      have hjl : (j : Int) < (L.length : Int) := by omega
      have hkl : (k : Int) < (L.length : Int) := by omega
      have hjm : j ≤ 1000000 := by omega
      have hkm : k ≤ 1000000 := by omega
      clear fz hP hQ hpv hqv hPL hQL hml hj
      go_wp2_with fail
      go_region
      have HFIN : Hid (RevI w (((((((((((wr.setCell ⟨g, k * 5, none⟩ (.int .u8 Q.id.a)).setCell ⟨g, k * 5 + 1, none⟩ (.int .u8 Q.id.b)).setCell ⟨g, k * 5 + 2, none⟩ (.int .u8 Q.id.c)).setCell ⟨g, k * 5 + 3, none⟩ (.int .u8 Q.id.d)).setCell ⟨g, k * 5 + 4, none⟩ (.slice qa qn qc)).setCell ⟨g, j * 5, none⟩ (.int .u8 P.id.a)).setCell ⟨g, j * 5 + 1, none⟩ (.int .u8 P.id.b)).setCell ⟨g, j * 5 + 2, none⟩ (.int .u8 P.id.c)).setCell ⟨g, j * 5 + 3, none⟩ (.int .u8 P.id.d)).setCell ⟨g, j * 5 + 4, none⟩ (.slice pa pn pc)).drew) L ((M.set k Q).set j P) base g cap (k + 1)) := by
        have hml := HML.out
        obtain ⟨o1, r1⟩ := own_set5 (i := k) HI.out.own (by omega) Q rfl rfl rfl rfl rfl
        rw [HQV.out] at o1 r1
        have el : (M.set k Q).length = M.length := List.length_set
        have el2 : ((M.set k Q).set j P).length = M.length := by rw [List.length_set, el]
        rw [← el] at o1
        obtain ⟨o2, r2⟩ := own_set5 (i := j) o1 (by rw [el]; omega) P rfl rfl rfl rfl rfl
        rw [HPV.out, el] at o2
        rw [HPV.out] at r2
        refine ⟨by rw [el2, hml], fun m => ?_, by rw [el2]; exact o2.drew, grown_trans HI.out.grown (grown_trans (grown_trans r1 r2) (grown_of (Below.refl _ _).drew _))⟩
        rw [List.getElem?_set, List.getElem?_set, el]
        by_cases e1 : j = m
        · subst e1
          rw [if_pos rfl, if_pos (by omega), if_pos (by omega), List.getElem?_reverse (by omega), ← HPL.out]
          congr 1
          omega
        · rw [if_neg e1]
          by_cases e2 : k = m
          · subst e2
            rw [if_pos rfl, if_pos (by omega), if_pos (by omega), List.getElem?_reverse (by omega), ← HQL.out]
            congr 1
            omega
          · rw [if_neg e2, HI.out.at_]
            by_cases e3 : m < k ∨ L.length ≤ m + k
            · rw [if_pos e3, if_pos (by omega)]
            · rw [if_neg e3, if_neg (by omega)]
      clear HI
      generalize (((((((((((wr.setCell ⟨g, k * 5, none⟩ (.int .u8 Q.id.a)).setCell ⟨g, k * 5 + 1, none⟩ (.int .u8 Q.id.b)).setCell ⟨g, k * 5 + 2, none⟩ (.int .u8 Q.id.c)).setCell ⟨g, k * 5 + 3, none⟩ (.int .u8 Q.id.d)).setCell ⟨g, k * 5 + 4, none⟩ (.slice qa qn qc)).setCell ⟨g, j * 5, none⟩ (.int .u8 P.id.a)).setCell ⟨g, j * 5 + 1, none⟩ (.int .u8 P.id.b)).setCell ⟨g, j * 5 + 2, none⟩ (.int .u8 P.id.c)).setCell ⟨g, j * 5 + 3, none⟩ (.int .u8 P.id.d)).setCell ⟨g, j * 5 + 4, none⟩ (.slice pa pn pc)).drew) = wz at *
      clear p0 p1 p2 p3 p4 q0 q1 q2 q3 q4 f0 f1 f2 f3 f4 g0 g1 g2 g3 g4
      go_wp2
      go_roundw
      case rel => exact ⟨k + 1, _, by omega, by go_num, by have := HJ.out; have := HJN.out; congr 1; omega, HFIN⟩
      case measure => simp [intOf]; omega
    · have hge : ¬ ((k : Int) < (L.length : Int) - 1 - k) := by omega
      have e := HI.out.done (by omega)
      have hml := HI.out.len
      have HF : Hid (wr.ownsRow base 149 5 (.slice (some ⟨g, 0, none⟩) L.length cap) L.length (pmCells L.reverse) ∧ w.grownBy wr (some g)) := by
        have h1 := HI.out.own
        rw [hml, e] at h1
        exact ⟨h1, HI.out.grown⟩
      clear HI e hml
      go_wp2_with fail
      refine bodyPost_end (results_none rfl _ _ _) rfl ?_
      exact ⟨rfl, HF.out⟩
theorem rev130_none (cap : Nat) (w : World) : Calls Tryz.prog 130 #[.slice none 0 cap] w fun e w' => e = .returned (.tuple #[]) ∧ w' = w := by
  go_enter Tryz.func130, Tryz.ntmps130
  go_wp2_with fail
  go_loopw [2, 3] (fun i j wr => i = .int .i64 0 ∧ j = .int .i64 (-1) ∧ wr = w) (fun _ _ _ => 0)
  case atStart => exact ⟨rfl, rfl, rfl⟩
  case round =>
    obtain ⟨rfl, rfl, rfl⟩ := hrel
    go_wp2_with fail
    refine bodyPost_end (results_none rfl _ _ _) rfl ?_
    exact ⟨rfl, rfl⟩
theorem rev130_any (L : List PM) (base : Nat) (v : Value) (w : World) (ho : w.ownsRow base 149 5 v L.length (pmCells L)) (hcv : ∀ P ∈ L, ∃ a n c, P.cv = .slice a n c) (hl : L.length ≤ 1000000) :
    Calls Tryz.prog 130 #[v] w fun e w' => e = .returned (.tuple #[]) ∧ w'.ownsRow base 149 5 v L.length (pmCells L.reverse) ∧ w.grownBy w' v.ownBlock := by
  rcases ho.2 with ⟨rfl, h0⟩ | ⟨g, cap, cur, rfl, _⟩
  · have : L = [] := List.eq_nil_of_length_eq_zero h0
    subst this
    exact (rev130_none 0 w).mono fun e w' ⟨h1, h2⟩ => by subst h2; exact ⟨h1, ho, World.grownBy.refl _ _⟩
  · exact rev130_some L g base cap w ho hcv hl
end Go.Proofs.YtgdfipmdmgkidaaGreatDoor

/- LastWithNeeds: the last of the patches with those that it needs. -/
set_option maxHeartbeats 3200000
set_option maxRecDepth 100000
namespace Go.Proofs.YtgdfipmdmgkidaaGreatDoor
open Go.RowKit Go.Shelf
def wantStep (Ps : List PM) (acc : List PM) (k : Fin Ps.length) : List PM := if k.1 + 1 = Ps.length || acc.any (fun q => needsP q Ps[k]) then acc ++ [Ps[k]] else acc
def wantOf (Ps : List PM) (pre : List (Fin Ps.length)) : List PM := pre.foldl (wantStep Ps) []
def backs (n : Nat) : List (Fin n) := (List.finRange n).reverse
def lastWith (Ps : List PM) : List PM := (wantOf Ps (backs Ps.length)).reverse
theorem wantOf_snoc (Ps : List PM) (pre : List (Fin Ps.length)) (k : Fin Ps.length) : wantOf Ps (pre ++ [k]) = wantStep Ps (wantOf Ps pre) k := by simp [wantOf]
theorem wantStep_len (Ps acc : List PM) (k : Fin Ps.length) : (wantStep Ps acc k).length ≤ acc.length + 1 := by
  unfold wantStep
  split
  · simp
  · omega
theorem wantOf_mem (Ps : List PM) : ∀ (pre : List (Fin Ps.length)), (∀ P ∈ wantOf Ps pre, P ∈ Ps) ∧ (wantOf Ps pre).length ≤ pre.length := by
  intro pre
  unfold wantOf
  suffices H : ∀ (acc : List PM), (∀ P ∈ acc, P ∈ Ps) → (∀ P ∈ pre.foldl (wantStep Ps) acc, P ∈ Ps) ∧ (pre.foldl (wantStep Ps) acc).length ≤ acc.length + pre.length by
    have := H [] (fun P h => by cases h)
    simpa using this
  induction pre with
  | nil => intro acc h; exact ⟨h, by simp⟩
  | cons k pre ih =>
    intro acc h
    have h1 : ∀ P ∈ wantStep Ps acc k, P ∈ Ps := by
      intro P hP
      unfold wantStep at hP
      split at hP
      · rcases List.mem_append.1 hP with q | q
        · exact h P q
        · rw [List.mem_singleton.1 q]; exact List.getElem_mem _
      · exact h P hP
    obtain ⟨a, b⟩ := ih _ h1
    refine ⟨a, ?_⟩
    have := wantStep_len Ps acc k
    simp only [List.foldl_cons, List.length_cons]
    omega
theorem backs_take (n k : Nat) (hk : k < n) : (backs n).take (k + 1) = (backs n).take k ++ [⟨n - 1 - k, by omega⟩] := by
  have hl : k < (backs n).length := by simp [backs]; omega
  rw [List.take_succ_eq_append_getElem hl]
  congr 2
  simp [backs]
theorem backs_len (n : Nat) : (backs n).length = n := by simp [backs]
def KpB (n₀ Bs : Nat) (W W' : World) : Prop := Below n₀ W W' ∧ W'.heap[Bs]? = W.heap[Bs]?
theorem back262_in (n : Nat) (hn : 1 ≤ n) (l Bs n₀ b off cap : Nat) (Ps : List PM) (hreach : Ps.length ≤ 1000000) (hb : b < n₀) (J Jx : List (Fin Ps.length) → World → Prop)
    (hY : ∀ pre x W, J pre W → pre.length < Ps.length → YieldAt Fence.wide (n - 1) Tryz.prog l #[.int .i64 x.1, pmV Ps[x]] W fun e W' =>
      (e = .returned (.bool true) ∧ J (pre ++ [x]) W' ∧ KpB n₀ Bs W W') ∨ (e = .returned (.bool false) ∧ Jx (pre ++ [x]) W'))
    (W : World) (hBs : Boxed W Bs 84 (.slice (some ⟨b, off, none⟩) Ps.length cap)) (hc : ∀ j u, (pmCells Ps)[j]? = some u → W.cell? ⟨b, off + j, none⟩ = some u) (h0 : J [] W) :
    CallsIn Fence.wide n Tryz.prog 262 #[.func (.yield l) #[] #[], .pointer (some ⟨Bs, 0, none⟩)] W fun e W' => (∃ v, e = .returned v) ∧
      ((∃ ys, ys = backs Ps.length ∧ J ys W') ∨ (∃ pre, pre <+: backs Ps.length ∧ Jx pre W')) := by
  have hcs := hBs.cell
  have HBs := hid hBs
  have HC := hid hc
  have HY := hid hY
  clear hBs hc hY
  refine callsIn_of_wp Tryz.func262 rfl trivial ?_ rfl
  simp only [Tryz.ntmps262, List.size_toArray, List.length_cons, List.length_nil, Nat.reduceAdd, Nat.reduceSub, Array.replicate_succ, Array.replicate_zero, List.push_toArray, List.append_toArray, List.nil_append, List.cons_append]
  gi_wp2
  clear hcs
  gi_loopw [3] (fun i wr => ∃ k : Nat, k ≤ Ps.length ∧ i = .int .i64 ((Ps.length : Int) - 1 - k) ∧ Hid (J ((backs Ps.length).take k) wr) ∧ Hid (KpB n₀ Bs W wr))
    (fun i _ => (intOf i + 1).toNat)
  case atStart => exact ⟨0, Nat.zero_le _, by simp, h0, Below.refl _ _, rfl⟩
  case round =>
    obtain ⟨k, hk, rfl, HJ, HK⟩ := hrel
    by_cases hlt : k < Ps.length
    · obtain ⟨j, hj⟩ : ∃ j : Nat, (Ps.length : Int) - 1 - k = (j : Int) := ⟨Ps.length - 1 - k, by omega⟩
      rw [hj]
      have hjn : j + 1 + k = Ps.length := by omega
      have hjl : j < Ps.length := by omega
      obtain ⟨P, hP⟩ : ∃ P, Ps[j] = P := ⟨_, rfl⟩
      have hPs : Ps[j]? = some P := by rw [List.getElem?_eq_getElem hjl, hP]
      obtain ⟨f0, f1, f2, f3, f4⟩ := pm_flat Ps j P hPs
      have rd := fun x u h => (HK.out.1.cell (p := ⟨b, off + x, none⟩) hb).trans (HC.out x u h)
      have c0 := rd _ _ f0
      have c1 := rd _ _ f1
      have c2 := rd _ _ f2
      have c3 := rd _ _ f3
      have c4 := rd _ _ f4
      simp only [← Nat.add_assoc] at c1 c2 c3 c4
      have hbx : Boxed wr Bs 84 (.slice (some ⟨b, off, none⟩) Ps.length cap) := HK.out.2.trans HBs.out
      have hcs := hbx.cell
      have hsn := backs_take Ps.length k hlt
      have hje : (⟨Ps.length - 1 - k, by omega⟩ : Fin Ps.length) = ⟨j, hjl⟩ := by apply Fin.ext; show Ps.length - 1 - k = j; omega
      rw [hje] at hsn
      obtain ⟨fn, tmps, assign, body, hy, hR⟩ := HY.out _ ⟨j, hjl⟩ wr HJ.out (by rw [List.length_take, backs_len]; omega)
      simp only [Fin.getElem_fin, hP] at hy hR
      unfold pmV at hy
      rw [← hsn] at hR
      have HR := hid hR
      have hjm : j ≤ 1000000 := by omega
      have hjm2 : (j : Int) < (Ps.length : Int) := by omega
      have HJN := hid hjn
      clear hR f0 f1 f2 f3 f4 rd hbx hsn hje hP hPs hj HY
      gi_wp2
      refine HR.out.mono ?_
      rintro e W3 (⟨rfl, hJ3, hk3⟩ | ⟨rfl, hJx3⟩)
      · clear hcs c0 c1 c2 c3 c4
        have HJ3 := hid hJ3
        have HK3 := hid hk3
        clear hJ3 hk3 HR
        gi_wp2
        go_roundw
        case rel => exact ⟨k + 1, by omega, by have := HJN.out; congr 1; omega, HJ3, HK.out.1.trans HK3.out.1, HK3.out.2.trans HK.out.2⟩
        case measure => simp [intOf]
      · gi_wp2
        refine bodyPost_ret (results_none rfl _ _ _) rfl ?_
        exact ⟨⟨_, rfl⟩, .inr ⟨_, List.take_prefix _ _, hJx3⟩⟩
    · obtain rfl : k = Ps.length := by omega
      have e : (Ps.length : Int) - 1 - (Ps.length : Int) = -1 := by omega
      rw [e]
      have HJ2 : Hid (J (backs Ps.length) wr) := by
        have := HJ.out
        rw [List.take_of_length_le (by rw [backs_len]; exact Nat.le_refl _)] at this
        exact this
      clear HJ e HY
      gi_wp2
      go_end0
      exact ⟨⟨_, rfl⟩, .inl ⟨_, rfl, HJ2.out⟩⟩
theorem back262_nil_in (n : Nat) (l Bs cap : Nat) (a : Option Addr) (J : List (Fin 0) → World → Prop) (W : World) (hBs : W.cell? ⟨Bs, 0, none⟩ = some (.slice a 0 cap)) (h0 : J [] W) :
    CallsIn Fence.wide n Tryz.prog 262 #[.func (.yield l) #[] #[], .pointer (some ⟨Bs, 0, none⟩)] W fun e W' => (∃ v, e = .returned v) ∧ J [] W' := by
  refine callsIn_of_wp Tryz.func262 rfl trivial ?_ rfl
  simp only [Tryz.ntmps262, List.size_toArray, List.length_cons, List.length_nil, Nat.reduceAdd, Nat.reduceSub, Array.replicate_succ, Array.replicate_zero, List.push_toArray, List.append_toArray, List.nil_append, List.cons_append]
  gi_wp2
  gi_loopw [3] (fun i wr => i = .int .i64 (-1) ∧ J [] wr) (fun _ _ => 0)
  case atStart => exact ⟨rfl, h0⟩
  case round =>
    obtain ⟨rfl, hJs⟩ := hrel
    gi_wp2
    go_end0
    exact ⟨⟨_, rfl⟩, hJs⟩
theorem back262_stops (n : Nat) (hn : 1 ≤ n) (Bs n₀ : Nat) (sv : Value) (Ps : List PM) (hreach : Ps.length ≤ 1000000) (w : World) (hBs : Boxed w Bs 84 sv) (_hn₀ : n₀ ≤ w.heap.size) (hI : PV w sv Ps) (hlo : ∀ b o c m, sv = .slice (some ⟨b, o, none⟩) m c → Ps ≠ [] → b < n₀) :
    SeqStopsK Fence.wide n Tryz.prog 262 #[.pointer (some ⟨Bs, 0, none⟩)] (fun x : Fin Ps.length => #[Value.int .i64 x.1, pmV Ps[x]]) (KpB n₀ Bs) (fun ys => ys = backs Ps.length) (fun pre => pre <+: backs Ps.length) Ps.length w := fun l J Jx W hW _ _ hY h0 => by
  have hbx : Boxed W Bs 84 sv := (hW.block _ hBs.lt).trans hBs
  have hI' := hI.below hW (Nat.le_refl _)
  have hI2 := hI'
  obtain ⟨ao, cap, rfl, hcc⟩ := hI'
  cases ao with
  | none =>
    have hL : Ps = [] := by
      cases Ps with
      | nil => rfl
      | cons P L =>
        obtain ⟨_, _, e, _⟩ := hcc 0 P rfl
        cases e
    subst hL
    exact (back262_nil_in n l Bs cap none J W hbx.cell h0).mono fun e W' ⟨he, hj⟩ => ⟨he, .inl ⟨_, rfl, hj⟩⟩
  | some ad =>
    by_cases hL : Ps = []
    · subst hL
      exact (back262_nil_in n l Bs cap _ J W hbx.cell h0).mono fun e W' ⟨he, hj⟩ => ⟨he, .inl ⟨_, rfl, hj⟩⟩
    · obtain ⟨P, hP⟩ : ∃ P, Ps[0]? = some P := ⟨_, List.getElem?_eq_getElem (List.length_pos_iff.2 hL)⟩
      obtain ⟨b, o, e, _⟩ := hcc 0 P hP
      cases e
      exact back262_in n hn l Bs n₀ b o cap Ps hreach (hlo b o cap _ rfl hL) J Jx hY W hbx (fun j u hj => pm_cellsOf hI2 j u hj) h0
theorem anyf234_any (S : List PM) (p : PM → Bool) (g : FuncId) (lb : Array Value) (eg : ∀ args w, (callFunc g args).run Tryz.prog w = .ok (.enter g args) w) (v0 : Value) (w : World) (hv : PV w v0 S) (hlen : S.length ≤ 1000000)
    (hp : ∀ s ∈ S, ∀ u, Below w.heap.size w u → Calls Tryz.prog g (#[pmV s] ++ lb) u fun e w' => e = .returned (.bool (p s)) ∧ Below u.heap.size u w') :
    Calls Tryz.prog 234 #[v0, .func (.func g) #[] lb] w fun e w' => e = .returned (.bool (S.any p)) ∧ Below w.heap.size w w' := by
  have HC := hid (idxf187_any S p g lb eg v0 w hv hlen hp)
  have HD := hid (idx_any S p)
  obtain ⟨n, hn⟩ : ∃ n, idxInt (S.findIdx? p) = n := ⟨_, rfl⟩
  rw [hn] at HC HD
  clear hp eg hv hn
  go_enter Tryz.func234, Tryz.ntmps234
  go_wp2_with fail
  refine HC.out.mono ?_
  rintro e w' ⟨rfl, hb⟩
  clear HC
  go_wp2
  go_ret
  exact ⟨by rw [← HD.out]; rfl, hb⟩
theorem needs233_any (P Q : PM) (Bx : Nat) (w : World) (hP : CV w P.cv P.Cs) (hPs : ∀ d ∈ P.Cs, ChSmall d.2) (hQ : CV w Q.cv Q.Cs) (hQs : ∀ d ∈ Q.Cs, ChSmall d.2) (hlP : P.Cs.length ≤ 1000) (hl : Q.Cs.length ≤ 1000) (hx : w.heap[Bx]? = some (.cells #[.int .u8 Q.id.a, .int .u8 Q.id.b, .int .u8 Q.id.c, .int .u8 Q.id.d, Q.cv] 149 (0, 0))) :
    Calls Tryz.prog 233 #[pmV P, .pointer (some ⟨Bx, 0, none⟩)] w fun e w' => e = .returned (.bool (needsP P Q)) ∧ Below w.heap.size w w' := by
  have hxl := (Array.getElem?_eq_some_iff.1 hx).1
  obtain ⟨pa, pn, pc, hpv⟩ := hP.cvS
  obtain ⟨qa, qn, qc, hqv⟩ := hQ.cvS
  obtain ⟨w1, hw1⟩ : ∃ w1, w1 = w.alloc (.cells #[.int .u8 P.id.a, .int .u8 P.id.b, .int .u8 P.id.c, .int .u8 P.id.d, .slice pa pn pc] 149) := ⟨_, rfl⟩
  have hb1 : Below w.heap.size w w1 := by rw [hw1]; exact (Below.refl _ _).alloc (Nat.le_refl _) _
  have hk1 : w1.heap[w.heap.size]? = some (.cells #[.int .u8 P.id.a, .int .u8 P.id.b, .int .u8 P.id.c, .int .u8 P.id.d, .slice pa pn pc] 149 (0, 0)) := by rw [hw1]; exact (MapKept.heap_alloc w _).1
  obtain ⟨p0, p1, p2, p3, p4⟩ := cells5_of hk1
  obtain ⟨q0, q1, q2, q3, q4⟩ := cells5_of ((hb1.block Bx hxl).trans hx)
  have HN := hid (needs121_any P Q w1 (hP.below hb1 (Nat.le_refl _)) hPs (hQ.below hb1 (Nat.le_refl _)) hQs hlP hl)
  unfold pmV at HN
  rw [hpv, hqv] at HN
  rw [hqv] at q4
  unfold pmV
  rw [hpv]
  obtain ⟨bb, hbb⟩ : ∃ bb, needsP P Q = bb := ⟨_, rfl⟩
  rw [hbb] at HN ⊢
  clear hk1 hx hpv hqv hbb hP hQ hPs hQs
  go_enter Tryz.func233, Tryz.ntmps233
  go_upto_region 1 with fail
  rw [← hw1]
  clear hw1
  go_wp2_with fail
  refine HN.out.mono ?_
  rintro e w2 ⟨rfl, hb2⟩
  clear HN
  go_wp2
  go_ret
  exact ⟨rfl, hb1.trans (hb2.mono hb1.size)⟩
theorem back232_in (n : Nat) (a : Option Addr) (len cap : Nat) (w : World) :
    CallsIn Fence.wide n Tryz.prog 232 #[.slice a len cap] w fun e w' => e = .returned (.func (.func 262) #[] #[.pointer (some ⟨w.heap.size, 0, none⟩)]) ∧ w' = w.alloc (.cells #[.slice a len cap] 84) := by
  refine callsIn_of_wp Tryz.func232 rfl trivial ?_ rfl
  simp only [Tryz.ntmps232, List.size_toArray, List.length_cons, List.length_nil, Nat.reduceAdd, Nat.reduceSub, Array.replicate_succ, Array.replicate_zero, List.push_toArray, List.append_toArray, List.nil_append, List.cons_append]
  gi_wp2
  go_ret
  exact ⟨rfl, rfl⟩
end Go.Proofs.YtgdfipmdmgkidaaGreatDoor

/- LastWithNeeds: the walk. -/
namespace Go.Proofs.YtgdfipmdmgkidaaGreatDoor
open Go.RowKit Go.Shelf
attribute [local go_sem] Oper.semAt_some
theorem keeps_below {W W' : World} (h : Below W.heap.size W W') : KeepsOthers W W' := ⟨h.size, fun k _o hk _ => (h.block k (Array.getElem?_eq_some_iff.1 hk).1).trans hk⟩
theorem kpB_t {n₀ Bs : Nat} {A B C : World} (h : KpB n₀ Bs A B) (k : KpB n₀ Bs B C) : KpB n₀ Bs A C := ⟨h.1.trans k.1, k.2.trans h.2⟩
theorem kpB_b {n₀ Bs : Nat} {w : World} (hn : n₀ ≤ w.heap.size) (hs : Bs < w.heap.size) (W : World) (l : Nat) (o o' : Obj) (hl : w.heap.size ≤ l) (h : W.heap[l]? = some o) (h1 : o.isCells = false) (h2 : o.isWalk = false) : KpB n₀ Bs W (W.putObj l o') :=
  ⟨belowK_b hn W l o o' hl h h1 h2, World.putObj_heap_other (by omega)⟩
def BoxP (W : World) (Bx : Nat) (P : PM) : Prop := W.heap[Bx]? = some (.cells #[.int .u8 P.id.a, .int .u8 P.id.b, .int .u8 P.id.c, .int .u8 P.id.d, P.cv] 149 (0, 0))
theorem BoxP.own {A B : World} {Bx : Nat} {P : PM} {row : Option Nat} (h : BoxP A Bx P) (hg : A.grownBy B row) (hr : ∀ r, row = some r → ∃ o : Obj, A.heap[r]? = some o ∧ o.isCells = false) : BoxP B Bx P := by
  refine (hg.block Bx (Array.getElem?_eq_some_iff.1 h).1 (fun e => ?_)).trans h
  obtain ⟨o, ho, hc⟩ := hr Bx e.symm
  rw [show A.heap[Bx]? = _ from h] at ho
  cases ho
  cases hc
set_option maxRecDepth 100000 in
set_option maxHeartbeats 6400000 in
theorem last195_any (Ps : List PM) (pv : Value) (w : World) (hp : PV w pv Ps) (hl : Ps.length ≤ 10000) (hsm : ∀ P ∈ Ps, (∀ d ∈ P.Cs, ChSmall d.2) ∧ P.Cs.length ≤ 1000) :
    Calls Tryz.prog 195 #[pv] w fun e w' => ∃ v, e = .returned v ∧ w'.ownsRow w.heap.size 149 5 v (lastWith Ps).length (pmCells (lastWith Ps)) ∧ Below w.heap.size w w' := by
  obtain ⟨i0, hi0, hz0, hz1, hz2⟩ := info_parts Tryz.info149
  refine (callsIn_wide (n := 6)).1 ?_
  have HP := hid hp
  have HSM := hid hsm
  obtain ⟨pa, pc, rfl, hcc⟩ := hp
  have HLO : Hid (∀ b o c m, Value.slice pa Ps.length pc = .slice (some ⟨b, o, none⟩) m c → Ps ≠ [] → b < w.heap.size) := by
    intro b o c m e hne
    cases e
    obtain ⟨b', o', e, ht, _⟩ := hcc 0 _ (List.getElem?_eq_getElem (List.length_pos_iff.2 hne))
    cases e
    exact ht.lt
  clear hcc hsm
  refine callsIn_of_wp_marks Tryz.func195 rfl trivial ?_ rfl
  simp only [Tryz.ntmps195, List.size_toArray, List.length_cons, List.length_nil, Nat.reduceAdd, Nat.reduceSub, Array.replicate_succ, Array.replicate_zero, List.push_toArray, List.append_toArray, List.nil_append, List.cons_append]
  have hf : Fence.wide.fn 232 := trivial
  gi_wp2_with (gi_at_call 232; refine (back232_in 5 _ _ _ _).mono ?_; rintro e w' ⟨rfl, rfl⟩)
  obtain ⟨s, hs⟩ : ∃ s, w.heap.size = s := ⟨_, rfl⟩
  obtain ⟨W0, hW0⟩ : ∃ W0, W0 = ((w.alloc (.cells #[.slice pa Ps.length pc] 84)).alloc (.cells #[.slice none 0 0] 84)).alloc (.cells #[.slice pa Ps.length pc] 84) := ⟨_, rfl⟩
  have hB0 : Below s w W0 := by rw [hW0, ← hs]; exact (((Below.refl _ w).alloc (Nat.le_refl _) _).alloc (by simp) _).alloc (by simp; omega) _
  have k1 : Boxed W0 s 84 (.slice pa Ps.length pc) := by rw [hW0, ← hs]; exact ((Boxed.new w 84 _).alloc _).alloc _
  have kV : Boxed W0 (s + 1) 84 (.slice none 0 0) := by rw [hW0, ← hs]; have := (Boxed.new (w.alloc (.cells #[.slice pa Ps.length pc] 84)) 84 (.slice none 0 0)).alloc (.cells #[.slice pa Ps.length pc] 84); rw [World.size_alloc] at this; exact this
  have k2 : Boxed W0 (s + 2) 84 (.slice pa Ps.length pc) := by rw [hW0, ← hs]; have := Boxed.new ((w.alloc (.cells #[.slice pa Ps.length pc] 84)).alloc (.cells #[.slice none 0 0] 84)) 84 (.slice pa Ps.length pc); rw [World.size_alloc, World.size_alloc] at this; exact this
  have hsz0 : W0.heap.size = s + 3 := by rw [hW0, ← hs]; simp
  have HLO2 : Hid (∀ b o c m, Value.slice pa Ps.length pc = .slice (some ⟨b, o, none⟩) m c → Ps ≠ [] → b < s) := by rw [← hs]; exact HLO.out
  have HQV : Hid (∀ x : Fin Ps.length, ∃ a n c, Ps[x].cv = .slice a n c) := fun x => (HP.out.cv (List.getElem_mem _)).cvS
  rw [← hW0, hs]
  clear hW0 HLO
  refine wpIn_rangeFunc_ownH rfl (by omega) (gf := 262) (lb := #[.pointer (some ⟨s + 2, 0, none⟩)]) rfl trivial (enters_of Tryz.func262 (by kernel_rfl) rfl)
    (back262_stops (6 - 1) (by omega) (s + 2) s (.slice pa Ps.length pc) Ps (by omega) W0 k2 (by omega) (HP.out.below hB0 (by omega)) HLO2.out) kpB_t (kpB_b (by omega) (by omega)) (Below.refl _ _) (fun _ => rfl)
    (fun pre W => ((∃ v, Boxed W (s + 1) 84 v ∧ W.ownsRow s 149 5 v (wantOf Ps pre).length (pmCells (wantOf Ps pre)) ∧ True) ∧ Boxed W s 84 (.slice pa Ps.length pc) ∧ Boxed W (s + 2) 84 (.slice pa Ps.length pc)) ∧ Below s w W)
    (fun _ _ _ => False)
    (OwnFrom.and (OwnFrom.and (Own.from (holdsRow_own s (s + 1) 84 149 5 (fun pre => (wantOf Ps pre).length) (fun pre => pmCells (wantOf Ps pre)) (fun _ _ => True)) _) (OwnFrom.and (Own.from (boxed_own _ _ _) _) (Own.from (boxed_own _ _ _) _))) (ownFrom_below (by omega) (by omega)))
    (fun _ _ _ _ _ hs _ _ => hs)
    ⟨⟨⟨_, kV, World.ownsRow_nil _ _ _ _, trivial⟩, k1, k2⟩, hB0⟩
    (fun x a' W => ∃ Bx, s + 2 < Bx ∧ BoxP W Bx Ps[x] ∧ a' = { tmps := #[.slice pa Ps.length pc, .pointer (some ⟨s, 0, none⟩), .slice none 0 0, .pointer (some ⟨s + 1, 0, none⟩), .int .i64 x.1, .pointer (some ⟨Bx, 0, none⟩), undef, .slice pa Ps.length pc, .func (.func 262) #[] #[.pointer (some ⟨s + 2, 0, none⟩)], .int .i64 x.1, pmV Ps[x], undef, undef, undef, undef, undef, undef, undef, undef, undef, undef, undef, undef, undef, undef, undef, undef, undef, undef], defers := [] })
    (fun x a' _ X Y row hs hg hr => by obtain ⟨Bx, h1, h2, h3⟩ := hs; exact ⟨Bx, h1, h2.own hg (fun r e => (hr r e).2), h3⟩)
    ?assign ?body ?done ?stop
  case assign =>
    rintro l pre x W K ⟨⟨⟨v, bV, hrow, _⟩, b1, b2⟩, hB⟩ hK
    obtain ⟨qa, qn, qc, hqv⟩ := HQV.out x
    have hsz : s ≤ W.heap.size := by have := hB.size; omega
    have HKK := hid hK
    clear hK
    unfold pmV at HKK ⊢
    unfold BoxP at HKK
    rw [hqv] at HKK ⊢
    gi_wp2
    exact HKK.out _ _ ((KeepsOthers.alloc _ _).from _) ⟨(Below.refl _ W).alloc hsz _, Below.heap_alloc W _ _ b2.lt⟩ ⟨⟨⟨v, bV.alloc _, hrow.alloc _, trivial⟩, b1.alloc _, b2.alloc _⟩, hB.alloc hsz _⟩ ⟨W.heap.size, b2.lt, World.alloc_heap_new W _, rfl⟩
  case body =>
    rintro l pre x a' W hl ⟨r, hr⟩ ⟨⟨⟨v, bV, hrow, _⟩, b1, b2⟩, hB⟩ ⟨Bx, hBx, bX, rfl⟩ hlt
    obtain ⟨qa, qn, qc, hqv⟩ := HQV.out x
    obtain ⟨P, hP⟩ : ∃ P, Ps[x] = P := ⟨_, rfl⟩
    have hPm : P ∈ Ps := by rw [← hP]; exact List.getElem_mem _
    have HSN := hid (wantOf_snoc Ps pre x)
    unfold wantStep at HSN
    rw [hP] at HSN hqv bX ⊢
    unfold BoxP at bX
    unfold pmV
    have HBX := hid bX
    rw [hqv] at bX ⊢
    obtain ⟨p0, p1, p2, p3, p4⟩ := cells5_of bX
    have hsz : s ≤ W.heap.size := by have := hB.size; omega
    have hx2 := x.2
    have hwl := (wantOf_mem Ps pre).2
    have c1 := b1.cell
    have cV := bV.cell
    have fV := bV.frozen
    have w1 : IntKind.i64.wrap ((Ps.length : Int) - 1) = (Ps.length : Int) - 1 := by simp [IntKind.wrap, IntKind.signed, IntKind.bits]; omega
    obtain ⟨va, vc, rfl⟩ := own_shape hrow
    have epm : pmCells (wantOf Ps pre ++ [P]) = pmCells (wantOf Ps pre) ++ [.int .u8 P.id.a, .int .u8 P.id.b, .int .u8 P.id.c, .int .u8 P.id.d, .slice qa qn qc] := by simp [pmCells, hqv]
    by_cases hx : x.1 + 1 = Ps.length
    · have q1 : ((x.1 : Nat) : Int) = (Ps.length : Int) - 1 := by omega
      have q2 : (((x.1 : Nat) : Int) == (Ps.length : Int) - 1) = true := by rw [beq_iff_eq]; exact q1
      have HSN2 : Hid (wantOf Ps (pre ++ [x]) = wantOf Ps pre ++ [P]) := by
        have := HSN.out
        rw [if_pos (by simp [hx])] at this
        exact this
      clear HSN HBX
      gi_wp2
      refine ⟨trivial, ?_⟩
      gi_wp2_with (gi_at_builtin; refine wpListIn_append_own _ rfl _ _ 84 rfl s 149 i0 _ 5 32 Tryz.underlying84 hi0 hz0 hz1 hz2 rfl (by decide) _ _ _ rfl (hrow.alloc _) ⟨W.heap.size, 0, none⟩ 1 1 [.int .u8 P.id.a, .int .u8 P.id.b, .int .u8 P.id.c, .int .u8 P.id.d, .slice qa qn qc] rfl rfl (World.news_of_block (cs := #[.int .u8 P.id.a, .int .u8 P.id.b, .int .u8 P.id.c, .int .u8 P.id.d, .slice qa qn qc]) (t := 149) (fr := (0, 0)) (heap_alloc_new W _)) (by simp [Value.oneCell']) (by unfold maxLen; omega) (by omega) (by simp; omega) ?_; intro v' w3 hown' hg3 hnil3; obtain ⟨g', cap', rfl⟩ := ownsRow_succ hown'; have R := Boxed.appended bV (by decide) hrow hsz (by omega) hown' hg3; have hc3 := R.1.cell; have hf3 := R.1.frozen)
      have hk1 := ((b1.alloc _).kept hg3 (b1.not_row (by decide) hrow)).other (show s ≠ s + 1 by omega) (.slice (some ⟨g', 0, none⟩) ((wantOf Ps pre).length + 1) cap')
      have hk2 := ((b2.alloc _).kept hg3 (b2.not_row (by decide) hrow)).other (show s + 2 ≠ s + 1 by omega) (.slice (some ⟨g', 0, none⟩) ((wantOf Ps pre).length + 1) cap')
      refine ⟨R.2.2.2.1.from _, ⟨R.2.2.2.2, hk2.trans b2.symm⟩, ⟨⟨_, R.2.1, ?_, trivial⟩, hk1, hk2⟩, hB.trans R.2.2.2.2⟩
      rw [HSN2.out, List.length_append, List.length_singleton, epm]
      exact R.2.2.1
    · have q1 : ¬ ((x.1 : Nat) : Int) = (Ps.length : Int) - 1 := by omega
      have q2 : (((x.1 : Nat) : Int) == (Ps.length : Int) - 1) = false := by rw [beq_eq_false_iff_ne]; exact q1
      have hcvW : ∀ R ∈ Ps, CV W R.cv R.Cs := fun R hR => (HP.out.cv hR).below hB (by omega)
      have HAN := hid (anyf234_any (wantOf Ps pre) (fun q => needsP q P) 233 #[.pointer (some ⟨Bx, 0, none⟩)] (fun _ _ => by kernel_rfl) _ W (pm_view hrow (fun R hR => hcvW R ((wantOf_mem Ps pre).1 R hR))) (by omega) (fun R hR u hu => needs233_any R P Bx u ((hcvW R ((wantOf_mem Ps pre).1 R hR)).below hu (Nat.le_refl _)) (HSM.out R ((wantOf_mem Ps pre).1 R hR)).1 ((hcvW P hPm).below hu (Nat.le_refl _)) (HSM.out P hPm).1 (HSM.out R ((wantOf_mem Ps pre).1 R hR)).2 (HSM.out P hPm).2 ((hu.block Bx (Array.getElem?_eq_some_iff.1 HBX.out).1).trans HBX.out)))
      cases hq : (wantOf Ps pre).any (fun q => needsP q P) with
      | true =>
        rw [hq] at HAN
        have HSN2 : Hid (wantOf Ps (pre ++ [x]) = wantOf Ps pre ++ [P]) := by
          have := HSN.out
          rw [if_pos (by simp [hq])] at this
          exact this
        clear HSN HBX hcvW hq
        gi_wp2_with (first | (refine ⟨trivial, ?_⟩; gi_at_call 234; refine (CallsIn.inRound l (callsIn_wide.2 HAN.out)).mono ?_; clear HAN; rintro e W1 ⟨rfl, hbW⟩; have bV1 : Boxed W1 (s + 1) 84 _ := (hbW.block _ bV.lt).trans bV; have b11 : Boxed W1 s 84 _ := (hbW.block _ b1.lt).trans b1; have b21 : Boxed W1 (s + 2) 84 _ := (hbW.block _ b2.lt).trans b2; have hrow1 := own_below hrow hbW (Nat.le_refl _); have hsz1 : s ≤ W1.heap.size := Nat.le_trans hsz hbW.size; clear p0 p1 p2 p3 p4 cV fV c1; obtain ⟨p0, p1, p2, p3, p4⟩ := cells5_of ((hbW.block _ (Array.getElem?_eq_some_iff.1 bX).1).trans bX); have cV := bV1.cell; have fV := bV1.frozen) | (gi_at_builtin; refine wpListIn_append_own _ rfl _ _ 84 rfl s 149 i0 _ 5 32 Tryz.underlying84 hi0 hz0 hz1 hz2 rfl (by decide) _ _ _ rfl (hrow1.alloc _) ⟨W1.heap.size, 0, none⟩ 1 1 [.int .u8 P.id.a, .int .u8 P.id.b, .int .u8 P.id.c, .int .u8 P.id.d, .slice qa qn qc] rfl rfl (World.news_of_block (cs := #[.int .u8 P.id.a, .int .u8 P.id.b, .int .u8 P.id.c, .int .u8 P.id.d, .slice qa qn qc]) (t := 149) (fr := (0, 0)) (heap_alloc_new W1 _)) (by simp [Value.oneCell']) (by unfold maxLen; omega) (by omega) (by simp; omega) ?_; intro v' w3 hown' hg3 hnil3; obtain ⟨g', cap', rfl⟩ := ownsRow_succ hown'; have R := Boxed.appended bV1 (by decide) hrow1 hsz1 (by omega) hown' hg3; have hc3 := R.1.cell; have hf3 := R.1.frozen))
        have hk1 := ((b11.alloc _).kept hg3 (b11.not_row (by decide) hrow1)).other (show s ≠ s + 1 by omega) (.slice (some ⟨g', 0, none⟩) ((wantOf Ps pre).length + 1) cap')
        have hk2 := ((b21.alloc _).kept hg3 (b21.not_row (by decide) hrow1)).other (show s + 2 ≠ s + 1 by omega) (.slice (some ⟨g', 0, none⟩) ((wantOf Ps pre).length + 1) cap')
        have hbs := (hbW.mono hsz).trans R.2.2.2.2
        refine ⟨((keeps_below hbW).trans R.2.2.2.1).from _, ⟨hbs, hk2.trans b2.symm⟩, ⟨⟨_, R.2.1, ?_, trivial⟩, hk1, hk2⟩, hB.trans hbs⟩
        rw [HSN2.out, List.length_append, List.length_singleton, epm]
        exact R.2.2.1
      | false =>
        rw [hq] at HAN
        have HSN2 : Hid (wantOf Ps (pre ++ [x]) = wantOf Ps pre) := by
          have := HSN.out
          rw [if_neg (by simp [hq, hx])] at this
          exact this
        clear HSN HBX hcvW hq
        gi_wp2_with (refine ⟨trivial, ?_⟩; gi_at_call 234; refine (CallsIn.inRound l (callsIn_wide.2 HAN.out)).mono ?_; clear HAN; rintro e W1 ⟨rfl, hbW⟩)
        refine ⟨(keeps_below hbW).from _, ⟨hbW.mono hsz, hbW.block _ b2.lt⟩, ⟨⟨_, (hbW.block _ bV.lt).trans bV, ?_, trivial⟩, (hbW.block _ b1.lt).trans b1, (hbW.block _ b2.lt).trans b2⟩, hB.trans (hbW.mono hsz)⟩
        rw [HSN2.out]
        exact own_below hrow hbW (Nat.le_refl _)
  case done =>
    rintro D ys W hD rfl ⟨⟨⟨v, bV, hrow, _⟩, b1, b2⟩, hB⟩ hK
    have hcvS : ∀ R ∈ wantOf Ps (backs Ps.length), ∃ a n c, R.cv = .slice a n c := fun R hR => (HP.out.cv ((wantOf_mem Ps _).1 R hR)).cvS
    have hwl := (wantOf_mem Ps (backs Ps.length)).2
    rw [backs_len] at hwl
    have HRV := hid (rev130_any (wantOf Ps (backs Ps.length)) s v W hrow hcvS (by omega))
    have hf1 : Fence.wide.fn 130 := trivial
    have cV := bV.cell
    obtain ⟨va, vc, rfl⟩ := own_shape hrow
    gi_wp2_with (gi_at_call 130; refine (callsIn_wide.2 HRV.out).mono ?_; clear HRV; rintro e W1 ⟨rfl, hrow1, hg1⟩; have bV1 := bV.kept hg1 (bV.not_row (by decide) hrow); have hB1 : Below s w W1 := hB.grown hg1 (by have := hB.size; omega) (fun k hk => (hrow.lt k hk).1); have hK1 : W1.heap[D]? = some (.deferred (some [])) := (hg1.block D (Array.getElem?_eq_some_iff.1 hK).1 (fun e => by obtain ⟨cs, fz, hq⟩ := own_TB hrow e.symm; rw [hK] at hq; cases hq)).trans hK; clear cV; have cV := bV1.cell)
    refine ⟨by simp, .inl ⟨_, _, rfl, run_takeDeferred hK1, ?_⟩⟩
    refine ⟨_, results_tmp rfl _ _ _, _, rfl, ?_, ?_⟩
    · have := ownsRow_putObj hrow1 (.deferred none) hK1 rfl
      rw [hs]
      unfold lastWith
      rw [List.length_reverse]
      exact this
    · rw [hs]
      exact hB1.trans (belowK_b (w := W0) (by omega) W1 D _ _ hD hK1 rfl rfl)
  case stop =>
    rintro D c pre W _ _ h _
    exact h.elim
end Go.Proofs.YtgdfipmdmgkidaaGreatDoor
