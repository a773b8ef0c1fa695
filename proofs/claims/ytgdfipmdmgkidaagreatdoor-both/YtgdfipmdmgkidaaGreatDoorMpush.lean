/- take: the coming patches are laid behind those that are here. -/
import Derived.Test.YtgdfipmdmgkidaaGreatDoorMfith
import Derived.Test.YtgdfipmdmgkidaaGreatDoorUwr
import Derived.Test.YtgdfipmdmgkidaaGreatDoorUfk
import Derived.Deep.AppendLies
import Derived.Maps.AppendAt
import Derived.RangeFuncNested
import Derived.RangeFuncCalls
import Derived.RangeFuncBox
import Derived.RangeFuncLeaves
import Derived.Shelf.Abstract
import Derived.WalkKit
import Derived.OwnWalkIn
import Derived.TacticsInMore
import Derived.LoopNIn
import Derived.LoopIn
import Derived.Test.YtgdfipmdmgkidaaGreatDoorQhw
import Derived.Test.YtgdfipmdmgkidaaGreatDoorProw
import Derived.Lib.ConvBytes
import Derived.Lib.AtoiErrMem
import Derived.Test.YtgdfipmdmgkidaaGreatDoorPwords
namespace Go.Proofs.YtgdfipmdmgkidaaGreatDoor
open Go.RowKit
theorem run_append_row {P : Program} {w : World} (base base2 : Nat) (t ty e : TypeId) (i : TypeInfo) (z : Value) (size bytes : Nat) (ht : P.underlying t = some (.slice e)) (hi : P.info? e = some i) (hz : i.zero = some z)
    (hsize : i.size = size) (hby : i.bytes = bytes) (hzs : z.cells.size = size) (hsz : 0 < size) (v : Value) (n : Nat) (xs : List Value) (hown : w.ownsRow base e size v n xs)
    (x : Value) (m : Nat) (news : List Value) (hx : w.ownsRow base2 e size x m news) (h1 : ∀ u ∈ news, u.oneCell' = true) (h63 : n + m ≤ maxLen) (hbytes : (n + m) * bytes ≤ 140737488355328) (hbase : base ≤ w.heap.size) :
    ∃ v' w', (Builtin.append_ #[t, t] ty #[v, x]).run P w = .ok v' w' ∧ w'.ownsRow base e size v' (n + m) (xs ++ news) ∧ w.grownBy w' v.ownBlock ∧ ∀ g, v'.ownBlock = some g → v.ownBlock = some g ∨ w.heap.size ≤ g := by
  rcases hx.2 with ⟨rfl, rfl⟩ | ⟨g, cap, cur, rfl, _⟩
  · have hn : news = [] := List.eq_nil_of_length_eq_zero (by simpa using hx.1)
    subst hn
    exact ⟨v, w, run_append_owned_none (P := P) (w := w) base t ty e i size ht hi v n xs hown, by simpa using hown, World.grownBy.refl _ _, fun g hg => .inl hg⟩
  · obtain ⟨v', w', hr, h2, h3, _, h5⟩ := run_append_own_at (P := P) w base t ty e i z size bytes ht hi hz hsize hby hzs hsz v n xs hown ⟨g, 0, none⟩ m cap news hx.1 (hx.cells rfl) h1 h63 hbytes hbase
    refine ⟨v', w', hr, h2, h3, fun k hk => ?_⟩
    rcases h5 with h5 | h5
    · exact .inl (h5 ▸ hk)
    · rw [h5] at hk
      cases hk
      exact .inr (Nat.le_refl _)
theorem wpList_append_rows {P : Program} {w : World} {ops : Array Oper} {rest : List Oper} {o : Oper} {a : Act} {Q : Exit → Act → World → Prop} (hgd : o.guard = none) (s x : Operand) (t : TypeId)
    (ho : o.op = .call { callee := .builtin .append, args := #[s, x], argTypes := #[t, t] })
    (base base2 : Nat) (e : TypeId) (i : TypeInfo) (z : Value) (size bytes : Nat) (ht : P.underlying t = some (.slice e)) (hi : P.info? e = some i) (hz : i.zero = some z)
    (hsize : i.size = size) (hby : i.bytes = bytes) (hzs : z.cells.size = size) (hsz : 0 < size) (v : Value) (n : Nat) (xs : List Value) (hs : a.eval s = v) (hown : w.ownsRow base e size v n xs)
    (xv : Value) (m : Nat) (news : List Value) (hxe : a.eval x = xv) (hx : w.ownsRow base2 e size xv m news) (h1 : ∀ u ∈ news, u.oneCell' = true) (h63 : n + m ≤ maxLen) (hbytes : (n + m) * bytes ≤ 140737488355328) (hbase : base ≤ w.heap.size)
    (h : ∀ v' w', w'.ownsRow base e size v' (n + m) (xs ++ news) → w.grownBy w' v.ownBlock → (∀ g, v'.ownBlock = some g → v.ownBlock = some g ∨ w.heap.size ≤ g) → wpList P ops Q rest (a.put o.dst v') w') : wpList P ops Q (o :: rest) a w := by
  refine wpList_plain hgd fun K hK => ?_
  obtain ⟨v', w', hrun, h2, h3, h4⟩ := run_append_row (P := P) (w := w) base base2 t o.type e i z size bytes ht hi hz hsize hby hzs hsz v n xs hown xv m news hx h1 h63 hbytes hbase
  unfold Oper.wp
  simp [execOp, ho, resolve, invoke, builtin, hs, hxe, hrun, Result.andThen]
  exact hK _ _ (h v' w' h2 h3 h4)
section
variable {w : World} {B pb rg : Nat} {cap : Cfg} {gb : Nat} {pv : Value} {Ps : List PM} {fb fn : Nat} {f : ByteArray → Option ByteArray} {G : List Pid}
theorem OneAt.pushL (h : OneAt w B pb rg cap gb pv Ps fb fn f G) {w1 w2 : World} {Cm : List PM} {pv2 : Value} (hb1 : Below w.heap.size w w1) (hg : w1.grownBy w2 pv.ownBlock) (hat : ∀ g, pv2.ownBlock = some g → pv.ownBlock = some g ∨ w1.heap.size ≤ g) (hown : w2.ownsRow B 149 5 pv2 (Ps ++ Cm).length (pmCells (Ps ++ Cm))) (hP : ∀ P ∈ Cm, CV w1 P.cv P.Cs) :
    OneAt (w2.setCell ⟨rg, cap.r * 2, none⟩ pv2) B pb rg cap gb pv2 (Ps ++ Cm) fb fn f G ∧ (∀ T : TypeId → Prop, ¬ T 149 → ¬ T 87 → HeldT T w1 (w2.setCell ⟨rg, cap.r * 2, none⟩ pv2)) ∧ ∀ k, k < w1.heap.size → k ≠ rg → (∀ q, pv.ownBlock = some q → k ≠ q) → (w2.setCell ⟨rg, cap.r * 2, none⟩ pv2).heap[k]? = w1.heap[k]? := by
  have h1 := h.below hb1
  obtain ⟨l1, l2, l3, l4⟩ := h1.lts
  obtain ⟨A, hA, hA0, hA1, hAo⟩ := h1.row
  have tb : ∀ q, pv.ownBlock = some q → TB w1 q 149 := fun q hq => own_TB h1.own hq
  have ne : ∀ {k : Nat} {o : Obj}, w1.heap[k]? = some o → (∀ cs fz, o ≠ .cells cs 149 fz) → ∀ q, pv.ownBlock = some q → k ≠ q := fun hk ho q hq e => by
    subst e
    obtain ⟨cs, fz, hq2⟩ := tb _ hq
    rw [hk] at hq2
    injection hq2 with e
    exact ho cs fz e
  have far : ∀ k, k < w1.heap.size → (∀ q, pv.ownBlock = some q → k ≠ q) → w2.heap[k]? = w1.heap[k]? := fun k hk hq => hg.block k hk (fun e => hq k e.symm rfl)
  have far2 : ∀ k, k < w1.heap.size → k ≠ rg → (∀ q, pv.ownBlock = some q → k ≠ q) → (w2.setCell ⟨rg, cap.r * 2, none⟩ pv2).heap[k]? = w1.heap[k]? := fun k hk hr hq => (Below.heap_setCell _ _ _ _ hr).trans (far k hk hq)
  have hA2 : w2.heap[rg]? = some (.cells A 87 (0, 0)) := (far rg l2 (ne hA (fun cs fz e => by simp at e))).trans hA
  have heldT : ∀ T : TypeId → Prop, ¬ T 149 → ¬ T 87 → HeldT T w1 (w2.setCell ⟨rg, cap.r * 2, none⟩ pv2) := fun T t1 t2 => (HeldT.of_grown hg (fun q hq => ⟨149, tb q hq, t1⟩)).trans (HeldT.set ⟨A, _, hA2⟩ t2 _)
  have held := heldT stuff (by simp [stuff]) (by simp [stuff])
  obtain ⟨es1, c1, m1⟩ := h1.given.map
  obtain ⟨es2, c2, m2⟩ := h1.files.map
  refine ⟨⟨h.lo, (far2 pb l1 (fun e => ?_) (ne h1.wb (fun cs fz e => by simp at e))).trans h1.wb, ⟨_, heap_setCell_same w2 rg (cap.r * 2) A 87 _ hA2, ?_, ?_, fun i hi => ?_⟩, h1.given.same (far2 gb l3 (fun e => ?_) (ne m1 (fun cs fz e => by cases e))), ?_, fun Q hQ => ?_, h1.files.same (far2 fb l4 (fun e => ?_) (ne m2 (fun cs fz e => by cases e))), h.ne, h.cap1, fun i hi => ?_⟩, heldT, far2⟩
  · have := h1.wb
    rw [e, hA] at this
    simp at this
  · have : cap.r * 2 < A.size := (Array.getElem?_eq_some_iff.1 hA0).1
    simp [this]
  · rw [Array.getElem?_setIfInBounds_ne (by omega)]
    exact hA1
  · have hir := hi.2
    rw [Array.getElem?_setIfInBounds_ne (by omega), Array.getElem?_setIfInBounds_ne (by omega)]
    exact hAo i hi
  · rw [e, hA] at m1
    cases m1
  · refine hown.kept (w' := w2.setCell ⟨rg, cap.r * 2, none⟩ _) (row := some rg) ⟨rfl, rfl, rfl, by simp [World.setCell], fun k _ hne => Below.heap_setCell _ _ _ _ (fun e => hne (by rw [e]))⟩ (Or.inr ?_)
    intro e
    obtain ⟨cs, fz, hq⟩ := own_TB hown (g := rg) e
    rw [hA2] at hq
    simp at hq
  · rcases List.mem_append.1 hQ with hQ | hQ
    · exact (h1.chs Q hQ).held held
    · exact (hP Q hQ).held held
  · rw [e, hA] at m2
    cases m2
  · have hR := h1.oths i hi
    obtain ⟨es3, c3, m3⟩ := hR.files.map
    refine hR.same (far2 _ hR.files.lt (fun e => ?_) (ne m3 (fun cs fz e => by cases e))) (fun k hk => far2 k (hR.own.lt k hk).2 (fun e => ?_) (fun q hq e => hR.far k hk (by rw [hq, e]))) (fun Q hQ => (hR.chs Q hQ).held held) (fun k hk e => ?_)
    · rw [e, hA] at m3
      cases m3
    · obtain ⟨cs, fz, hq⟩ := own_TB hR.own hk
      rw [e, hA] at hq
      simp at hq
    · rcases hat k e with q | q
      · exact hR.far k hk q
      · have := (hR.own.lt k hk).2
        omega
end
end Go.Proofs.YtgdfipmdmgkidaaGreatDoor

/- offered: the patches that are asked for; mayLay. -/
set_option maxHeartbeats 1600000
set_option maxRecDepth 100000
namespace Go.Proofs.YtgdfipmdmgkidaaGreatDoor
open Go.RowKit
theorem offered132_all (pv : Value) (rg ro : Nat) (na : Option Addr) (nc : Nat) (w : World) (hp : ∃ a n c, pv = .slice a n c) (hr : w.cell? ⟨rg, ro, none⟩ = some pv) :
    Calls Tryz.prog 132 #[.pointer (some ⟨rg, ro, none⟩), .slice na 0 nc] w fun e w' => e = .returned (.tuple #[pv, .int .i64 0]) ∧ Below w.heap.size w w' := by
  obtain ⟨a, n, c, rfl⟩ := hp
  go_enter Tryz.func132, Tryz.ntmps132
  go_wp2
  go_ret2
  exact ⟨rfl, Below.refl _ _⟩
theorem texts_mono {n n' : Nat} {w : World} {v : Value} {L : List ByteArray} (h : TextsAt n w v L) (hn : n ≤ n') : TextsAt n' w v L := by
  rcases h with h | ⟨b, o, c, h1, h2, h3⟩
  · exact .inl h
  · exact .inr ⟨b, o, c, h1, Nat.lt_of_lt_of_le h2 hn, h3⟩
section
variable {w : World} {B pb rg : Nat} {cap : Cfg} {gb : Nat} {pv : Value} {Ps : List PM} {fb fn : Nat} {f : ByteArray → Option ByteArray} {G : List Pid}
theorem mayLay129_ok (h : OneAt w B pb rg cap gb pv Ps fb fn f G) {st : Nat → Nat → ByteArray → PL} {cnt : Nat → Nat} (hs : Stands Ps st cnt) (hPs : Ps.length ≤ 1000) (na : Option Addr) (nn nc : Nat) (L : List ByteArray) (hN : TextsAt w.heap.size w (.slice na nn nc) L) (hL : L.length ≤ 200000)
    (hx : ∀ x ∈ L, x.size ≤ 1000 ∧ (st Ps.length 0 x).S.length ≤ 1000000 ∧ (rowText (st Ps.length 0 x).S).size ≤ 1000000000) (hd : ∀ x ∈ L, differs f (st Ps.length 0) x = false) :
    Calls Tryz.prog 129 #[.pointer (some ⟨rg, cap.r * 2, none⟩), .slice na nn nc] w fun e w' => e = .returned (.tuple #[.string ⟨#[]⟩, .int .i64 0]) ∧ Below w.heap.size w w' := by
  obtain ⟨s, hse⟩ : ∃ s, st Ps.length 0 = s := ⟨_, rfl⟩
  have HK : Hid (Calls Tryz.prog 77 #[.pointer (some ⟨rg, cap.r * 2, none⟩)] w fun e w' => ∃ mb n, e = .returned (.agg #[.map (some mb)]) ∧ TreeAt w' mb s n ∧ n ≤ 100000 ∧ w.heap.size ≤ mb ∧ Below w.heap.size w w') := by
    have := kept_any hs h.view (by omega) h.r0 h.lts.2.1
    rw [hse] at this
    exact this
  rw [hse] at hx hd
  have HC : Hid (∀ u mb n, Below w.heap.size w u → TreeAt u mb s n → n ≤ 100000 → Calls Tryz.prog 111 #[.pointer (some ⟨rg, cap.r * 2, none⟩), .agg #[.map (some mb)], .slice na nn nc] u fun e w' => ∃ a c, e = .returned (.slice a 0 c) ∧ Below u.heap.size u w') := fun u mb n hu hT hn => by
    have hu1 := h.below hu
    refine (changed88_any f fb fn rg (cap.r * 2) s mb n na nn nc L u hu1.files hu1.r1 hu1.lts.2.1 hT hn (texts_mono (hN.below hu) hu.size) hL hx).mono ?_
    rintro e w' ⟨v, K, rfl, h1, h2, h3, h4⟩
    have e0 : K.filter (differs f s) = [] := by
      rw [List.filter_eq_nil_iff]
      intro x hx'
      simp [hd x ((h3 x).1 hx')]
    rw [e0] at h1
    obtain ⟨ao, cc, rfl, _⟩ := h1
    exact ⟨ao, cc, rfl, h4⟩
  clear h hs hse hN hx hd
  go_enter Tryz.func129, Tryz.ntmps129
  go_wp2_with fail
  refine HK.out.mono ?_
  rintro e w1 ⟨mb, n, rfl, hT, hn, hmb, hb1⟩
  have HC1 := hid (HC.out w1 mb n hb1 hT hn)
  clear HK HC hT hn hmb
  go_wp2_with fail
  refine HC1.out.mono ?_
  rintro e w2 ⟨a, c, rfl, hb2⟩
  clear HC1
  go_wp2
  go_ret2
  exact ⟨rfl, hb1.trans (hb2.mono hb1.size)⟩
end
end Go.Proofs.YtgdfipmdmgkidaaGreatDoor

/- take: the coming patches fit, and nothing of the user's is lost: they are laid behind those that are here. -/
namespace Go.Proofs.YtgdfipmdmgkidaaGreatDoor
open Go.RowKit
def namesL (Cm : List PM) : List ByteArray := Cm.flatMap namesP
theorem namesL_snoc {Cm : List PM} {k : Nat} {P : PM} (h : Cm[k]? = some P) : namesL (Cm.take (k + 1)) = namesL (Cm.take k) ++ namesP P := by
  rw [List.take_add_one, h]
  simp [namesL]
theorem namesL_len {Cm : List PM} (h : ∀ P ∈ Cm, P.Cs.length ≤ 50) : (namesL Cm).length ≤ 50 * Cm.length := by
  induction Cm with
  | nil => simp [namesL]
  | cons P L ih =>
    have k1 := ih (fun Q hQ => h Q (List.mem_cons_of_mem _ hQ))
    have k2 := h P List.mem_cons_self
    have e : namesL (P :: L) = namesP P ++ namesL L := by simp [namesL]
    rw [e, List.length_append, List.length_cons]
    have : (namesP P).length = P.Cs.length := by simp [namesP]
    omega
section
variable {w : World} {B pb rg : Nat} {cap : Cfg} {gb : Nat} {pv : Value} {Ps : List PM} {fb fn : Nat} {f : ByteArray → Option ByteArray} {G : List Pid}
theorem push_store (h : OneAt w B pb rg cap gb pv Ps fb fn f G) {wa : World} (hg : w.grownBy wa pv.ownBlock) : wa.cell? ⟨rg, cap.r * 2, none⟩ = some pv ∧ wa.frozen? ⟨rg, cap.r * 2, none⟩ = false := by
  obtain ⟨A, hA, hA0, _⟩ := h.row
  have h1 : wa.heap[rg]? = some (.cells A 87 (0, 0)) := (hg.block rg h.lts.2.1 (fun e => by
    obtain ⟨cs, fz, hq⟩ := own_TB h.own e.symm
    rw [hA] at hq
    simp at hq)).trans hA
  exact ⟨by simp [World.cell?, h1, hA0], free3 h1 _⟩
set_option maxRecDepth 100000 in
set_option maxHeartbeats 6400000 in
theorem take133_ok (h : OneAt w B pb rg cap gb pv Ps fb fn f G) (hB : B ≤ w.heap.size) (Cm : List PM) (cv : Value) (Bc : Nat) (hc : w.ownsRow Bc 149 5 cv Cm.length (pmCells Cm)) (hcc : ∀ P ∈ Cm, CV w P.cv P.Cs) (hfar : ∀ g, cv.ownBlock = some g → pv.ownBlock ≠ some g)
    {st : Nat → Nat → ByteArray → PL} {cnt : Nat → Nat} (hs : Stands (Ps ++ Cm) st cnt) (hPl : Ps.length ≤ 500) (hCl : Cm.length ≤ 500) (hsm : ∀ P ∈ Cm, P.Cs.length ≤ 50 ∧ (∀ c ∈ P.Cs, ChSmall c.2) ∧ ∀ c ∈ P.Cs, c.1.size ≤ 1000) (hrow : ∀ p x, (st p 0 x).S.length ≤ 100000) (hfit : ∀ k P, Cm[k]? = some P → fitsP P (st (Ps.length + k) 0) = true)
    (htx : ∀ x, (rowText (st Ps.length 0 x).S).size ≤ 1000000000 ∧ (rowText (st (Ps ++ Cm).length 0 x).S).size ≤ 1000000000) (hd : ∀ x ∈ namesL Cm, differs f (st Ps.length 0) x = false)
    (N : List ByteArray) (hN : N.length ≤ 100) (hNf : ∀ x, (f x).isSome = true → x ∈ N) (hNL : ∀ x ∈ namesL Cm, x ∈ N) :
    Calls Tryz.prog 133 #[.pointer (some ⟨rg, cap.r * 2, none⟩), cv] w fun e w' => e = .returned (.tuple #[.string ⟨(logL (Cm.map (·.id))).toArray⟩, .int .i64 0]) ∧ (∃ pv', OneAt w' B pb rg cap gb pv' (Ps ++ Cm) fb N.length (keepF f (st (Ps ++ Cm).length 0) (namesL Cm)) G) ∧ Below B w w' ∧ HeldT (fun t => t = 9 ∨ t = 53) w w' := by
  obtain ⟨i0, hi0, hz0, hz1, hz2⟩ := info_parts Tryz.info9
  obtain ⟨k0, hk0, kz0, kz1, kz2⟩ := info_parts Tryz.info149
  have hpvC : PV w cv Cm := pm_view hc hcc
  have HSx : Hid (∀ x ∈ namesL Cm, x.size ≤ 1000) := fun x hx => by
    obtain ⟨P, hP, hx⟩ := List.mem_flatMap.1 hx
    obtain ⟨c, hc', rfl⟩ := List.mem_map.1 hx
    exact (hsm P hP).2.2 c hc'
  have HNLL := hid (namesL_len (fun P hP => (hsm P hP).1))
  have HCLS := hid (clash196_any Ps Cm pv cv st cnt Cm.length w h.view hpvC (Nat.le_refl _) (by rw [List.take_length]; exact hs) (by omega) (by omega) (fun P hP => ⟨by have := (hsm P hP).1; omega, (hsm P hP).2.1, (hsm P hP).2.2⟩) hrow (fun k P _ hP => hfit k P hP) (fun e => by omega))
  have HO := hid h
  have HC := hid hc
  have HCC := hid hcc
  have HPV := hid hpvC
  have HFAR := hid hfar
  have HST := hid hs
  have HSM := hid hsm
  have HROW := hid hrow
  have HTX := hid htx
  have HD := hid hd
  have HNF := hid hNf
  have HNL := hid hNL
  have r0 := h.r0
  obtain ⟨ca, cc, rfl, -⟩ := hpvC
  obtain ⟨pa, pc, rfl, -⟩ := h.view
  clear h hc hcc hfar hs hsm hrow hfit htx hd hNf hNL
  go_enter Tryz.func133, Tryz.ntmps133
  go_wp2_with fail
  refine HCLS.out.mono ?_
  rintro e w1 ⟨hb1, h1⟩
  have e1 : e = .returned (.tuple #[.agg #[.int .u8 0, .int .u8 0, .int .u8 0, .int .u8 0, .slice none 0 0], .bool false]) := by
    rcases h1 with h1 | ⟨P, h1, _⟩
    · exact h1.2
    · rw [List.getElem?_eq_none (Nat.le_refl _)] at h1
      cases h1
  subst e1
  clear h1 HCLS r0
  obtain ⟨w2, hw2⟩ : ∃ w2, w2 = w1.alloc (.cells #[.int .u8 0, .int .u8 0, .int .u8 0, .int .u8 0, .slice none 0 0] 149) := ⟨_, rfl⟩
  have hb12 : Below w1.heap.size w1 w2 := by rw [hw2]; exact (Below.refl _ _).alloc (Nat.le_refl _) _
  have hb2 : Below w.heap.size w w2 := hb1.trans (hb12.mono hb1.size)
  clear hb1 hb12
  go_upto_region 2 with fail
  rw [← hw2]
  clear hw2
  go_wp2_with fail
  go_loopw [8, 28] (fun v x wr => ∃ k : Nat, k ≤ Cm.length ∧ x = .int .i64 k ∧ Hid (wr.ownsRow w.heap.size 9 1 v (namesL (Cm.take k)).length (strs (namesL (Cm.take k)))) ∧ Below w.heap.size w wr) (fun _ x _ => Cm.length - (intOf x).toNat)
  case atStart => exact ⟨0, Nat.zero_le _, rfl, World.ownsRow_nil _ _ _ _, hb2⟩
  case round =>
    clear hb2
    obtain ⟨k, hk, rfl, HN0, hbw⟩ := hrel
    have hsz := hbw.size
    by_cases hlt : k < Cm.length
    · obtain ⟨P, hP⟩ : ∃ P, Cm[k]? = some P := ⟨_, List.getElem?_eq_getElem hlt⟩
      have hPm := List.mem_of_getElem? hP
      have HSN := hid (namesL_snoc hP)
      have hnk : (namesL (Cm.take (k + 1))).length ≤ 50 * (k + 1) := by
        have := namesL_len (Cm := Cm.take (k + 1)) (fun R hR => (HSM.out R (List.mem_of_mem_take hR)).1)
        rw [List.length_take] at this
        omega
      rw [HSN.out, List.length_append] at hnk
      obtain ⟨_, _, e1, hcc⟩ := HPV.out.below hbw (Nat.le_refl _)
      cases e1
      obtain ⟨b, o, rfl, hb', d0, d1, d2, d3, d4, hcvP⟩ := hcc k _ hP
      obtain ⟨qa, qc, hqv, -⟩ := hcvP
      rw [hqv] at d4
      obtain ⟨w4, hw4⟩ : ∃ w4, w4 = wr.alloc (.cells #[.int .u8 P.id.a, .int .u8 P.id.b, .int .u8 P.id.c, .int .u8 P.id.d, .slice qa P.Cs.length qc] 149) := ⟨_, rfl⟩
      have hb4 : Below wr.heap.size wr w4 := by rw [hw4]; exact (Below.refl _ _).alloc (Nat.le_refl _) _
      have hk4 : w4.heap[wr.heap.size]? = some (.cells #[.int .u8 P.id.a, .int .u8 P.id.b, .int .u8 P.id.c, .int .u8 P.id.d, .slice qa P.Cs.length qc] 149 (0, 0)) := by rw [hw4]; exact (MapKept.heap_alloc wr _).1
      have hb04 : Below w.heap.size w w4 := hbw.trans (hb4.mono hsz)
      have hN4 := own_below HN0.out hb4 (Nat.le_refl _)
      have HNM := names128_any P w4 ((HCC.out P hPm).below hb04 (Nat.le_refl _)) (by have := (HSM.out P hPm).1; omega)
      unfold pmV at HNM
      rw [hqv] at HNM
      have HNM := hid HNM
      have hs4 := hb04.size
      clear hcc hP hqv hb4 HN0 hb'
      go_upto_region 8 with fail
      rw [← hw4]
      clear hw4 d0 d1 d2 d3 d4
      obtain ⟨q0, q1, q2, q3, q4⟩ := cells5_of hk4
      go_wp2_with fail
      refine HNM.out.mono ?_
      rintro e w5 ⟨nv, rfl, hown5, hb5⟩
      have hN5 := own_below hN4 hb5 (Nat.le_refl _)
      have hb05 : Below w.heap.size w w5 := hb04.trans (hb5.mono hs4)
      have hs5 := hb05.size
      clear HNM hN4 q0 q1 q2 q3 q4 hk4
      go_wp2_with (at_builtin; refine wpList_append_rows rfl _ _ _ rfl w.heap.size w4.heap.size 9 i0 _ 1 16 Tryz.underlying35 hi0 hz0 hz1 hz2 rfl (by omega) _ _ _ rfl hN5 nv _ _ rfl hown5 (strs_one _) (by unfold maxLen; omega) (by omega) (by omega) ?_; intro v' wa hownA hgrA hatA)
      have hbA : Below w.heap.size w wa := hb05.grown hgrA (by omega) (fun q hq => (hN5.lt q hq).1)
      go_roundw
      case rel =>
        refine ⟨k + 1, by omega, by go_num, ?_, hbA⟩
        rw [HSN.out, List.length_append]
        have e9 : strs (namesL (Cm.take k) ++ namesP P) = strs (namesL (Cm.take k)) ++ strs (namesP P) := by simp [strs]
        rw [e9]
        exact hownA
      case measure => simp [intOf]; omega
    · have e : k = Cm.length := by omega
      subst e
      rw [List.take_length] at HN0
      obtain ⟨na, nc, rfl⟩ := own_shape HN0.out
      have HML := hid (mayLay129_ok (HO.out.below hbw) HST.out.pre (by omega) na _ nc (namesL Cm) (own_texts HN0.out) (by have := HNLL.out; omega) (fun x hx => ⟨HSx.out x hx, by have := HROW.out Ps.length x; omega, (HTX.out x).1⟩) HD.out)
      go_wp2_with fail
      refine HML.out.mono ?_
      rintro e w6 ⟨rfl, hb6⟩
      have hb06 : Below w.heap.size w w6 := hbw.trans (hb6.mono hbw.size)
      have hs6 := hb06.size
      have H6 := hid (HO.out.below hb06)
      have HN6 := hid (own_below HN0.out hb6 (Nat.le_refl _))
      have HC6 := hid (own_below HC.out hb06 (Nat.le_refl _))
      have HC6c : Hid (∀ P ∈ Cm, CV w6 P.cv P.Cs) := fun P hP => (HCC.out P hP).below hb06 (Nat.le_refl _)
      have r0 := H6.out.r0
      have HB6 := hid hb06
      clear HML HN0 hb6 hbw hb06
      go_wp2_with (at_builtin; refine wpList_append_rows rfl _ _ _ rfl B Bc 149 k0 _ 5 32 Tryz.underlying84 hk0 kz0 kz1 kz2 rfl (by omega) _ _ _ rfl H6.out.own _ _ _ rfl HC6.out (pm_oneCell (fun P hP => (HC6c.out P hP).cvS)) (by unfold maxLen; omega) (by omega) (by omega) ?_; intro v' wa hownA hgrA hatA; obtain ⟨va', vc', rfl⟩ := own_shape hownA; obtain ⟨hR0, hZ0⟩ := push_store H6.out hgrA; clear r0)
      have hownB : wa.ownsRow B 149 5 (.slice va' (Ps.length + Cm.length) vc') (Ps ++ Cm).length (pmCells (Ps ++ Cm)) := by
        have e9 : pmCells (Ps ++ Cm) = pmCells Ps ++ pmCells Cm := by simp [pmCells]
        rw [List.length_append, e9]
        exact hownA
      obtain ⟨P1, P2, P3⟩ := HO.out.pushL HB6.out hgrA hatA hownB HC6c.out
      obtain ⟨wf, hwf⟩ : ∃ wf, wf = wa.setCell ⟨rg, cap.r * 2, none⟩ (.slice va' (Ps.length + Cm.length) vc') := ⟨_, rfl⟩
      have hBf : Below B w6 wf := by
        rw [hwf]
        exact ((Below.refl B w6).grown hgrA (by omega) (fun q hq => (H6.out.own.lt q hq).1)).setCell (p := ⟨rg, cap.r * 2, none⟩) HO.out.lo.2.1 _
      rw [← hwf] at P1 P2 P3 ⊢
      have hsf := hBf.size
      have hNf := own_heldT HN6.out (P2 (fun t => t = 9) (by decide) (by decide)) rfl
      have hCf : wf.ownsRow Bc 149 5 (.slice ca Cm.length cc) Cm.length (pmCells Cm) := by
        refine ⟨HC6.out.1, ?_⟩
        rcases HC6.out.2 with q | ⟨g, cp, cur, e, hg0, hg, rest⟩
        · exact .inl q
        · have hgl := (Array.getElem?_eq_some_iff.1 hg).1
          refine .inr ⟨g, cp, cur, e, hg0, (P3 g hgl (fun e2 => ?_) (fun q hq e2 => ?_)).trans hg, rest⟩
          · obtain ⟨A, hA, _⟩ := H6.out.row
            rw [e2, hA] at hg
            simp at hg
          · subst e2
            exact HFAR.out g (by rw [e]; rfl) hq
      have hCVf : ∀ P ∈ Cm, CV wf P.cv P.Cs := fun P hP => (HC6c.out P hP).held (P2 stuff (by simp [stuff]) (by simp [stuff]))
      have HLK := hid (layKept124_any P1 HST.out (by omega) (by rw [List.length_append]; omega) N hN HNF.out na _ nc (namesL Cm) HNL.out (View.own hNf) rfl (by have := HNLL.out; omega) (fun x hx => ⟨HSx.out x hx, by have := HROW.out (Ps ++ Cm).length x; omega, (HTX.out x).2⟩))
      have HHf : Hid (HeldT (fun t => t = 9 ∨ t = 53) w6 wf) := P2 _ (by decide) (by decide)
      have HCF := hid hCf
      have HCVF := hid hCVf
      have HBF := hid hBf
      clear P1 P2 P3 hwf hNf hCf hCVf hBf hownA hownB hgrA hatA hR0 hZ0
      refine HLK.out.mono ?_
      rintro e w8 ⟨rfl, h8, hb8, hh8⟩
      have HTI := hid (ids67_any Cm _ w8 (pm_view (own_heldT HCF.out hh8 trivial) (fun P hP => (HCVF.out P hP).held (hh8.mono (fun _ _ => trivial)))) (by omega))
      have H8 := hid h8
      clear HLK h8
      go_wp2_with fail
      refine HTI.out.mono ?_
      rintro e w9 ⟨rfl, hb9⟩
      clear HTI
      have hs8 := hb8.size
      have HF : Hid (Below B w w9) := ((HB6.out.mono hB).trans HBF.out).trans (hb8.trans (hb9.mono (by omega)))
      have HFH : Hid (HeldT (fun t => t = 9 ∨ t = 53) w w9) := (HeldT.of_below HB6.out).trans (HHf.out.trans ((hh8.mono (fun _ _ => trivial)).trans (HeldT.of_below hb9)))
      have H9 := hid (H8.out.below hb9)
      clear hb8 hh8 hb9
      go_wp2
      go_ret2
      exact ⟨rfl, ⟨_, H9.out⟩, HF.out, HFH.out⟩
end
end Go.Proofs.YtgdfipmdmgkidaaGreatDoor

/- Mathematics: a patch that can be laid fits. -/
namespace Go.Proofs.YtgdfipmdmgkidaaGreatDoor
open Go.RowKit
theorem hstep_fits {F N B F' : List Spot} (h : HStep F N B F') (hn : F.Nodup) : ∃ t, N[0]? = some t ∧ fitsH N F t = true := by
  obtain ⟨A, a, M, b, C, rfl, rfl, rfl, _⟩ := h
  refine ⟨a, rfl, ?_⟩
  have ha : ∀ x ∈ A, ¬ a = x := fun x hx e => by
    subst e
    rw [List.nodup_append] at hn
    exact hn.2.2 a hx a (by simp) rfl
  have hi : idxS (A ++ ((a :: (M ++ [b])) ++ C)) a = some A.length := by
    unfold idxS
    rw [List.findIdx?_append]
    have : List.findIdx? (fun s => decide (a = s)) A = none := by
      rw [List.findIdx?_eq_none_iff]
      intro x hx
      simp [ha x hx]
    rw [this]
    simp [List.findIdx?_cons]
  unfold fitsH
  rw [hi]
  show decide (((A ++ ((a :: (M ++ [b])) ++ C)).drop A.length).take (a :: (M ++ [b])).length = a :: (M ++ [b])) = true
  rw [List.drop_left, List.take_left]
  simp
theorem hsteps_app : ∀ {A C : List Hk} {F F' : List Spot}, HSteps F (A ++ C) F' → ∃ F1, HSteps F A F1 ∧ HSteps F1 C F'
  | [], C, F, F', h => ⟨F, rfl, h⟩
  | x :: A, C, F, F', ⟨F1, h1, h2⟩ => by
    obtain ⟨F2, k1, k2⟩ := hsteps_app h2
    exact ⟨F2, ⟨F1, h1, k1⟩, k2⟩
theorem hsteps_fits {Hs : List Hk} {F F' : List Spot} (h : HSteps F Hs F') (hn : F.Nodup) (hself : ∀ k ∈ Hs, ∀ x ∈ Hs, ∀ t ∈ k.N, t ∉ x.Br ∧ t ∉ killsH x.N) : ∀ k ∈ Hs, fitsK F k = true := by
  intro k hk
  obtain ⟨A, C, rfl⟩ := List.append_of_mem hk
  obtain ⟨F1, h1, F2, h2, _⟩ := hsteps_app h
  obtain ⟨F0, j1, _⟩ := hsteps_past h1 h2 (fun x hx => hself k (by simp) x (by simp [hx]))
  obtain ⟨t, e, hf⟩ := hstep_fits j1 hn
  cases hN : k.N with
  | nil => rw [hN] at e; simp at e
  | cons y L =>
    have e2 : fitsK F k = fitsH k.N F y := by unfold fitsK; rw [hN]
    rw [hN] at e
    simp at e
    rw [e2, e]
    exact hf
theorem app_fits {i : Pid} {c : ChM} {p p' : PL} (h : AppH i c p p') (w : ChWF i c) (hs : ¬ leansOn (namesOf c) i (killsOf c)) (hn : (framed p.S).Nodup) : fitsC c p = true := by
  cases c with
  | add i' l rv S =>
    obtain ⟨a1, _, e, _⟩ := h
    simp [fitsC, a1, e]
  | remove i' rv S =>
    obtain ⟨a1, e, e2, _⟩ := h
    simp [fitsC, a1, e, e2]
  | alter i' hv Hs =>
    obtain ⟨a1, e, _, _, _, hh⟩ := h
    have k := hsteps_fits hh hn (fun k hk x hx t ht => by
      have hm : t ∈ namesOf (.alter i' hv Hs) := List.mem_cons_of_mem _ (List.mem_flatMap.2 ⟨k, hk, ht⟩)
      exact ⟨fun hb => hs ⟨t, hm, .inl (w.own _ (List.mem_flatMap.2 ⟨x, hx, hb⟩)).1⟩, fun hb => hs ⟨t, hm, .inr (List.mem_flatMap.2 ⟨x, hx, hb⟩)⟩⟩)
    have k2 : (Hs.any fun h => !fitsK (framed p.S) h) = false := by
      rw [List.any_eq_false]
      intro x hx
      simp [k x hx]
    simp [fitsC, a1, e, k2]
theorem papp_fits {P : PM} {s s' : ByteArray → PL} (h : PApp P s s') (w : PWF P) (hn : ∀ x, (framed (s x).S).Nodup) : fitsP P s = true := by
  unfold fitsP
  have : (P.Cs.any fun c => !fitsC c.2 (s c.1)) = false := by
    rw [List.any_eq_false]
    intro c hc
    simp [app_fits (h.app c hc) (w.wf c hc) (w.self c hc) (hn c.1)]
  rw [this]
  rfl
theorem Hist.rows {Ps : List PM} {s : ByteArray → PL} (h : Hist Ps s) : ∀ x, (framed (s x).S).Nodup := fun x => nodup_of_map (cids_framed (h.good.1 x) h.noz)
theorem HWt.fits {Q C : List PM} {s : ByteArray → PL} (h : HWt (Q ++ C) s) {st : Nat → Nat → ByteArray → PL} {cnt : Nat → Nat} (hS : Stands (Q ++ C) st cnt) : ∀ k P, C[k]? = some P → fitsP P (st (Q.length + k) 0) = true := by
  intro k P hk
  have hkl := (List.getElem?_eq_some_iff.1 hk).1
  have hp : (Q ++ C)[Q.length + k]? = some P := by
    rw [List.getElem?_append_right (by omega), Nat.add_sub_cancel_left]
    exact hk
  have h1 := h.at_ hS (Q.length + k + 1) (by simp; omega)
  have h0 := h.at_ hS (Q.length + k) (by simp; omega)
  have hh := h1.hist
  rw [List.take_add_one, hp] at hh
  obtain ⟨t, hA, hP, w, _⟩ := Hist.last hh
  have e := h0.uniq (h0.of hA (fun P hP => hP))
  subst e
  exact papp_fits hP w h0.hist.rows
end Go.Proofs.YtgdfipmdmgkidaaGreatDoor

/- Mathematics: the last with its needs stands behind its needs; what is missing stands behind what is here. -/
namespace Go.Proofs.YtgdfipmdmgkidaaGreatDoor
open Go.RowKit
def missP (Q O : List PM) : List PM := O.filter fun P => !hereB Q P
end Go.Proofs.YtgdfipmdmgkidaaGreatDoor

/- strconv.Atoi at a digit. -/
set_option maxHeartbeats 1600000
set_option maxRecDepth 100000
namespace Go.Proofs.YtgdfipmdmgkidaaGreatDoor
open Go.RowKit
theorem atoi193_digit (b : UInt8) (n : Nat) (hn : n ≤ 9) (hb : b.toNat = 48 + n) (w : World) : Calls Tryz.prog 193 #[.string ⟨#[b]⟩] w fun e w' => e = .returned (.tuple #[.int .i64 n, .nilIface]) ∧ Below w.heap.size w w' := by
  have hcv := Lib.run_convert_string_bytes (P := Tryz.prog) w 9 156 5 ⟨#[b]⟩ (u := .string) Tryz.underlying9 Tryz.underlying156 Tryz.underlying5
  have hB : (Lib.bytesWorld w 5 ⟨#[b]⟩).cell? ⟨w.heap.size, 0, none⟩ = some (.int .u8 b.toNat) := Lib.bytesWorld_cell w 5 ⟨#[b]⟩ 0 (by show 0 < 1; omega)
  have hbw := Lib.bytesWorld_below w 5 ⟨#[b]⟩
  obtain ⟨W1, hW1⟩ : ∃ W1, W1 = Lib.bytesWorld w 5 ⟨#[b]⟩ := ⟨_, rfl⟩
  rw [← hW1] at hcv hB hbw
  have hsz : (⟨#[b]⟩ : ByteArray).size = 1 := rfl
  rw [hsz] at hcv
  have hb0 : ((⟨#[b]⟩ : ByteArray)[0]'(by show 0 < 1; omega)).toNat = 48 + n := hb
  have hx0 : (⟨#[b]⟩ : ByteArray)[0]'(by show 0 < 1; omega) = b := rfl
  rw [hb] at hB
  clear hW1
  have q1 : ((48 : Int) + (n : Int) == 45) = false := by rw [beq_eq_false_iff_ne]; omega
  have q2 : ((48 : Int) + (n : Int) == 43) = false := by rw [beq_eq_false_iff_ne]; omega
  go_enter Tryz.func193, Tryz.ntmps193
  go_wp2
  go_loop [49, 6] (fun vi vn => (vi = .int .i64 0 ∧ vn = .int .i64 0) ∨ (vi = .int .i64 1 ∧ vn = .int .i64 n)) (fun vi _ => 1 - (RowKit.intOf vi).toNat)
  case atStart => exact .inl ⟨rfl, rfl⟩
  case round =>
    rcases hrel with ⟨rfl, rfl⟩ | ⟨rfl, rfl⟩
    · go_wp2
      go_round
      case rel => exact .inr ⟨rfl, by go_num⟩
      case measure => simp [RowKit.intOf]
    · go_wp2
      go_ret2
      exact ⟨rfl, hbw⟩
theorem atoi131_digit (b : UInt8) (n : Nat) (hn : n ≤ 9) (hb : b.toNat = 48 + n) (w : World) : Calls Tryz.prog 131 #[.string ⟨#[b]⟩] w fun e w' => e = .returned (.tuple #[.int .i64 n, .nilIface]) ∧ Below w.heap.size w w' := by
  have HA := hid (atoi193_digit b n hn hb w)
  go_enter Tryz.func131, Tryz.ntmps131
  go_wp2_with fail
  refine HA.out.mono ?_
  rintro e w1 ⟨rfl, hb1⟩
  clear HA
  go_wp2
  go_ret2
  exact ⟨rfl, hb1⟩
end Go.Proofs.YtgdfipmdmgkidaaGreatDoor

/- pull: a repository takes of another what it has not. -/
set_option maxRecDepth 100000
namespace Go.Proofs.YtgdfipmdmgkidaaGreatDoor
open Go.RowKit
section
variable {w : World} {B pb rg : Nat} {cap : Cfg} {gb : Nat} {pv : Value} {Ps : List PM} {fb fn : Nat} {f : ByteArray → Option ByteArray} {G : List Pid}
theorem has42_at (h : OneAt w B pb rg cap gb pv Ps fb fn f G) {d : Nat} (hd : d < cap.nr) : Calls Tryz.prog 42 #[.pointer (some ⟨pb, 0, none⟩), .int .i64 d] w fun e w' => e = .returned (.bool true) ∧ w' = w := by
  have c0 := h.c0
  have h1 : (d : Int) < (cap.nr : Int) := by omega
  clear h
  go_enter Tryz.func42, Tryz.ntmps42
  go_wp2
  go_ret
  exact ⟨rfl, rfl⟩
set_option maxHeartbeats 3200000 in
theorem pull76_any (h : OneAt w B pb rg cap gb pv Ps fb fn f G) (hPl : Ps.length ≤ 1000) (d : Nat) (hd : d < cap.nr) (hd9 : d ≤ 9) (b : UInt8) (hb : b.toNat = 48 + d) (na : Option Addr) (nn nc : Nat) (O : List PM) (hOl : O.length ≤ 1000) (Q : ByteArray → Int → World → Prop)
    (hO : ∀ u, Below w.heap.size w u → Calls Tryz.prog 132 #[.pointer (some ⟨rg, d * 2, none⟩), .slice na nn nc] u fun e w' => ∃ ov, e = .returned (.tuple #[ov, .int .i64 0]) ∧ PV w' ov O ∧ Below u.heap.size u w')
    (hT : ∀ u v, Below w.heap.size w u → u.ownsRow w.heap.size 149 5 v (O.filter fun P => !hereB Ps P).length (pmCells (O.filter fun P => !hereB Ps P)) → (∀ P ∈ O, CV u P.cv P.Cs) → Calls Tryz.prog 133 #[.pointer (some ⟨rg, cap.r * 2, none⟩), v] u fun e w' => ∃ T c, e = .returned (.tuple #[.string T, .int .i64 c]) ∧ Q T c w') :
    Calls Tryz.prog 76 #[.pointer (some ⟨pb, 0, none⟩), .pointer (some ⟨rg, cap.r * 2, none⟩), .string ⟨#[b]⟩, .slice na nn nc] w fun e w' => ∃ T c, e = .returned (.tuple #[.string T, .int .i64 c]) ∧ Q T c w' := by
  have HA := hid (atoi131_digit b d hd9 hb w)
  have HH := hid h
  have HO := hid hO
  have HT := hid hT
  have hcap := h.cap1
  have q1 : (d : Int) < (cap.nr : Int) := by omega
  have q2 : (d : Int) ≤ 9 := by omega
  have q3 : (cap.nr : Int) ≤ 1000 := by omega
  clear h hO hT hcap
  go_enter Tryz.func76, Tryz.ntmps76
  go_wp2_with fail
  refine HA.out.mono ?_
  rintro e w1 ⟨rfl, hb1⟩
  clear HA
  have H1 := hid (HH.out.below hb1)
  have HS := hid (has42_at H1.out hd)
  go_wp2_with fail
  refine HS.out.mono ?_
  rintro e w1' ⟨rfl, rfl⟩
  clear HS
  have c0 := H1.out.c0
  have HO1 := hid (HO.out _ hb1)
  clear HO
  go_wp2_with fail
  refine HO1.out.mono ?_
  rintro e w2 ⟨ov, rfl, hov, hb2⟩
  clear HO1 c0
  have hb02 : Below w.heap.size w w2 := hb1.trans (hb2.mono hb1.size)
  have H2 := hid (HH.out.below hb02)
  have HM : Hid (Calls Tryz.prog 134 #[.pointer (some ⟨rg, cap.r * 2, none⟩), ov] w2 fun e w' => ∃ v, e = .returned v ∧ Calls Tryz.prog 133 #[.pointer (some ⟨rg, cap.r * 2, none⟩), v] w' fun e w' => ∃ T c, e = .returned (.tuple #[.string T, .int .i64 c]) ∧ Q T c w') := by
    refine (miss134_any O Ps ov pv rg (cap.r * 2) w2 hov (by omega) H2.out.view (by omega) H2.out.r0 H2.out.lts.2.1).mono ?_
    rintro e w' ⟨v, rfl, hown, hb3⟩
    exact ⟨v, rfl, HT.out w' v (hb02.trans (hb3.mono hb02.size)) (own_mono hown hb02.size) (fun P hP => (hov.cv hP).below hb3 (Nat.le_refl _))⟩
  obtain ⟨oa, oc, rfl, -⟩ := hov
  clear HT H1 H2 HH hb2
  go_wp2_with fail
  refine HM.out.mono ?_
  rintro e w3 ⟨v, rfl, hN⟩
  have HN := hid hN
  clear HM hN
  go_wp2_with fail
  refine HN.out.mono ?_
  rintro e w4 ⟨T, c, rfl, hq⟩
  clear HN
  go_wp2
  go_ret2
  exact ⟨T, c, rfl, hq⟩
end
end Go.Proofs.YtgdfipmdmgkidaaGreatDoor

/- The command pull. -/
namespace Go.Proofs.YtgdfipmdmgkidaaGreatDoor
open Go.RowKit
abbrev wdPull : ByteArray := ⟨#[112, 117, 108, 108]⟩
set_option maxRecDepth 100000 in
set_option maxHeartbeats 3200000 in
theorem carry45_pull2 (pb rg ro wb wo wc : Nat) (b : UInt8) (w : World) (Q : ByteArray → Int → World → Prop) (hw : w.cell? ⟨wb, wo, none⟩ = some (.string wdPull)) (hw1 : w.cell? ⟨wb, wo + 1, none⟩ = some (.string ⟨#[b]⟩)) (hwb : TB w wb 9) (hwc : 2 ≤ wc)
    (hN : ∀ u na nc, Below w.heap.size w u → Calls Tryz.prog 76 #[.pointer (some ⟨pb, 0, none⟩), .pointer (some ⟨rg, ro, none⟩), .string ⟨#[b]⟩, .slice na 0 nc] u fun e w' => ∃ x cd, e = .returned (.tuple #[.string x, .int .i64 cd]) ∧ Q x cd w' ∧ HeldT (· = 9) u w') :
    Calls Tryz.prog 45 #[.pointer (some ⟨pb, 0, none⟩), .pointer (some ⟨rg, ro, none⟩), .slice (some ⟨wb, wo, none⟩) 2 wc] w fun e w' => ∃ x cd, e = .returned (.tuple #[.string x, .int .i64 cd]) ∧ Q x cd w' := by
  have HN := hid hN
  have HS0 := hid hw1
  clear hN
  have j1 : (2 : Int) ≤ (wc : Int) := by omega
  have j2 : (wc : Int) ≤ (wc : Int) := Int.le_refl _
  have hb1 : Below w.heap.size w w.drew := (Below.refl _ w).drew
  go_enter Tryz.func45, Tryz.ntmps45
  go_wp2_with fail
  refine wp_region_Z (fun w' => w'.cell? ⟨wb, wo + 1, none⟩ = some (.string ⟨#[b]⟩)) 99 (by kernel_rfl) ?_
  refine zt 0 (v := ?v0) HS0.out (fun w0 hS0 => ?hy) ?_
  case hy =>
    go_simp
    with_reducible rfl
  simp only [Act.put, List.setIfInBounds_toArray]
  refine zt 1 (v := ?v1) HS0.out (fun w0 hS0 => ?hy) ?_
  case hy =>
    go_simp
    with_reducible rfl
  simp only [Act.put]
  refine zt 2 (v := ?v2) HS0.out (fun w0 hS0 => ?hy) ?_
  case hy =>
    go_simp
    with_reducible rfl
  simp only [Act.put]
  refine zt 3 (v := ?v3) HS0.out (fun w0 hS0 => ?hy) ?_
  case hy =>
    go_simp
    with_reducible rfl
  simp only [Act.put]
  refine zt 4 (v := ?v4) HS0.out (fun w0 hS0 => ?hy) ?_
  case hy =>
    go_simp
    with_reducible rfl
  simp only [Act.put]
  refine zt 5 (v := ?v5) HS0.out (fun w0 hS0 => ?hy) ?_
  case hy =>
    go_simp
    with_reducible rfl
  simp only [Act.put]
  refine zt 6 (v := ?v6) HS0.out (fun w0 hS0 => ?hy) ?_
  case hy =>
    go_simp
    with_reducible rfl
  simp only [Act.put]
  refine wpZ_one 7 _ rfl (by kernel_rfl) (fun KK hK => ?_)
  go_simp
  refine (HN.out _ _ _ hb1).mono ?_
  rintro e w2 ⟨x, cd, rfl, hq, hh⟩
  clear HN
  have c2 : w2.cell? ⟨wb, wo + 1, none⟩ = some (.string ⟨#[b]⟩) := (cell_same (hh.keep wb 9 (hwb.below hb1 (Nat.le_refl _)) rfl) _).trans hw1
  dsimp only
  refine hK.out _ _ (fun _ => c2) ?_
  clear hK
  refine zt 8 (v := ?v8) c2 (fun w0 hS0 => ?hy) ?_
  case hy =>
    go_simp
    with_reducible rfl
  simp only [Act.put, List.setIfInBounds_toArray]
  refine zt 9 (v := ?v9) c2 (fun w0 hS0 => ?hy) ?_
  case hy =>
    go_simp
    with_reducible rfl
  simp only [Act.put]
  refine zt 10 (v := ?v10) c2 (fun w0 hS0 => ?hy) ?_
  case hy =>
    go_simp
    with_reducible rfl
  simp only [Act.put]
  refine wpZ_one 11 _ rfl (by kernel_rfl) (fun KK hK => ?_)
  go_simp
  refine hK.out _ _ (fun _ => c2) ?_
  clear hK
  refine wpZ_done (by kernel_rfl) ?_ _
  go_wp2
  all_goals
    go_ret2
    exact ⟨x, cd, rfl, hq⟩
end Go.Proofs.YtgdfipmdmgkidaaGreatDoor

/- The command pull on a world of some repositories, where the files are what is kept. -/
namespace Go.Proofs.YtgdfipmdmgkidaaGreatDoor
open Go.RowKit
theorem keptO_clean (t : ByteArray → PL) (x : ByteArray) : differs (keptO t) t x = false := by
  unfold differs flOf keptFl keptO
  by_cases h : (t x).alive = true
  · simp [h]
  · simp [h]
theorem took_files {Q C : List PM} {t t' : ByteArray → PL} (h : HWt Q t) (hC : HWt (Q ++ C) t') : keepF (keptO t) t' (namesL C) = keptO t' := by
  funext x
  unfold keepF
  split
  · rfl
  · rename_i hx
    obtain ⟨t0, h1, h2⟩ := hC.hist.pre
    have e := h.uniq (h.of h1 (fun P hP => hP))
    subst e
    have e2 := chain_other h2 x (fun P hP c hc e => hx (List.mem_flatMap.2 ⟨P, hP, List.mem_map.2 ⟨c, hc, e⟩⟩))
    unfold keptO
    rw [e2]
section
variable {w : World} {B pb rg : Nat} {cap : Cfg} {gb fb : Nat} {Q : List PM} {t : ByteArray → PL} {G : List Pid}
theorem UH.take (h : UH w B pb rg cap gb fb Q (keptO t) t G) {C : List PM} {t' : ByteArray → PL} (hC : HWt (Q ++ C) t') {u : World} (hu : Below w.heap.size w u) {v : Value} (hv : u.ownsRow w.heap.size 149 5 v C.length (pmCells C)) (hcv : ∀ P ∈ C, CV u P.cv P.Cs) :
    Calls Tryz.prog 133 #[.pointer (some ⟨rg, cap.r * 2, none⟩), v] u fun e w' => e = .returned (.tuple #[.string ⟨(logL (C.map (·.id))).toArray⟩, .int .i64 0]) ∧ UH w' B pb rg cap gb fb (Q ++ C) (keptO t') t' G ∧ Below B u w' ∧ HeldT kin u w' := by
  obtain ⟨pv, h1⟩ := h.one
  obtain ⟨st, cnt, hS, hse, _, hrow⟩ := hC.stands2
  have hl := hC.len
  rw [List.length_append] at hl
  have e0 : st Q.length 0 = t := by
    have k := hC.at_ hS Q.length (by simp)
    rw [List.take_left] at k
    exact h.hw.uniq k
  have hnl : ∀ x ∈ namesL C, x ∈ names3 := fun x hx => by
    obtain ⟨P, hP, hx⟩ := List.mem_flatMap.1 hx
    obtain ⟨c, hc, rfl⟩ := List.mem_map.1 hx
    exact hC.pnm P (List.mem_append.2 (.inr hP)) c hc
  refine (take133_ok (h1.below hu) (Nat.le_trans h.lo hu.size) C v w.heap.size hv hcv (fun g hg e => ?_) hS (by omega) (by omega) (fun P hP => ?_) (fun p x => by have := hrow p x; omega) (hC.fits hS) (fun x => ?_) (fun x hx => ?_) names3 (by decide) h.fnm hnl).mono ?_
  · have k1 := (hv.lt g hg).1
    have k2 := (h1.own.lt g e).2
    omega
  · have hm := List.mem_append.2 (.inr hP : P ∈ Q ∨ P ∈ C)
    exact ⟨hC.sm.few P hm, hC.sm.small P hm, hC.sm.names P hm⟩
  · rw [e0, hse]
    have k1 := h.hw.text x
    have k2 := hC.text x
    exact ⟨by omega, by omega⟩
  · rw [e0]
    exact keptO_clean t x
  · rintro e w' ⟨rfl, ⟨pv', h2⟩, h3, h4⟩
    rw [hse, took_files h.hw hC] at h2
    refine ⟨rfl, ⟨hC, fun x hx => ?_, pv', h2⟩, h3, h4⟩
    unfold keptO at hx
    split at hx
    · rename_i ha
      exact hC.alive ha
    · cases hx
end
def pullHead (d : Nat) : ByteArray := ⟨#[112, 117, 108, 108, 32, UInt8.ofNat (48 + d)]⟩
def pullSp (d : Nat) : ByteArray := ⟨#[112, 117, 108, 108, 32, UInt8.ofNat (48 + d), 32]⟩
theorem pull_words : ∀ d ∈ List.range 3, wordsOk (pullHead d) = true ∧ splitAll (pullHead d) = [wdPull, ⟨#[UInt8.ofNat (48 + d)]⟩] ∧ (UInt8.ofNat (48 + d)).toNat = 48 + d ∧ ∀ n ∈ List.range 42, wordsOk (pullSp d ++ idW n) = true ∧ splitAll (pullSp d ++ idW n) = [wdPull, ⟨#[UInt8.ofNat (48 + d)]⟩, idW n] := by decide +kernel
section
variable {w : World} {B pb rg : Nat} {cap : Cfg} {gb fb : Nat} {Q : List PM} {t : ByteArray → PL} {G : List Pid}
theorem UH.other (h : UH w B pb rg cap gb fb Q (keptO t) t G) {d : Nat} (hd : cap.oth d) : w.cell? ⟨rg, d * 2, none⟩ = some (cap.rep d).pv ∧ rg < w.heap.size ∧ w.ownsRow B 149 5 (cap.rep d).pv (cap.rep d).Ps.length (pmCells (cap.rep d).Ps) ∧ ∀ P ∈ (cap.rep d).Ps, CV w P.cv P.Cs := by
  obtain ⟨pv, h1⟩ := h.one
  obtain ⟨A, hA, _, _, ho⟩ := h1.row
  have hR := h1.oths d hd
  exact ⟨by simp [World.cell?, hA, (ho d hd).1], h1.lts.2.1, hR.own, hR.chs⟩
theorem UH.pull_all (h : UH w B pb rg cap gb fb Q (keptO t) t G) {d : Nat} (hd : cap.oth d) (hd3 : d < 3) {t' : ByteArray → PL} (hC : HWt (Q ++ missP Q (cap.rep d).Ps) t') (hol : (cap.rep d).Ps.length ≤ 40) :
    Calls Tryz.prog 17 #[.pointer (some ⟨pb, 0, none⟩), .int .i64 cap.r, .string (pullHead d)] w fun e w' => ∃ T, e = .returned (.tuple #[.string T, .int .i64 0]) ∧ UH w' B pb rg cap gb fb (Q ++ missP Q (cap.rep d).Ps) (keptO t') t' G ∧ Below B w w' ∧ HeldT kin w w' := by
  obtain ⟨pv, h1⟩ := h.one
  obtain ⟨w1, w2, w3, _⟩ := pull_words d (List.mem_range.2 hd3)
  have hl := h.hw.len
  refine (do12_any h1 (pullHead d) w1 (fun x c w' => c = 0 ∧ UH w' B pb rg cap gb fb (Q ++ missP Q (cap.rep d).Ps) (keptO t') t' G ∧ Below B w w' ∧ HeldT kin w w') (fun u va vc hu ho => ?_)).mono ?_
  · rw [w2] at ho ⊢
    obtain ⟨wb, rfl, htb, hcap, hcl⟩ := words_at ho (by simp)
    refine (carry45_pull2 pb rg (cap.r * 2) wb 0 vc _ u _ (hcl 0 (by simp)) (hcl 1 (by simp)) htb hcap (fun u' na nc hu' => ?_)).mono (fun e w' ⟨x, cd, k1, k2⟩ => ⟨x, cd, k1, k2⟩)
    have hb' : Below w.heap.size w u' := hu.trans (hu'.mono hu.size)
    have hU := h.below hb'
    obtain ⟨o1, o2, o3, o4⟩ := hU.other hd
    refine pull76_any (h1.below hb') (by omega) d hd.1 (by omega) _ w3 na 0 nc (cap.rep d).Ps (by omega) (fun x c w' => (c = 0 ∧ UH w' B pb rg cap gb fb (Q ++ missP Q (cap.rep d).Ps) (keptO t') t' G ∧ Below B w w' ∧ HeldT kin w w') ∧ HeldT (· = 9) u' w') (fun u2 hu2 => ?_) (fun u2 v hu2 hv hcv => ?_) |>.mono (fun e w' ⟨x, cd, k1, k2, k3⟩ => ⟨x, cd, k1, k2, k3⟩)
    · obtain ⟨ao, cc, hsh⟩ := own_shape o3
      refine (offered132_all (cap.rep d).pv rg (d * 2) na nc u2 ⟨_, _, _, hsh⟩ ((hu2.cell (p := ⟨rg, d * 2, none⟩) o2).trans o1)).mono ?_
      rintro e w' ⟨rfl, hb⟩
      have hb3 := hu2.trans (hb.mono hu2.size)
      exact ⟨_, rfl, (pm_view o3 o4).below hb3 (Nat.le_refl _), hb⟩
    · refine (hU.take hC hu2 hv (fun P hP => hcv P (List.mem_filter.1 hP).1)).mono ?_
      rintro e w' ⟨rfl, k1, k2, k3⟩
      have hb3 : Below w.heap.size w u2 := hb'.trans (hu2.mono hb'.size)
      exact ⟨_, _, rfl, ⟨rfl, k1, (hb3.mono h.lo).trans k2, (HeldT.of_below hb3).trans k3⟩, kin9 ((HeldT.of_below hu2).trans k3)⟩
  · rintro e w' ⟨x, c, rfl, rfl, k⟩
    exact ⟨x, rfl, k⟩
end
end Go.Proofs.YtgdfipmdmgkidaaGreatDoor
