/- offered: the patches that are asked for; mayLay. -/
import Derived.Test.YtgdfipmdmgkidaaGreatDoorMpush
import Derived.Test.YtgdfipmdmgkidaaGreatDoorUfk
import Derived.Test.YtgdfipmdmgkidaaGreatDoorMbring
import Derived.Test.YtgdfipmdmgkidaaGreatDoorMfith
import Derived.Test.YtgdfipmdmgkidaaGreatDoorUwr
import Derived.Test.YtgdfipmdmgkidaaGreatDoorProw
import Derived.Lib.ConvBytes
import Derived.Lib.AtoiErrMem
import Derived.Test.YtgdfipmdmgkidaaGreatDoorPwords
set_option maxHeartbeats 3200000
set_option maxRecDepth 100000
namespace Go.Proofs.YtgdfipmdmgkidaaGreatDoor
open Go.RowKit
theorem offered132_all (pv : Value) (rg ro : Nat) (na : Option Addr) (nc : Nat) (w : World) (hp : ∃ a n c, pv = .slice a n c) (hr : w.cell? ⟨rg, ro, none⟩ = some pv) :
    Calls Tryz.prog 132 #[.pointer (some ⟨rg, ro, none⟩), .slice na 0 nc] w fun e w' => e = .returned (.tuple #[pv, .int .i64 0]) ∧ Below w.heap.size w w' := by
  obtain ⟨a, n, c, rfl⟩ := hp
  go_enter Tryz.func132, Tryz.ntmps132
  go_wp2
  go_ret2
  exact ⟨rfl, Below.refl _ _⟩
theorem offered132_one (Ps : List PM) (pv : Value) (B rg ro nb no nc : Nat) (a b c d : UInt8) (k : Nat) (w : World) (ho : w.ownsRow B 149 5 pv Ps.length (pmCells Ps)) (hch : ∀ P ∈ Ps, CV w P.cv P.Cs) (hl : Ps.length ≤ 1000) (hsm : ∀ P ∈ Ps, (∀ d ∈ P.Cs, ChSmall d.2) ∧ P.Cs.length ≤ 1000) (hr : w.cell? ⟨rg, ro, none⟩ = some pv) (hrg : rg < w.heap.size) (hw : w.cell? ⟨nb, no, none⟩ = some (.string ⟨#[a, b, c, d]⟩))
    (hk : (Ps.findIdx? fun P => decide (P.id = (⟨a.toNat, b.toNat, c.toNat, d.toNat⟩ : Pid))) = some k) :
    Calls Tryz.prog 132 #[.pointer (some ⟨rg, ro, none⟩), .slice (some ⟨nb, no, none⟩) 1 nc] w fun e w' => ∃ v, e = .returned (.tuple #[v, .int .i64 0]) ∧ w'.ownsRow w.heap.size 149 5 v (lastWith (Ps.take (k + 1))).length (pmCells (lastWith (Ps.take (k + 1)))) ∧ Below w.heap.size w w' := by
  have hkl : k < Ps.length := by
    rw [List.findIdx?_eq_some_iff_getElem] at hk
    exact hk.1
  obtain ⟨g, cp, hpv, hgs⟩ : ∃ g cp, pv = .slice (some ⟨g, 0, none⟩) Ps.length cp ∧ Ps.length ≤ cp := by
    obtain ⟨ao, cc, hv⟩ := own_shape ho
    subst hv
    obtain ⟨g, rfl, k1, _⟩ := own_at ho (by omega)
    exact ⟨g, cc, rfl, own_cap ho⟩
  subst hpv
  have HI := hid (idOf51_any a b c d w)
  have HPL : Hid (∀ u, Below w.heap.size w u → Calls Tryz.prog 122 #[.pointer (some ⟨rg, ro, none⟩), .agg #[.int .u8 a.toNat, .int .u8 b.toNat, .int .u8 c.toNat, .int .u8 d.toNat]] u fun e w' => e = .returned (.int .i64 (k : Nat)) ∧ Below u.heap.size u w') := fun u hu => by
    have := place122_any Ps _ (⟨a.toNat, b.toNat, c.toNat, d.toNat⟩ : Pid) rg ro u ((pm_view ho hch).below hu (Nat.le_refl _)) (by omega) ((hu.cell (p := ⟨rg, ro, none⟩) hrg).trans hr) (by have := hu.size; omega)
    rw [hk] at this
    exact this
  have htl : (Ps.take (k + 1)).length = k + 1 := by rw [List.length_take]; omega
  have HLW : Hid (∀ u, Below w.heap.size w u → Calls Tryz.prog 195 #[.slice (some ⟨g, 0, none⟩) (k + 1) cp] u fun e w' => ∃ v, e = .returned v ∧ w'.ownsRow u.heap.size 149 5 v (lastWith (Ps.take (k + 1))).length (pmCells (lastWith (Ps.take (k + 1)))) ∧ Below u.heap.size u w') := fun u hu => by
    refine last195_any (Ps.take (k + 1)) _ u ?_ (by omega) (fun P hP => hsm P (List.mem_of_mem_take hP))
    obtain ⟨ao, cc, e, hcc⟩ := (pm_view ho hch).below hu (Nat.le_refl _)
    simp only [Value.slice.injEq, true_and] at e
    obtain ⟨rfl, rfl⟩ := e
    refine ⟨_, cp, by rw [htl], fun j R hj => hcc j R ?_⟩
    have hjl := (List.getElem?_eq_some_iff.1 hj).1
    rw [htl] at hjl
    rw [List.getElem?_take_of_lt hjl] at hj
    exact hj
  obtain ⟨L, hL⟩ : ∃ L, lastWith (Ps.take (k + 1)) = L := ⟨_, rfl⟩
  rw [hL] at HLW ⊢
  have j1 : (k : Int) + 1 ≤ (cp : Int) := by omega
  have j2 : (k : Int) ≤ 1000 := by omega
  clear hk hL ho hch hsm htl
  go_enter Tryz.func132, Tryz.ntmps132
  go_wp2_with fail
  refine HI.out.mono ?_
  rintro e w1 ⟨rfl, hb1⟩
  clear HI hw
  have HP1 := hid (HPL.out w1 hb1)
  clear HPL
  go_wp2_with fail
  refine HP1.out.mono ?_
  rintro e w2 ⟨rfl, hb2⟩
  clear HP1
  have hb12 : Below w.heap.size w w2 := hb1.trans (hb2.mono hb1.size)
  have HL2 := hid (HLW.out w2 hb12)
  have r2 : w2.cell? ⟨rg, ro, none⟩ = _ := (hb12.cell (p := ⟨rg, ro, none⟩) hrg).trans hr
  clear HLW hr
  go_wp2_with fail
  refine HL2.out.mono ?_
  rintro e w3 ⟨v, rfl, hown, hb3⟩
  clear HL2
  go_wp2
  go_ret2
  exact ⟨v, rfl, own_mono hown hb12.size, hb12.trans (hb3.mono hb12.size)⟩
theorem texts_mono {n n' : Nat} {w : World} {v : Value} {L : List ByteArray} (h : TextsAt n w v L) (hn : n ≤ n') : TextsAt n' w v L := by
  rcases h with h | ⟨b, o, c, h1, h2, h3⟩
  · exact .inl h
  · exact .inr ⟨b, o, c, h1, Nat.lt_of_lt_of_le h2 hn, h3⟩
section
variable {w : World} {B pb rg : Nat} {cap : Cfg} {gb : Nat} {pv : Value} {Ps : List PM} {fb fn : Nat} {f : ByteArray → Option ByteArray} {G : List Pid}
theorem mayLay129_ok (h : OneAt w B pb rg cap gb pv Ps fb fn f G) {st : Nat → Nat → ByteArray → PL} {cnt : Nat → Nat} (hs : Stands Ps st cnt) (hPs : Ps.length ≤ 1000) (na : Option Addr) (nn nc : Nat) (L : List ByteArray) (hN : TextsAt w.heap.size w (.slice na nn nc) L) (hL : L.length ≤ 200000)
    (hx : ∀ x ∈ L, x.size ≤ 1000 ∧ (st Ps.length 0 x).S.length ≤ 1000000 ∧ (rowText (st Ps.length 0 x).S).size ≤ 1000000000) (hd : ∀ x ∈ L, differs f (st Ps.length 0) x = false) :
    Calls Tryz.prog 129 #[.pointer (some ⟨rg, cap.r * 2, none⟩), .slice na nn nc] w fun e w' => e = .returned (.tuple #[.string ⟨#[]⟩, .int .i64 0]) ∧ Below w.heap.size w w' := by
  obtain ⟨s, hse⟩ : ∃ s, st Ps.length 0 = s := ⟨_, rfl⟩
  have HK : Hid (Calls Tryz.prog 77 #[.pointer (some ⟨rg, cap.r * 2, none⟩)] w fun e w' => ∃ mb n, e = .returned (.agg #[.map (some mb)]) ∧ TreeAt w' mb s n ∧ n ≤ 100000 ∧ w.heap.size ≤ mb ∧ Below w.heap.size w w') := by
    have := kept_any hs h.view (by omega) h.r0 h.lts.2.1
    rw [hse] at this
    exact this
  rw [hse] at hx hd
  have HC : Hid (∀ u mb n, Below w.heap.size w u → TreeAt u mb s n → n ≤ 100000 → Calls Tryz.prog 111 #[.pointer (some ⟨rg, cap.r * 2, none⟩), .agg #[.map (some mb)], .slice na nn nc] u fun e w' => ∃ a c, e = .returned (.slice a 0 c) ∧ Below u.heap.size u w') := fun u mb n hu hT hn => by
    have hu1 := h.below hu
    refine (changed88_any f fb fn rg (cap.r * 2) s mb n na nn nc L u hu1.files hu1.r1 hu1.lts.2.1 hT hn (texts_mono (hN.below hu) hu.size) hL hx).mono ?_
    rintro e w' ⟨v, K, rfl, h1, h2, h3, h4⟩
    have e0 : K.filter (differs f s) = [] := by
      rw [List.filter_eq_nil_iff]
      intro x hx'
      simp [hd x ((h3 x).1 hx')]
    rw [e0] at h1
    obtain ⟨ao, cc, rfl, _⟩ := h1
    exact ⟨ao, cc, rfl, h4⟩
  clear h hs hse hN hx hd
  go_enter Tryz.func129, Tryz.ntmps129
  go_wp2_with fail
  refine HK.out.mono ?_
  rintro e w1 ⟨mb, n, rfl, hT, hn, hmb, hb1⟩
  have HC1 := hid (HC.out w1 mb n hb1 hT hn)
  clear HK HC hT hn hmb
  go_wp2_with fail
  refine HC1.out.mono ?_
  rintro e w2 ⟨a, c, rfl, hb2⟩
  clear HC1
  go_wp2
  go_ret2
  exact ⟨rfl, hb1.trans (hb2.mono hb1.size)⟩
end
end Go.Proofs.YtgdfipmdmgkidaaGreatDoor

/- take: the coming patches fit, and nothing of the user's is lost: they are laid behind those that are here. -/
namespace Go.Proofs.YtgdfipmdmgkidaaGreatDoor
open Go.RowKit
def namesL (Cm : List PM) : List ByteArray := Cm.flatMap namesP
theorem namesL_snoc {Cm : List PM} {k : Nat} {P : PM} (h : Cm[k]? = some P) : namesL (Cm.take (k + 1)) = namesL (Cm.take k) ++ namesP P := by
  rw [List.take_add_one, h]
  simp [namesL]
theorem namesL_len {Cm : List PM} (h : ∀ P ∈ Cm, P.Cs.length ≤ 50) : (namesL Cm).length ≤ 50 * Cm.length := by
  induction Cm with
  | nil => simp [namesL]
  | cons P L ih =>
    have k1 := ih (fun Q hQ => h Q (List.mem_cons_of_mem _ hQ))
    have k2 := h P List.mem_cons_self
    have e : namesL (P :: L) = namesP P ++ namesL L := by simp [namesL]
    rw [e, List.length_append, List.length_cons]
    have : (namesP P).length = P.Cs.length := by simp [namesP]
    omega
section
variable {w : World} {B pb rg : Nat} {cap : Cfg} {gb : Nat} {pv : Value} {Ps : List PM} {fb fn : Nat} {f : ByteArray → Option ByteArray} {G : List Pid}
theorem push_store (h : OneAt w B pb rg cap gb pv Ps fb fn f G) {wa : World} (hg : w.grownBy wa pv.ownBlock) : wa.cell? ⟨rg, cap.r * 2, none⟩ = some pv ∧ wa.frozen? ⟨rg, cap.r * 2, none⟩ = false := by
  obtain ⟨A, hA, hA0, _⟩ := h.row
  have h1 : wa.heap[rg]? = some (.cells A 87 (0, 0)) := (hg.block rg h.lts.2.1 (fun e => by
    obtain ⟨cs, fz, hq⟩ := own_TB h.own e.symm
    rw [hA] at hq
    simp at hq)).trans hA
  exact ⟨by simp [World.cell?, h1, hA0], free3 h1 _⟩
set_option maxRecDepth 100000 in
set_option maxHeartbeats 6400000 in
theorem take133_ok (h : OneAt w B pb rg cap gb pv Ps fb fn f G) (hB : B ≤ w.heap.size) (Cm : List PM) (cv : Value) (Bc : Nat) (hc : w.ownsRow Bc 149 5 cv Cm.length (pmCells Cm)) (hcc : ∀ P ∈ Cm, CV w P.cv P.Cs) (hfar : ∀ g, cv.ownBlock = some g → pv.ownBlock ≠ some g)
    {st : Nat → Nat → ByteArray → PL} {cnt : Nat → Nat} (hs : Stands (Ps ++ Cm) st cnt) (hPl : Ps.length ≤ 500) (hCl : Cm.length ≤ 500) (hsm : ∀ P ∈ Cm, P.Cs.length ≤ 50 ∧ (∀ c ∈ P.Cs, ChSmall c.2) ∧ ∀ c ∈ P.Cs, c.1.size ≤ 1000) (hrow : ∀ p x, (st p 0 x).S.length ≤ 100000) (hfit : ∀ k P, Cm[k]? = some P → fitsP P (st (Ps.length + k) 0) = true)
    (htx : ∀ x, (rowText (st Ps.length 0 x).S).size ≤ 1000000000 ∧ (rowText (st (Ps ++ Cm).length 0 x).S).size ≤ 1000000000) (hd : ∀ x ∈ namesL Cm, differs f (st Ps.length 0) x = false)
    (N : List ByteArray) (hN : N.length ≤ 100) (hNf : ∀ x, (f x).isSome = true → x ∈ N) (hNL : ∀ x ∈ namesL Cm, x ∈ N) :
    Calls Tryz.prog 133 #[.pointer (some ⟨rg, cap.r * 2, none⟩), cv] w fun e w' => e = .returned (.tuple #[.string ⟨(logL (Cm.map (·.id))).toArray⟩, .int .i64 0]) ∧ (∃ pv', OneAt w' B pb rg cap gb pv' (Ps ++ Cm) fb N.length (keepF f (st (Ps ++ Cm).length 0) (namesL Cm)) G) ∧ Below B w w' ∧ HeldT (fun t => t = 9 ∨ t = 53) w w' := by
  obtain ⟨i0, hi0, hz0, hz1, hz2⟩ := info_parts Tryz.info9
  obtain ⟨k0, hk0, kz0, kz1, kz2⟩ := info_parts Tryz.info149
  have hpvC : PV w cv Cm := pm_view hc hcc
  have HSx : Hid (∀ x ∈ namesL Cm, x.size ≤ 1000) := fun x hx => by
    obtain ⟨P, hP, hx⟩ := List.mem_flatMap.1 hx
    obtain ⟨c, hc', rfl⟩ := List.mem_map.1 hx
    exact (hsm P hP).2.2 c hc'
  have HNLL := hid (namesL_len (fun P hP => (hsm P hP).1))
  have HCLS := hid (clash196_any Ps Cm pv cv st cnt Cm.length w h.view hpvC (Nat.le_refl _) (by rw [List.take_length]; exact hs) (by omega) (by omega) (fun P hP => ⟨by have := (hsm P hP).1; omega, (hsm P hP).2.1, (hsm P hP).2.2⟩) hrow (fun k P _ hP => hfit k P hP) (fun e => by omega))
  have HO := hid h
  have HC := hid hc
  have HCC := hid hcc
  have HPV := hid hpvC
  have HFAR := hid hfar
  have HST := hid hs
  have HSM := hid hsm
  have HROW := hid hrow
  have HTX := hid htx
  have HD := hid hd
  have HNF := hid hNf
  have HNL := hid hNL
  have r0 := h.r0
  obtain ⟨ca, cc, rfl, -⟩ := hpvC
  obtain ⟨pa, pc, rfl, -⟩ := h.view
  clear h hc hcc hfar hs hsm hrow hfit htx hd hNf hNL
  go_enter Tryz.func133, Tryz.ntmps133
  go_wp2_with fail
  refine HCLS.out.mono ?_
  rintro e w1 ⟨hb1, h1⟩
  have e1 : e = .returned (.tuple #[.agg #[.int .u8 0, .int .u8 0, .int .u8 0, .int .u8 0, .slice none 0 0], .bool false]) := by
    rcases h1 with h1 | ⟨P, h1, _⟩
    · exact h1.2
    · rw [List.getElem?_eq_none (Nat.le_refl _)] at h1
      cases h1
  subst e1
  clear h1 HCLS r0
  obtain ⟨w2, hw2⟩ : ∃ w2, w2 = w1.alloc (.cells #[.int .u8 0, .int .u8 0, .int .u8 0, .int .u8 0, .slice none 0 0] 149) := ⟨_, rfl⟩
  have hb12 : Below w1.heap.size w1 w2 := by rw [hw2]; exact (Below.refl _ _).alloc (Nat.le_refl _) _
  have hb2 : Below w.heap.size w w2 := hb1.trans (hb12.mono hb1.size)
  clear hb1 hb12
  go_upto_region 2 with fail
  rw [← hw2]
  clear hw2
  go_wp2_with fail
  go_loopw [8, 28] (fun v x wr => ∃ k : Nat, k ≤ Cm.length ∧ x = .int .i64 k ∧ Hid (wr.ownsRow w.heap.size 9 1 v (namesL (Cm.take k)).length (strs (namesL (Cm.take k)))) ∧ Below w.heap.size w wr) (fun _ x _ => Cm.length - (intOf x).toNat)
  case atStart => exact ⟨0, Nat.zero_le _, rfl, World.ownsRow_nil _ _ _ _, hb2⟩
  case round =>
    clear hb2
    obtain ⟨k, hk, rfl, HN0, hbw⟩ := hrel
    have hsz := hbw.size
    by_cases hlt : k < Cm.length
    · obtain ⟨P, hP⟩ : ∃ P, Cm[k]? = some P := ⟨_, List.getElem?_eq_getElem hlt⟩
      have hPm := List.mem_of_getElem? hP
      have HSN := hid (namesL_snoc hP)
      have hnk : (namesL (Cm.take (k + 1))).length ≤ 50 * (k + 1) := by
        have := namesL_len (Cm := Cm.take (k + 1)) (fun R hR => (HSM.out R (List.mem_of_mem_take hR)).1)
        rw [List.length_take] at this
        omega
      rw [HSN.out, List.length_append] at hnk
      obtain ⟨_, _, e1, hcc⟩ := HPV.out.below hbw (Nat.le_refl _)
      cases e1
      obtain ⟨b, o, rfl, hb', d0, d1, d2, d3, d4, hcvP⟩ := hcc k _ hP
      obtain ⟨qa, qc, hqv, -⟩ := hcvP
      rw [hqv] at d4
      obtain ⟨w4, hw4⟩ : ∃ w4, w4 = wr.alloc (.cells #[.int .u8 P.id.a, .int .u8 P.id.b, .int .u8 P.id.c, .int .u8 P.id.d, .slice qa P.Cs.length qc] 149) := ⟨_, rfl⟩
      have hb4 : Below wr.heap.size wr w4 := by rw [hw4]; exact (Below.refl _ _).alloc (Nat.le_refl _) _
      have hk4 : w4.heap[wr.heap.size]? = some (.cells #[.int .u8 P.id.a, .int .u8 P.id.b, .int .u8 P.id.c, .int .u8 P.id.d, .slice qa P.Cs.length qc] 149 (0, 0)) := by rw [hw4]; exact (MapKept.heap_alloc wr _).1
      have hb04 : Below w.heap.size w w4 := hbw.trans (hb4.mono hsz)
      have hN4 := own_below HN0.out hb4 (Nat.le_refl _)
      have HNM := names128_any P w4 ((HCC.out P hPm).below hb04 (Nat.le_refl _)) (by have := (HSM.out P hPm).1; omega)
      unfold pmV at HNM
      rw [hqv] at HNM
      have HNM := hid HNM
      have hs4 := hb04.size
      clear hcc hP hqv hb4 HN0 hb'
      go_upto_region 8 with fail
      rw [← hw4]
      clear hw4 d0 d1 d2 d3 d4
      obtain ⟨q0, q1, q2, q3, q4⟩ := cells5_of hk4
      go_wp2_with fail
      refine HNM.out.mono ?_
      rintro e w5 ⟨nv, rfl, hown5, hb5⟩
      have hN5 := own_below hN4 hb5 (Nat.le_refl _)
      have hb05 : Below w.heap.size w w5 := hb04.trans (hb5.mono hs4)
      have hs5 := hb05.size
      clear HNM hN4 q0 q1 q2 q3 q4 hk4
      go_wp2_with (at_builtin; refine wpList_append_rows rfl _ _ _ rfl w.heap.size w4.heap.size 9 i0 _ 1 16 Tryz.underlying35 hi0 hz0 hz1 hz2 rfl (by omega) _ _ _ rfl hN5 nv _ _ rfl hown5 (strs_one _) (by unfold maxLen; omega) (by omega) (by omega) ?_; intro v' wa hownA hgrA hatA)
      have hbA : Below w.heap.size w wa := hb05.grown hgrA (by omega) (fun q hq => (hN5.lt q hq).1)
      go_roundw
      case rel =>
        refine ⟨k + 1, by omega, by go_num, ?_, hbA⟩
        rw [HSN.out, List.length_append]
        have e9 : strs (namesL (Cm.take k) ++ namesP P) = strs (namesL (Cm.take k)) ++ strs (namesP P) := by simp [strs]
        rw [e9]
        exact hownA
      case measure => simp [intOf]; omega
    · have e : k = Cm.length := by omega
      subst e
      rw [List.take_length] at HN0
      obtain ⟨na, nc, rfl⟩ := own_shape HN0.out
      have HML := hid (mayLay129_ok (HO.out.below hbw) HST.out.pre (by omega) na _ nc (namesL Cm) (own_texts HN0.out) (by have := HNLL.out; omega) (fun x hx => ⟨HSx.out x hx, by have := HROW.out Ps.length x; omega, (HTX.out x).1⟩) HD.out)
      go_wp2_with fail
      refine HML.out.mono ?_
      rintro e w6 ⟨rfl, hb6⟩
      have hb06 : Below w.heap.size w w6 := hbw.trans (hb6.mono hbw.size)
      have hs6 := hb06.size
      have H6 := hid (HO.out.below hb06)
      have HN6 := hid (own_below HN0.out hb6 (Nat.le_refl _))
      have HC6 := hid (own_below HC.out hb06 (Nat.le_refl _))
      have HC6c : Hid (∀ P ∈ Cm, CV w6 P.cv P.Cs) := fun P hP => (HCC.out P hP).below hb06 (Nat.le_refl _)
      have r0 := H6.out.r0
      have HB6 := hid hb06
      clear HML HN0 hb6 hbw hb06
      go_wp2_with (at_builtin; refine wpList_append_rows rfl _ _ _ rfl B Bc 149 k0 _ 5 32 Tryz.underlying84 hk0 kz0 kz1 kz2 rfl (by omega) _ _ _ rfl H6.out.own _ _ _ rfl HC6.out (pm_oneCell (fun P hP => (HC6c.out P hP).cvS)) (by unfold maxLen; omega) (by omega) (by omega) ?_; intro v' wa hownA hgrA hatA; obtain ⟨va', vc', rfl⟩ := own_shape hownA; obtain ⟨hR0, hZ0⟩ := push_store H6.out hgrA; clear r0)
      have hownB : wa.ownsRow B 149 5 (.slice va' (Ps.length + Cm.length) vc') (Ps ++ Cm).length (pmCells (Ps ++ Cm)) := by
        have e9 : pmCells (Ps ++ Cm) = pmCells Ps ++ pmCells Cm := by simp [pmCells]
        rw [List.length_append, e9]
        exact hownA
      obtain ⟨P1, P2, P3⟩ := HO.out.pushL HB6.out hgrA hatA hownB HC6c.out
      obtain ⟨wf, hwf⟩ : ∃ wf, wf = wa.setCell ⟨rg, cap.r * 2, none⟩ (.slice va' (Ps.length + Cm.length) vc') := ⟨_, rfl⟩
      have hBf : Below B w6 wf := by
        rw [hwf]
        exact ((Below.refl B w6).grown hgrA (by omega) (fun q hq => (H6.out.own.lt q hq).1)).setCell (p := ⟨rg, cap.r * 2, none⟩) HO.out.lo.2.1 _
      rw [← hwf] at P1 P2 P3 ⊢
      have hsf := hBf.size
      have hNf := own_heldT HN6.out (P2 (fun t => t = 9) (by decide) (by decide)) rfl
      have hCf : wf.ownsRow Bc 149 5 (.slice ca Cm.length cc) Cm.length (pmCells Cm) := by
        refine ⟨HC6.out.1, ?_⟩
        rcases HC6.out.2 with q | ⟨g, cp, cur, e, hg0, hg, rest⟩
        · exact .inl q
        · have hgl := (Array.getElem?_eq_some_iff.1 hg).1
          refine .inr ⟨g, cp, cur, e, hg0, (P3 g hgl (fun e2 => ?_) (fun q hq e2 => ?_)).trans hg, rest⟩
          · obtain ⟨A, hA, _⟩ := H6.out.row
            rw [e2, hA] at hg
            simp at hg
          · subst e2
            exact HFAR.out g (by rw [e]; rfl) hq
      have hCVf : ∀ P ∈ Cm, CV wf P.cv P.Cs := fun P hP => (HC6c.out P hP).held (P2 stuff (by simp [stuff]) (by simp [stuff]))
      have HLK := hid (layKept124_any P1 HST.out (by omega) (by rw [List.length_append]; omega) N hN HNF.out na _ nc (namesL Cm) HNL.out (View.own hNf) rfl (by have := HNLL.out; omega) (fun x hx => ⟨HSx.out x hx, by have := HROW.out (Ps ++ Cm).length x; omega, (HTX.out x).2⟩))
      have HHf : Hid (HeldT (fun t => t = 9 ∨ t = 53) w6 wf) := P2 _ (by decide) (by decide)
      have HCF := hid hCf
      have HCVF := hid hCVf
      have HBF := hid hBf
      clear P1 P2 P3 hwf hNf hCf hCVf hBf hownA hownB hgrA hatA hR0 hZ0
      refine HLK.out.mono ?_
      rintro e w8 ⟨rfl, h8, hb8, hh8⟩
      have HTI := hid (ids67_any Cm _ w8 (pm_view (own_heldT HCF.out hh8 trivial) (fun P hP => (HCVF.out P hP).held (hh8.mono (fun _ _ => trivial)))) (by omega))
      have H8 := hid h8
      clear HLK h8
      go_wp2_with fail
      refine HTI.out.mono ?_
      rintro e w9 ⟨rfl, hb9⟩
      clear HTI
      have hs8 := hb8.size
      have HF : Hid (Below B w w9) := ((HB6.out.mono hB).trans HBF.out).trans (hb8.trans (hb9.mono (by omega)))
      have HFH : Hid (HeldT (fun t => t = 9 ∨ t = 53) w w9) := (HeldT.of_below HB6.out).trans (HHf.out.trans ((hh8.mono (fun _ _ => trivial)).trans (HeldT.of_below hb9)))
      have H9 := hid (H8.out.below hb9)
      clear hb8 hh8 hb9
      go_wp2
      go_ret2
      exact ⟨rfl, ⟨_, H9.out⟩, HF.out, HFH.out⟩
end
end Go.Proofs.YtgdfipmdmgkidaaGreatDoor

/- Mathematics: a patch that can be laid fits. -/
namespace Go.Proofs.YtgdfipmdmgkidaaGreatDoor
open Go.RowKit
theorem hstep_fits {F N B F' : List Spot} (h : HStep F N B F') (hn : F.Nodup) : ∃ t, N[0]? = some t ∧ fitsH N F t = true := by
  obtain ⟨A, a, M, b, C, rfl, rfl, rfl, _⟩ := h
  refine ⟨a, rfl, ?_⟩
  have ha : ∀ x ∈ A, ¬ a = x := fun x hx e => by
    subst e
    rw [List.nodup_append] at hn
    exact hn.2.2 a hx a (by simp) rfl
  have hi : idxS (A ++ ((a :: (M ++ [b])) ++ C)) a = some A.length := by
    unfold idxS
    rw [List.findIdx?_append]
    have : List.findIdx? (fun s => decide (a = s)) A = none := by
      rw [List.findIdx?_eq_none_iff]
      intro x hx
      simp [ha x hx]
    rw [this]
    simp [List.findIdx?_cons]
  unfold fitsH
  rw [hi]
  show decide (((A ++ ((a :: (M ++ [b])) ++ C)).drop A.length).take (a :: (M ++ [b])).length = a :: (M ++ [b])) = true
  rw [List.drop_left, List.take_left]
  simp
theorem hsteps_app : ∀ {A C : List Hk} {F F' : List Spot}, HSteps F (A ++ C) F' → ∃ F1, HSteps F A F1 ∧ HSteps F1 C F'
  | [], C, F, F', h => ⟨F, rfl, h⟩
  | x :: A, C, F, F', ⟨F1, h1, h2⟩ => by
    obtain ⟨F2, k1, k2⟩ := hsteps_app h2
    exact ⟨F2, ⟨F1, h1, k1⟩, k2⟩
theorem hsteps_fits {Hs : List Hk} {F F' : List Spot} (h : HSteps F Hs F') (hn : F.Nodup) (hself : ∀ k ∈ Hs, ∀ x ∈ Hs, ∀ t ∈ k.N, t ∉ x.Br ∧ t ∉ killsH x.N) : ∀ k ∈ Hs, fitsK F k = true := by
  intro k hk
  obtain ⟨A, C, rfl⟩ := List.append_of_mem hk
  obtain ⟨F1, h1, F2, h2, _⟩ := hsteps_app h
  obtain ⟨F0, j1, _⟩ := hsteps_past h1 h2 (fun x hx => hself k (by simp) x (by simp [hx]))
  obtain ⟨t, e, hf⟩ := hstep_fits j1 hn
  cases hN : k.N with
  | nil => rw [hN] at e; simp at e
  | cons y L =>
    have e2 : fitsK F k = fitsH k.N F y := by unfold fitsK; rw [hN]
    rw [hN] at e
    simp at e
    rw [e2, e]
    exact hf
theorem app_fits {i : Pid} {c : ChM} {p p' : PL} (h : AppH i c p p') (w : ChWF i c) (hs : ¬ leansOn (namesOf c) i (killsOf c)) (hn : (framed p.S).Nodup) : fitsC c p = true := by
  cases c with
  | add i' l rv S =>
    obtain ⟨a1, _, e, _⟩ := h
    simp [fitsC, a1, e]
  | remove i' rv S =>
    obtain ⟨a1, e, e2, _⟩ := h
    simp [fitsC, a1, e, e2]
  | alter i' hv Hs =>
    obtain ⟨a1, e, _, _, _, hh⟩ := h
    have k := hsteps_fits hh hn (fun k hk x hx t ht => by
      have hm : t ∈ namesOf (.alter i' hv Hs) := List.mem_cons_of_mem _ (List.mem_flatMap.2 ⟨k, hk, ht⟩)
      exact ⟨fun hb => hs ⟨t, hm, .inl (w.own _ (List.mem_flatMap.2 ⟨x, hx, hb⟩)).1⟩, fun hb => hs ⟨t, hm, .inr (List.mem_flatMap.2 ⟨x, hx, hb⟩)⟩⟩)
    have k2 : (Hs.any fun h => !fitsK (framed p.S) h) = false := by
      rw [List.any_eq_false]
      intro x hx
      simp [k x hx]
    simp [fitsC, a1, e, k2]
theorem papp_fits {P : PM} {s s' : ByteArray → PL} (h : PApp P s s') (w : PWF P) (hn : ∀ x, (framed (s x).S).Nodup) : fitsP P s = true := by
  unfold fitsP
  have : (P.Cs.any fun c => !fitsC c.2 (s c.1)) = false := by
    rw [List.any_eq_false]
    intro c hc
    simp [app_fits (h.app c hc) (w.wf c hc) (w.self c hc) (hn c.1)]
  rw [this]
  rfl
theorem Hist.rows {Ps : List PM} {s : ByteArray → PL} (h : Hist Ps s) : ∀ x, (framed (s x).S).Nodup := fun x => nodup_of_map (cids_framed (h.good.1 x) h.noz)
theorem HWt.fits {Q C : List PM} {s : ByteArray → PL} (h : HWt (Q ++ C) s) {st : Nat → Nat → ByteArray → PL} {cnt : Nat → Nat} (hS : Stands (Q ++ C) st cnt) : ∀ k P, C[k]? = some P → fitsP P (st (Q.length + k) 0) = true := by
  intro k P hk
  have hkl := (List.getElem?_eq_some_iff.1 hk).1
  have hp : (Q ++ C)[Q.length + k]? = some P := by
    rw [List.getElem?_append_right (by omega), Nat.add_sub_cancel_left]
    exact hk
  have h1 := h.at_ hS (Q.length + k + 1) (by simp; omega)
  have h0 := h.at_ hS (Q.length + k) (by simp; omega)
  have hh := h1.hist
  rw [List.take_add_one, hp] at hh
  obtain ⟨t, hA, hP, w, _⟩ := Hist.last hh
  have e := h0.uniq (h0.of hA (fun P hP => hP))
  subst e
  exact papp_fits hP w h0.hist.rows
end Go.Proofs.YtgdfipmdmgkidaaGreatDoor

/- Mathematics: the last with its needs stands behind its needs; what is missing stands behind what is here. -/
namespace Go.Proofs.YtgdfipmdmgkidaaGreatDoor
open Go.RowKit
theorem want_more (T : List PM) : ∀ (Y : List (Fin T.length)) (acc : List PM), ∃ R, Y.foldl (wantStep T) acc = acc ++ R ∧ R.Sublist (Y.map fun k => T[k])
  | [], acc => ⟨[], by simp, by simp⟩
  | k :: Y, acc => by
    obtain ⟨R, h1, h2⟩ := want_more T Y (wantStep T acc k)
    rw [List.foldl_cons, h1]
    unfold wantStep
    split
    · exact ⟨T[k] :: R, by simp, by rw [List.map_cons]; exact h2.cons_cons _⟩
    · exact ⟨R, rfl, by rw [List.map_cons]; exact h2.cons _⟩
theorem want_hit (T : List PM) {P : PM} {k : Fin T.length} (hn : needsP P T[k] = true) : ∀ (Y : List (Fin T.length)) (acc R : List PM), P ∈ acc → k ∈ Y → Y.foldl (wantStep T) acc = acc ++ R → T[k] ∈ R := by
  intro Y acc R hP hk h
  obtain ⟨Y1, Y2, rfl⟩ := List.append_of_mem hk
  rw [List.foldl_append, List.foldl_cons] at h
  obtain ⟨R1, e1, _⟩ := want_more T Y1 acc
  rw [e1] at h
  have e2 : wantStep T (acc ++ R1) k = acc ++ R1 ++ [T[k]] := by
    unfold wantStep
    rw [if_pos]
    rw [Bool.or_eq_true]
    exact .inr (List.any_eq_true.2 ⟨P, List.mem_append.2 (.inl hP), hn⟩)
  rw [e2] at h
  obtain ⟨R2, e3, _⟩ := want_more T Y2 (acc ++ R1 ++ [T[k]])
  rw [e3, List.append_assoc, List.append_assoc] at h
  have := List.append_cancel_left h
  rw [← this]
  simp
theorem backs_down (n : Nat) : (backs n).Pairwise fun a b => b.1 < a.1 := by
  unfold backs
  rw [List.pairwise_reverse, List.pairwise_iff_getElem]
  intro i j hi hj hij
  simpa using hij
theorem backs_mem {n : Nat} (k : Fin n) : k ∈ backs n := by
  unfold backs
  simp
theorem want_sub (T : List PM) (pre : List (Fin T.length)) : (wantOf T pre).Sublist (pre.map fun k => T[k]) := by
  obtain ⟨R, h1, h2⟩ := want_more T pre []
  unfold wantOf
  rw [h1]
  exact h2
theorem lastWith_sub (T : List PM) : (lastWith T).Sublist T := by
  have h := (want_sub T (backs T.length)).reverse
  have e : ((backs T.length).map fun k => T[k]).reverse = T := by
    unfold backs
    rw [List.map_reverse, List.reverse_reverse]
    apply List.ext_getElem
    · simp
    · intro i h1 h2
      simp
  rw [e] at h
  exact h
theorem get_inj {T : List PM} (hT : T.Nodup) {i j : Fin T.length} (e : T[i] = T[j]) : i = j := Fin.ext ((List.getElem_inj hT).1 e)
theorem want_split {T : List PM} (hT : T.Nodup) {A C : List PM} {P : PM} (h : wantOf T (backs T.length) = A ++ P :: C) : ∃ i : Fin T.length, T[i] = P ∧ ∀ j : Fin T.length, j.1 < i.1 → needsP P T[j] = true → T[j] ∈ C := by
  have hsub := want_sub T (backs T.length)
  have hPm : P ∈ (backs T.length).map fun k => T[k] := hsub.subset (by rw [h]; simp)
  obtain ⟨i, hi, hiP⟩ := List.mem_map.1 hPm
  refine ⟨i, hiP, fun j hj hn => ?_⟩
  obtain ⟨X, Y, hXY⟩ := List.append_of_mem hi
  have hpw := backs_down T.length
  rw [hXY, List.pairwise_append] at hpw
  have hjY : j ∈ Y := by
    have : j ∈ backs T.length := backs_mem j
    rw [hXY] at this
    rcases List.mem_append.1 this with h1 | h1
    · have := hpw.2.2 j h1 i List.mem_cons_self
      omega
    · rcases List.mem_cons.1 h1 with rfl | h1
      · omega
      · exact h1
  have hnX : P ∉ wantOf T X := fun hm => by
    obtain ⟨k, hk, e⟩ := List.mem_map.1 ((want_sub T X).subset hm)
    have := get_inj hT (e.trans hiP.symm)
    subst this
    have := hpw.2.2 k hk k List.mem_cons_self
    omega
  have e1 : wantOf T (backs T.length) = Y.foldl (wantStep T) (wantStep T (wantOf T X) i) := by
    rw [hXY]
    simp [wantOf]
  obtain ⟨R, e2, hR⟩ := want_more T Y (wantStep T (wantOf T X) i)
  have hnR : P ∉ R := fun hm => by
    obtain ⟨k, hk, e⟩ := List.mem_map.1 (hR.subset hm)
    have := get_inj hT (e.trans hiP.symm)
    subst this
    have := (List.pairwise_cons.1 hpw.2.1).1 k hk
    omega
  have e3 : wantStep T (wantOf T X) i = wantOf T X ++ [P] := by
    have hPin : P ∈ wantStep T (wantOf T X) i := by
      have : P ∈ wantOf T (backs T.length) := by rw [h]; simp
      rw [e1, e2] at this
      rcases List.mem_append.1 this with q | q
      · exact q
      · exact absurd q hnR
    unfold wantStep at hPin ⊢
    split
    · rw [hiP]
    · rename_i hc
      rw [if_neg hc] at hPin
      exact absurd hPin hnX
  rw [e3] at e1 e2
  have hnd : (wantOf T (backs T.length)).Nodup := by
    refine hsub.nodup ?_
    refine List.pairwise_map.2 ((backs_down T.length).imp fun {a b} hab e => ?_)
    have := get_inj hT e
    subst this
    omega
  have e4 : A ++ P :: C = wantOf T X ++ P :: R := by
    rw [← h, e1, e2]
    simp
  rw [h] at hnd
  obtain ⟨_, rfl⟩ := pre_unique hnd e4
  exact want_hit T hn Y _ _ (by simp) hjY e2
theorem behind_iff {S Q : List PM} : Behind S Q ↔ ∀ A P C, Q = A ++ P :: C → ∀ q ∈ S, NeedsP P q → q ∈ A := by
  constructor
  · rintro h A P C rfl q hq hn
    have := h A.length P (by simp) q hq hn
    rwa [List.take_left] at this
  · intro h k P hk q hq hn
    obtain ⟨hl, e⟩ := List.getElem?_eq_some_iff.1 hk
    refine h (Q.take k) P (Q.drop (k + 1)) ?_ q hq hn
    rw [← e, List.getElem_cons_drop, List.take_append_drop]
theorem lastWith_behind {Ps : List PM} {s : ByteArray → PL} (h : Hist Ps s) (n : Nat) : Behind Ps (lastWith (Ps.take n)) := by
  rw [behind_iff]
  intro A P C hL q hq hn
  have hT : (Ps.take n).Nodup := (List.take_sublist n Ps).nodup (hist_nodup h)
  have h1 : wantOf (Ps.take n) (backs (Ps.take n).length) = C.reverse ++ P :: A.reverse := by
    have := congrArg List.reverse hL
    unfold lastWith at this
    rw [List.reverse_reverse] at this
    rw [this]
    simp
  obtain ⟨i, hi, hall⟩ := want_split hT h1
  have hPi : Ps[i.1]? = some P := by
    have h2 : i.1 < min n Ps.length := by simpa using i.2
    rw [← hi, List.getElem?_eq_getElem (by omega)]
    simp
  have hb := h.behind i.1 P hPi q hq hn
  obtain ⟨j, hj⟩ := List.mem_iff_getElem?.1 hb
  rw [List.getElem?_take] at hj
  split at hj
  · rename_i hji
    have hi2 := i.2
    have e : (Ps.take n)[(⟨j, by omega⟩ : Fin (Ps.take n).length)] = q := by
      have := (List.getElem?_eq_some_iff.1 hj).2
      simp [this]
    have := hall ⟨j, by omega⟩ hji (by rw [e]; exact (needs_iff P q).2 hn)
    rw [e] at this
    exact List.mem_reverse.1 this
  · cases hj
theorem lastWith_last {T : List PM} {P : PM} : P ∈ lastWith (T ++ [P]) := by
  unfold lastWith
  rw [List.mem_reverse]
  have hl : (T ++ [P]).length = T.length + 1 := by simp
  obtain ⟨n, hn⟩ : ∃ n, (T ++ [P]).length = n + 1 := ⟨_, hl⟩
  have e0 : backs (T ++ [P]).length = (backs (T ++ [P]).length).take 1 ++ (backs (T ++ [P]).length).drop 1 := (List.take_append_drop 1 _).symm
  have e1 : (backs (T ++ [P]).length).take 1 = [⟨(T ++ [P]).length - 1, by omega⟩] := by
    have := backs_take (T ++ [P]).length 0 (by omega)
    simpa using this
  rw [e1] at e0
  rw [e0]
  show P ∈ List.foldl (wantStep (T ++ [P])) [] ([⟨(T ++ [P]).length - 1, by omega⟩] ++ (backs (T ++ [P]).length).drop 1)
  rw [List.foldl_append]
  obtain ⟨R, e2, _⟩ := want_more (T ++ [P]) ((backs (T ++ [P]).length).drop 1) (List.foldl (wantStep (T ++ [P])) [] [⟨(T ++ [P]).length - 1, by omega⟩])
  rw [e2]
  refine List.mem_append.2 (.inl ?_)
  simp [wantStep]
theorem here_iff {Ps Q : List PM} (hnd : (Ps.map (·.id)).Nodup) (hQ : ∀ P ∈ Q, P ∈ Ps) {P : PM} (hP : P ∈ Ps) : hereB Q P = true ↔ P ∈ Q := by
  unfold hereB
  rw [List.any_eq_true]
  constructor
  · rintro ⟨R, hR, e⟩
    have e : R.id = P.id := by simpa using e
    obtain ⟨a, ha, ha'⟩ := List.getElem_of_mem (hQ R hR)
    obtain ⟨b, hb, hb'⟩ := List.getElem_of_mem hP
    have hab : a = b := by
      have h1 : (Ps.map (·.id))[a]'(by simpa using ha) = (Ps.map (·.id))[b]'(by simpa using hb) := by simp [ha', hb', e]
      exact (List.getElem_inj hnd).1 h1
    subst hab
    rw [← hb', ha']
    exact hR
  · intro h
    exact ⟨P, h, by simp⟩
def missP (Q O : List PM) : List PM := O.filter fun P => !hereB Q P
theorem miss_behind {Ps Q O : List PM} (hnd : (Ps.map (·.id)).Nodup) (hQ : ∀ P ∈ Q, P ∈ Ps) (_hO : ∀ P ∈ O, P ∈ Ps) (bQ : Behind Ps Q) (bO : Behind Ps O) : Behind Ps (Q ++ missP Q O) := by
  rw [behind_iff] at bQ bO ⊢
  intro A P C h q hq hn
  rcases List.append_eq_append_iff.1 h with ⟨A', e1, e2⟩ | ⟨C', e1, e2⟩
  · -- the patch comes
    subst e1
    obtain ⟨L1, L2, e3, e4, e5⟩ := List.filter_eq_append_iff.1 e2
    obtain ⟨M1, M2, e6, e7, e8, e9⟩ := List.filter_eq_cons_iff.1 e5
    have hO' : O = (L1 ++ M1) ++ P :: M2 := by rw [e3, e6]; simp
    have hqm := bO (L1 ++ M1) P M2 hO' q hq hn
    by_cases hh : q ∈ Q
    · exact List.mem_append.2 (.inl hh)
    · refine List.mem_append.2 (.inr ?_)
      have hf : hereB Q q = false := by
        cases hc : hereB Q q with
        | false => rfl
        | true => exact absurd ((here_iff hnd hQ hq).1 hc) hh
      rcases List.mem_append.1 hqm with k | k
      · rw [← e4]
        exact List.mem_filter.2 ⟨k, by simp [hf]⟩
      · have := e7 q k
        simp [hf] at this
  · cases C' with
    | nil =>
      rw [List.append_nil] at e1
      subst e1
      simp only [List.nil_append] at e2
      -- P is the first that comes
      obtain ⟨M1, M2, e6, e7, e8, e9⟩ := List.filter_eq_cons_iff.1 e2.symm
      have hqm := bO M1 P M2 e6 q hq hn
      have := e7 q hqm
      have hc : hereB Q q = true := by simpa using this
      exact (here_iff hnd hQ hq).1 hc
    | cons y C' =>
      rw [List.cons_append] at e2
      injection e2 with e3 e4
      subst e3
      exact bQ A P C' e1 q hq hn
theorem miss_nodup {Q O : List PM} (hQ : Q.Nodup) (hO : O.Nodup) : (Q ++ missP Q O).Nodup := by
  rw [List.nodup_append]
  refine ⟨hQ, hO.filter _, fun a ha b hb e => ?_⟩
  subst e
  have := (List.mem_filter.1 hb).2
  have hh : hereB Q a = true := List.any_eq_true.2 ⟨a, ha, by simp⟩
  rw [hh] at this
  cases this
theorem miss_all {Ps Q O : List PM} (hnd : (Ps.map (·.id)).Nodup) (hQ : ∀ P ∈ Q, P ∈ Ps) (hO : ∀ P ∈ O, P ∈ Ps) : ∀ P ∈ O, P ∈ Q ++ missP Q O := fun P hP => by
  by_cases h : P ∈ Q
  · exact List.mem_append.2 (.inl h)
  · refine List.mem_append.2 (.inr (List.mem_filter.2 ⟨hP, ?_⟩))
    cases hc : hereB Q P with
    | false => rfl
    | true => exact absurd ((here_iff hnd hQ (hO P hP)).1 hc) h
theorem HWt.took {Ps Q O : List PM} {s t : ByteArray → PL} (h : HWt Ps s) (hQ : HWt Q t) (hs : ∀ P ∈ Q, P ∈ Ps) (hB : Behind Ps Q) (bO : Behind Ps O) (hO : ∀ P ∈ O, P ∈ Ps) (hOn : O.Nodup) :
    ∃ t', HWt (Q ++ missP Q O) t' ∧ (∀ P ∈ Q ++ missP Q O, P ∈ Ps) ∧ Behind Ps (Q ++ missP Q O) ∧ ((∀ P ∈ Ps, P ∈ O) → t' = s ∧ (Q ++ missP Q O).Perm Ps) := by
  have hsub : ∀ P ∈ Q ++ missP Q O, P ∈ Ps := fun P hP => by
    rcases List.mem_append.1 hP with k | k
    · exact hs P k
    · exact hO P (List.mem_filter.1 k).1
  have hbe := miss_behind h.hist.nd hs hO hB bO
  have hndp := miss_nodup (hist_nodup hQ.hist) hOn
  obtain ⟨X, hX, hp⟩ := h.hist.brought hndp hsub hbe
  obtain ⟨t', h1, h2⟩ := hX.pre
  refine ⟨t', h.of h1 hsub, hsub, hbe, fun hall => ?_⟩
  have hXe : X = [] := by
    cases X with
    | nil => rfl
    | cons x X =>
      exfalso
      have hx : x ∈ Ps := hp.mem_iff.1 (by simp)
      have hx2 := miss_all h.hist.nd hs hO x (hall x hx)
      have hnd := hist_nodup hX
      exact (List.nodup_append.1 hnd).2.2 x hx2 x List.mem_cons_self rfl
  subst hXe
  rw [List.append_nil] at hp
  exact ⟨h2.symm, hp⟩
end Go.Proofs.YtgdfipmdmgkidaaGreatDoor

/- strconv.Atoi at a digit. -/
set_option maxHeartbeats 1600000
set_option maxRecDepth 100000
namespace Go.Proofs.YtgdfipmdmgkidaaGreatDoor
open Go.RowKit
theorem atoi193_digit (b : UInt8) (n : Nat) (hn : n ≤ 9) (hb : b.toNat = 48 + n) (w : World) : Calls Tryz.prog 193 #[.string ⟨#[b]⟩] w fun e w' => e = .returned (.tuple #[.int .i64 n, .nilIface]) ∧ Below w.heap.size w w' := by
  have hcv := Lib.run_convert_string_bytes (P := Tryz.prog) w 9 156 5 ⟨#[b]⟩ (u := .string) Tryz.underlying9 Tryz.underlying156 Tryz.underlying5
  have hB : (Lib.bytesWorld w 5 ⟨#[b]⟩).cell? ⟨w.heap.size, 0, none⟩ = some (.int .u8 b.toNat) := Lib.bytesWorld_cell w 5 ⟨#[b]⟩ 0 (by show 0 < 1; omega)
  have hbw := Lib.bytesWorld_below w 5 ⟨#[b]⟩
  obtain ⟨W1, hW1⟩ : ∃ W1, W1 = Lib.bytesWorld w 5 ⟨#[b]⟩ := ⟨_, rfl⟩
  rw [← hW1] at hcv hB hbw
  have hsz : (⟨#[b]⟩ : ByteArray).size = 1 := rfl
  rw [hsz] at hcv
  have hb0 : ((⟨#[b]⟩ : ByteArray)[0]'(by show 0 < 1; omega)).toNat = 48 + n := hb
  have hx0 : (⟨#[b]⟩ : ByteArray)[0]'(by show 0 < 1; omega) = b := rfl
  rw [hb] at hB
  clear hW1
  have q1 : ((48 : Int) + (n : Int) == 45) = false := by rw [beq_eq_false_iff_ne]; omega
  have q2 : ((48 : Int) + (n : Int) == 43) = false := by rw [beq_eq_false_iff_ne]; omega
  go_enter Tryz.func193, Tryz.ntmps193
  go_wp2
  go_loop [49, 6] (fun vi vn => (vi = .int .i64 0 ∧ vn = .int .i64 0) ∨ (vi = .int .i64 1 ∧ vn = .int .i64 n)) (fun vi _ => 1 - (RowKit.intOf vi).toNat)
  case atStart => exact .inl ⟨rfl, rfl⟩
  case round =>
    rcases hrel with ⟨rfl, rfl⟩ | ⟨rfl, rfl⟩
    · go_wp2
      go_round
      case rel => exact .inr ⟨rfl, by go_num⟩
      case measure => simp [RowKit.intOf]
    · go_wp2
      go_ret2
      exact ⟨rfl, hbw⟩
theorem atoi131_digit (b : UInt8) (n : Nat) (hn : n ≤ 9) (hb : b.toNat = 48 + n) (w : World) : Calls Tryz.prog 131 #[.string ⟨#[b]⟩] w fun e w' => e = .returned (.tuple #[.int .i64 n, .nilIface]) ∧ Below w.heap.size w w' := by
  have HA := hid (atoi193_digit b n hn hb w)
  go_enter Tryz.func131, Tryz.ntmps131
  go_wp2_with fail
  refine HA.out.mono ?_
  rintro e w1 ⟨rfl, hb1⟩
  clear HA
  go_wp2
  go_ret2
  exact ⟨rfl, hb1⟩
end Go.Proofs.YtgdfipmdmgkidaaGreatDoor

/- pull: a repository takes of another what it has not. -/
set_option maxRecDepth 100000
namespace Go.Proofs.YtgdfipmdmgkidaaGreatDoor
open Go.RowKit
section
variable {w : World} {B pb rg : Nat} {cap : Cfg} {gb : Nat} {pv : Value} {Ps : List PM} {fb fn : Nat} {f : ByteArray → Option ByteArray} {G : List Pid}
theorem has42_at (h : OneAt w B pb rg cap gb pv Ps fb fn f G) {d : Nat} (hd : d < cap.nr) : Calls Tryz.prog 42 #[.pointer (some ⟨pb, 0, none⟩), .int .i64 d] w fun e w' => e = .returned (.bool true) ∧ w' = w := by
  have c0 := h.c0
  have h1 : (d : Int) < (cap.nr : Int) := by omega
  clear h
  go_enter Tryz.func42, Tryz.ntmps42
  go_wp2
  go_ret
  exact ⟨rfl, rfl⟩
set_option maxHeartbeats 3200000 in
theorem pull76_any (h : OneAt w B pb rg cap gb pv Ps fb fn f G) (hPl : Ps.length ≤ 1000) (d : Nat) (hd : d < cap.nr) (hd9 : d ≤ 9) (b : UInt8) (hb : b.toNat = 48 + d) (na : Option Addr) (nn nc : Nat) (O : List PM) (hOl : O.length ≤ 1000) (Q : ByteArray → Int → World → Prop)
    (hO : ∀ u, Below w.heap.size w u → Calls Tryz.prog 132 #[.pointer (some ⟨rg, d * 2, none⟩), .slice na nn nc] u fun e w' => ∃ ov, e = .returned (.tuple #[ov, .int .i64 0]) ∧ PV w' ov O ∧ Below u.heap.size u w')
    (hT : ∀ u v, Below w.heap.size w u → u.ownsRow w.heap.size 149 5 v (O.filter fun P => !hereB Ps P).length (pmCells (O.filter fun P => !hereB Ps P)) → (∀ P ∈ O, CV u P.cv P.Cs) → Calls Tryz.prog 133 #[.pointer (some ⟨rg, cap.r * 2, none⟩), v] u fun e w' => ∃ T c, e = .returned (.tuple #[.string T, .int .i64 c]) ∧ Q T c w') :
    Calls Tryz.prog 76 #[.pointer (some ⟨pb, 0, none⟩), .pointer (some ⟨rg, cap.r * 2, none⟩), .string ⟨#[b]⟩, .slice na nn nc] w fun e w' => ∃ T c, e = .returned (.tuple #[.string T, .int .i64 c]) ∧ Q T c w' := by
  have HA := hid (atoi131_digit b d hd9 hb w)
  have HH := hid h
  have HO := hid hO
  have HT := hid hT
  have hcap := h.cap1
  have q1 : (d : Int) < (cap.nr : Int) := by omega
  have q2 : (d : Int) ≤ 9 := by omega
  have q3 : (cap.nr : Int) ≤ 1000 := by omega
  clear h hO hT hcap
  go_enter Tryz.func76, Tryz.ntmps76
  go_wp2_with fail
  refine HA.out.mono ?_
  rintro e w1 ⟨rfl, hb1⟩
  clear HA
  have H1 := hid (HH.out.below hb1)
  have HS := hid (has42_at H1.out hd)
  go_wp2_with fail
  refine HS.out.mono ?_
  rintro e w1' ⟨rfl, rfl⟩
  clear HS
  have c0 := H1.out.c0
  have HO1 := hid (HO.out _ hb1)
  clear HO
  go_wp2_with fail
  refine HO1.out.mono ?_
  rintro e w2 ⟨ov, rfl, hov, hb2⟩
  clear HO1 c0
  have hb02 : Below w.heap.size w w2 := hb1.trans (hb2.mono hb1.size)
  have H2 := hid (HH.out.below hb02)
  have HM : Hid (Calls Tryz.prog 134 #[.pointer (some ⟨rg, cap.r * 2, none⟩), ov] w2 fun e w' => ∃ v, e = .returned v ∧ Calls Tryz.prog 133 #[.pointer (some ⟨rg, cap.r * 2, none⟩), v] w' fun e w' => ∃ T c, e = .returned (.tuple #[.string T, .int .i64 c]) ∧ Q T c w') := by
    refine (miss134_any O Ps ov pv rg (cap.r * 2) w2 hov (by omega) H2.out.view (by omega) H2.out.r0 H2.out.lts.2.1).mono ?_
    rintro e w' ⟨v, rfl, hown, hb3⟩
    exact ⟨v, rfl, HT.out w' v (hb02.trans (hb3.mono hb02.size)) (own_mono hown hb02.size) (fun P hP => (hov.cv hP).below hb3 (Nat.le_refl _))⟩
  obtain ⟨oa, oc, rfl, -⟩ := hov
  clear HT H1 H2 HH hb2
  go_wp2_with fail
  refine HM.out.mono ?_
  rintro e w3 ⟨v, rfl, hN⟩
  have HN := hid hN
  clear HM hN
  go_wp2_with fail
  refine HN.out.mono ?_
  rintro e w4 ⟨T, c, rfl, hq⟩
  clear HN
  go_wp2
  go_ret2
  exact ⟨T, c, rfl, hq⟩
end
end Go.Proofs.YtgdfipmdmgkidaaGreatDoor
