/- The walk of the statement Ordered. -/
import Derived.Test.YtgdfipmdmgkidaaGreatDoorUdo2
import Derived.Test.YtgdfipmdmgkidaaGreatDoorUkf
import Derived.Test.YtgdfipmdmgkidaaGreatDoorUwr
import Derived.Deep.QuietTactic
import Derived.BigQuiet
namespace Go.Proofs.YtgdfipmdmgkidaaGreatDoor
open Go.RowKit

theorem Least.perm {S S' O : List PM} {N : PM → PM → Prop} (h : Least S N O) (hp : S'.Perm S) : Least S' N O := fun k P hk =>
  ⟨fun q hq hn => (h k P hk).1 q (hp.mem_iff.1 hq) hn, fun Q hQ hno hn => (h k P hk).2 Q (hp.mem_iff.1 hQ) hno (fun q hq => hn q (hp.mem_iff.2 hq))⟩
theorem idText_nth : ∀ n ∈ List.range 42, idText (idN n) = idW n := by decide +kernel
theorem same21_any {Z : List ByteArray} {k : Nat} (hz : Z.length = k) {ao bo : Option Addr} {ca cb A B : Nat} {w : World} (ha : w.ownsRow A 9 1 (.slice ao k ca) k (strs Z)) (hb : w.ownsRow B 9 1 (.slice bo k cb) k (strs Z)) (hl : k ≤ 1000000) :
    Calls Tryz.prog 21 #[.slice ao k ca, .slice bo k cb] w fun e w' => e = .returned (.bool true) ∧ Below w.heap.size w w' := by
  subst hz
  refine (ksame16_any Z ao bo ca cb A B w ha hb hl).mono ?_
  rintro e w' ⟨rfl, q, rfl⟩
  exact ⟨rfl, below_drewN (Below.refl _ _) q⟩
def texts (X : List PM) : List ByteArray := (X.map (·.id)).map idText
theorem texts_len (X : List PM) : (texts X).length = X.length := by simp [texts]
theorem texts_at {X : List PM} {k : Nat} {P : PM} (h : X[k]? = some P) : (texts X)[k]? = some (idText P.id) := by
  unfold texts
  rw [List.getElem?_map, List.getElem?_map, h]
  rfl
theorem ids_nth {Ps : List PM} {n : Nat} (h : Ps.map (·.id) = idsTo n) {P : PM} (hP : P ∈ Ps) : ∃ m, m < n ∧ P.id = idN m := by
  have h1 : P.id ∈ idsTo n := by rw [← h]; exact List.mem_map.2 ⟨P, hP, rfl⟩
  unfold idsTo at h1
  obtain ⟨m, hm, e⟩ := List.mem_map.1 h1
  rw [List.mem_range'] at hm
  obtain ⟨i, hi, rfl⟩ := hm
  exact ⟨_, by omega, e.symm⟩
theorem idText_inj {i j : Pid} (hi : IdOK i) (hj : IdOK j) (h : idText i = idText j) : i = j := by
  have h1 := id_lt hi hj
  have h2 := id_lt hj hi
  rw [h] at h1 h2
  refine pkey_inj hi hj ?_
  have h3 : Op.bytesLess (idText j).toList (idText j).toList = false := by
    rw [id_lt hj hj]
    simp
  rw [h3] at h1 h2
  have h4 := of_decide_eq_false h1.symm
  have h5 := of_decide_eq_false h2.symm
  omega
/-- What the walk reads ahead of a swap. -/
structure OwS (rb pb lb i : Nat) (x : ByteArray) (w : World) : Prop where
  r : w.cell? ⟨rb, 0, none⟩ = some (.pointer (some ⟨pb, 0, none⟩))
  c : w.cell? ⟨lb, i, none⟩ = some (.string x)

/-- What holds between two changes of places. -/
structure OwI (w wr : World) (B rb pb rg cap gb fb n m : Nat) (Ps O X : List PM) (f : ByteArray → Option ByteArray) (s : ByteArray → PL) (B1 B2 lb lc kc : Nat) (ka : Option Addr) (Y : List ByteArray) : Prop where
  rg : RG wr B rb pb rg cap gb fb n X f s (idsTo n)
  perm : X.Perm Ps
  ord : wr.ownsRow B2 9 1 (.slice (some ⟨lb, 0, none⟩) m lc) m (strs (texts O))
  kept : wr.ownsRow B1 9 1 (.slice ka Y.length kc) Y.length (strs Y)
  below : Below w.heap.size w wr
section
variable {w wr wr' : World} {B rb pb rg cap gb fb n m : Nat} {Ps O X : List PM} {f : ByteArray → Option ByteArray} {s : ByteArray → PL} {B1 B2 lb lc kc : Nat} {ka : Option Addr} {Y : List ByteArray}
theorem OwI.to (h : OwI w wr B rb pb rg cap gb fb n m Ps O X f s B1 B2 lb lc kc ka Y) (hb : Below wr.heap.size wr wr') : OwI w wr' B rb pb rg cap gb fb n m Ps O X f s B1 B2 lb lc kc ka Y :=
  ⟨h.rg.below hb, h.perm, own_below h.ord hb (Nat.le_refl _), own_below h.kept hb (Nat.le_refl _), h.below.trans (hb.mono h.below.size)⟩
theorem OwI.moved {X' : List PM} (h : OwI w wr B rb pb rg cap gb fb n m Ps O X f s B1 B2 lb lc kc ka Y) (hu : UW wr' B pb rg cap gb fb X' f s (idsTo n)) (hh : HeldT kin wr wr') (hB : Below B wr wr') (hBw : w.heap.size ≤ B) (hp : X'.Perm Ps) : OwI w wr' B rb pb rg cap gb fb n m Ps O X' f s B1 B2 lb lc kc ka Y :=
  ⟨⟨hu, (hh.keep _ _ ⟨_, _, h.rg.run⟩ (.inr rfl)).trans h.rg.run⟩, hp, own_heldT h.ord hh (.inl rfl), own_heldT h.kept hh (.inl rfl), h.below.trans (hB.mono hBw)⟩
theorem OwI.at_ (h : OwI w wr B rb pb rg cap gb fb n m Ps O X f s B1 B2 lb lc kc ka Y) {i : Nat} {P : PM} (hP : O[i]? = some P) (hi : i < m) : OwS rb pb lb i (idText P.id) wr := ⟨(run_at h.rg.run).c0, by
  rw [h.ord.cellAt i (by omega)]
  unfold strs
  rw [List.getElem?_map, texts_at hP]
  rfl⟩
end
theorem texts_cell {w : World} {BL g c m : Nat} {X : List PM} (h : w.ownsRow BL 9 1 (.slice (some ⟨g, 0, none⟩) m c) m (strs (texts X))) {k : Nat} {P : PM} (hP : X[k]? = some P) (hk : k < m) : w.cell? ⟨g, k, none⟩ = some (.string (idText P.id)) := by
  rw [h.cellAt k (by omega)]
  unfold strs
  rw [List.getElem?_map, texts_at hP]
  rfl

set_option maxRecDepth 100000 in
set_option maxHeartbeats 12800000 in
theorem ordered9_any (w : World) (L : List Ed) (so : Option Addr) (sc : Nat) (hL : EdsAt w w.heap.size so L) (hok : ∀ p ∈ L, EdOK p) (hlen : L.length ≤ 9223372036854775807) :
    Calls Tryz.prog 9 #[.slice so L.length sc] w fun e w' => e = .returned (.bool true) ∧ Below w.heap.size w w' := by
  have HBG := hid (begun_any w L so sc hL hok hlen)
  clear hL hok hlen
  go_enter Tryz.func9, Tryz.ntmps9
  go_wp2_with fail
  refine HBG.out.mono ?_
  rintro e w1 ⟨rb, rfl, hbg⟩
  clear HBG
  obtain ⟨B, pb, rg, cap, gb, fb, n, Ps, f, s, hBw, hn3, h1, -⟩ := hbg.st
  have hb1 := hbg.below
  clear hbg
  have hPl : Ps.length = n - 1 := by
    have := congrArg List.length h1.ids
    rw [List.length_map, idsTo_len] at this
    exact this
  have hn41 := h1.hi
  obtain ⟨O, hOP, hOL⟩ := greedy_ex (nodup_of_ids h1.uw.fs.ids) h1.uw.early
  have HB1 := hid hb1
  have HH1 := hid h1
  have HOP := hid hOP
  have HOL := hid hOL
  have HNP := hid (nodup_of_ids h1.uw.fs.ids)
  have HNO := hid (hOP.nodup_iff.2 HNP.out)
  have HID : Hid (∀ P ∈ Ps, ∃ m, m < n ∧ P.id = idN m) := fun P hP => ids_nth h1.ids hP
  have HIO : Hid (∀ P ∈ Ps, IdOK P.id) := fun P hP => by
    obtain ⟨m, _, e⟩ := ids_nth h1.ids hP
    rw [e]
    exact idN_ok m
  obtain ⟨m, hm⟩ : ∃ m, Ps.length = m := ⟨_, rfl⟩
  have HPM := hid hm
  have hm2 : 2 ≤ m := by omega
  have hm40 : m ≤ 40 := by omega
  have HOM : Hid ((texts O).length = m) := by show _ = _; rw [texts_len, hOP.length_eq, hm]
  have HLM : Hid ((texts Ps).length = m) := by show _ = _; rw [texts_len, hm]
  obtain ⟨Y, hY⟩ : ∃ Y, keptX s 3 = Y := ⟨_, rfl⟩
  have HY := hid hY
  have hYl : Y.length = 3 := by rw [← hY]; exact keptX_len s 3
  have HK2 : Hid (∀ (u : World) (X : List PM), RG u B rb pb rg cap gb fb n X f s (idsTo n) → Calls Tryz.prog 26 #[.pointer (some ⟨rb, 0, none⟩), .int .i64 0] u fun e w' => ∃ v, e = .returned v ∧ w'.ownsRow u.heap.size 9 1 v Y.length (strs Y) ∧ Below u.heap.size u w') := fun u X hu => by
    have := run_kept hu
    rw [hY] at this
    exact this
  have HLG : Hid (∀ (u : World) (X : List PM), RG u B rb pb rg cap gb fb n X f s (idsTo n) → X.Perm Ps → Calls Tryz.prog 27 #[.pointer (some ⟨rb, 0, none⟩), .int .i64 0, .string ⟨#[108, 111, 103]⟩] u fun e w' => ∃ v, e = .returned (.tuple #[v, .bool true]) ∧ w'.ownsRow u.heap.size 9 1 v m (strs (texts X)) ∧ Below u.heap.size u w') := fun u X hu hX => by
    have := run_ids hu wdLog (X.map (·.id)) (by rw [List.length_map, hX.length_eq]; omega) hu.uw.log
    have e : ((X.map (·.id)).map idText).length = m := by rw [List.length_map, List.length_map, hX.length_eq, hm]
    rw [e] at this
    exact this
  have HOR : Hid (∀ (u : World) (X : List PM), RG u B rb pb rg cap gb fb n X f s (idsTo n) → X.Perm Ps → Calls Tryz.prog 27 #[.pointer (some ⟨rb, 0, none⟩), .int .i64 0, .string ⟨#[111, 114, 100, 101, 114]⟩] u fun e w' => ∃ v, e = .returned (.tuple #[v, .bool true]) ∧ w'.ownsRow u.heap.size 9 1 v m (strs (texts O)) ∧ Below u.heap.size u w') := fun u X hu hX => by
    have := run_ids hu wdOrder (O.map (·.id)) (by rw [List.length_map, hOP.length_eq]; omega) (hu.uw.order (fun P hP => HIO.out P (hX.mem_iff.1 hP)) (hOP.trans hX.symm) (hOL.perm hX))
    have e : ((O.map (·.id)).map idText).length = m := by rw [List.length_map, List.length_map, hOP.length_eq, hm]
    rw [e] at this
    exact this
  have HG1 := hid h1.rg_
  have HK1 := HK2.out w1 Ps h1.rg_
  have HKK := hid HK1
  clear h1 hb1 hOP hOL hm HK1 hY hPl
  go_wp2_with fail
  refine HKK.out.mono ?_
  rintro e w2 ⟨v2, rfl, ho2, hb2⟩
  clear HKK
  obtain ⟨ka, kc, rfl⟩ := own_shape ho2
  have HO2 := hid ho2
  have HG2 := hid (HG1.out.below hb2)
  have HB2 : Hid (Below w.heap.size w w2) := HB1.out.trans (hb2.mono HB1.out.size)
  have HOO : Hid (Calls Tryz.prog 27 #[.pointer (some ⟨rb, 0, none⟩), .int .i64 0, .string ⟨#[111, 114, 100, 101, 114]⟩] w2 fun e w' => ∃ v, e = .returned (.tuple #[v, .bool true]) ∧ w'.ownsRow w2.heap.size 9 1 v m (strs (texts O)) ∧ Below w2.heap.size w2 w') := HOR.out w2 Ps HG2.out (List.Perm.refl _)
  clear ho2 hb2 HG1 HB1
  go_wp2_with fail
  refine HOO.out.mono ?_
  rintro e w3 ⟨v3, rfl, ho3, hb3⟩
  clear HOO
  obtain ⟨la, lc, rfl⟩ := own_shape ho3
  obtain ⟨lb, hlb, _, hlbs⟩ := own_at ho3 (by omega)
  subst hlb
  have HO3 := hid ho3
  have HK3 : Hid (w3.ownsRow w1.heap.size 9 1 (.slice ka Y.length kc) Y.length (strs Y)) := own_below HO2.out hb3 (Nat.le_refl _)
  have HG3 := hid (HG2.out.below hb3)
  have HB3 : Hid (Below w.heap.size w w3) := HB2.out.trans (hb3.mono HB2.out.size)
  have HLL : Hid (Calls Tryz.prog 27 #[.pointer (some ⟨rb, 0, none⟩), .int .i64 0, .string ⟨#[108, 111, 103]⟩] w3 fun e w' => ∃ v, e = .returned (.tuple #[v, .bool true]) ∧ w'.ownsRow w3.heap.size 9 1 v m (strs (texts Ps)) ∧ Below w3.heap.size w3 w') := HLG.out w3 Ps HG3.out (List.Perm.refl _)
  clear ho3 hb3 HG2 HB2 HO2 hlbs
  go_wp2_with fail
  refine HLL.out.mono ?_
  rintro e w4 ⟨v4, rfl, ho4, hb4⟩
  clear HLL
  obtain ⟨ga, gc, rfl⟩ := own_shape ho4
  obtain ⟨lg, hlg, _, _⟩ := own_at ho4 (by omega)
  subst hlg
  have HL4 := hid ho4
  have HO4 : Hid (w4.ownsRow w2.heap.size 9 1 (.slice (some ⟨lb, 0, none⟩) m lc) m (strs (texts O))) := own_below HO3.out hb4 (Nat.le_refl _)
  have HK4 : Hid (w4.ownsRow w1.heap.size 9 1 (.slice ka Y.length kc) Y.length (strs Y)) := own_below HK3.out hb4 (Nat.le_refl _)
  have HG4 := hid (HG3.out.below hb4)
  have HB4 : Hid (Below w.heap.size w w4) := HB3.out.trans (hb4.mono HB3.out.size)
  clear ho4 hb4 HG3 HB3 HO3 HK3
  have g1 : ¬ (m : Int) < 2 := by omega
  have HI4 : Hid (OwI w w4 B rb pb rg cap gb fb n m Ps O Ps f s w1.heap.size w2.heap.size lb lc kc ka Y) := ⟨HG4.out, List.Perm.refl _, HO4.out, HK4.out, HB4.out⟩
  obtain ⟨B1, hB1⟩ : ∃ B1, w1.heap.size = B1 := ⟨_, rfl⟩
  obtain ⟨B2, hB2⟩ : ∃ B2, w2.heap.size = B2 := ⟨_, rfl⟩
  obtain ⟨B3, hB3⟩ : ∃ B3, w3.heap.size = B3 := ⟨_, rfl⟩
  rw [hB1, hB2] at HI4
  rw [hB3] at HL4
  clear HG4 HO4 HK4 HB4 HH1 hB1 hB2 hB3
  go_wp2_with fail
  go_loopw [7, 9] (fun lgv x wr => ∃ (k : Nat) (X : List PM) (lg gc BL : Nat), k ≤ m ∧ x = .int .i64 k ∧ lgv = .slice (some ⟨lg, 0, none⟩) m gc ∧ Hid (OwI w wr B rb pb rg cap gb fb n m Ps O X f s B1 B2 lb lc kc ka Y) ∧ Hid (X.take k = O.take k) ∧ Hid (wr.ownsRow BL 9 1 (.slice (some ⟨lg, 0, none⟩) m gc) m (strs (texts X)))) (fun _ x _ => m - (intOf x).toNat)
  case atStart => exact ⟨0, Ps, lg, gc, B3, Nat.zero_le _, rfl, rfl, HI4, (by show _ = _; simp), HL4⟩
  case round =>
    clear HI4 HL4
    obtain ⟨k, X, lg, gc, BL, hk, rfl, rfl, HI, HT, HL⟩ := hrel
    by_cases hkm : k < m
    · obtain ⟨P, hP⟩ : ∃ P, O[k]? = some P := ⟨_, List.getElem?_eq_getElem (by have := HOM.out; rw [texts_len] at this; omega)⟩
      obtain ⟨k0, hk0⟩ := ord_at HI.out.perm HOP.out HNO.out HT.out hP
      have HP := hid hP
      have HX0 := hid hk0
      have hXl : X.length = m := by rw [HI.out.perm.length_eq, HPM.out]
      have hkk : k + k0 < m := by rw [← hXl]; exact (List.getElem?_eq_some_iff.1 hk0).1
      have hPm : P ∈ Ps := HOP.out.mem_iff.1 (List.mem_of_getElem? hP)
      have hgc := row_cap HL.out
      have hw1 := HI.out.at_ hP hkm
      have HPL : Hid (∀ u : World, u.heap = wr.heap → Calls Tryz.prog 32 #[.slice (some ⟨lg, k, none⟩) (m - k) (gc - k), .string (idText P.id)] u fun e w' => e = .returned (.int .i64 k0) ∧ w' = u) := fun u hu => by
        have hc : ∀ j y, ((texts X).drop k)[j]? = some y → u.cell? ⟨lg, k + j, none⟩ = some (.string y) := fun j y hy => by
          rw [List.getElem?_drop] at hy
          have hjl := (List.getElem?_eq_some_iff.1 hy).1
          rw [texts_len, hXl] at hjl
          have e1 : u.cell? ⟨lg, k + j, none⟩ = wr.cell? ⟨lg, k + j, none⟩ := by simp [World.cell?, hu]
          rw [e1, HL.out.cellAt (k + j) (by omega)]
          unfold strs
          rw [List.getElem?_map, hy]
          rfl
        have := place32_any ((texts X).drop k) lg k (gc - k) k0 (idText P.id) u hc (by rw [List.length_drop, texts_len]; omega) (by rw [List.getElem?_drop]; exact texts_at hk0) (fun j hj e => by
          rw [List.getElem?_drop] at e
          have hjl : k + j < X.length := by omega
          have hR := List.getElem?_eq_getElem hjl
          rw [texts_at hR] at e
          have e2 : idText X[k + j].id = idText P.id := by simpa using e
          have e3 := idText_inj (HIO.out _ (HI.out.perm.mem_iff.1 (List.getElem_mem hjl))) (HIO.out P hPm) e2
          have e4 := id_inj HI.out.rg.uw.fs.ids hR hk0 e3
          omega)
        rw [List.length_drop, texts_len, hXl] at this
        exact this
      obtain ⟨xq, hxq⟩ : ∃ xq, idText P.id = xq := ⟨_, rfl⟩
      have HXQ := hid hxq
      rw [hxq] at hw1 HPL
      obtain ⟨r0, c0⟩ := hw1
      have j1 : (k : Int) ≤ (m : Int) := by omega
      have j2 : (k : Int) < (m : Int) := by omega
      have j3 : ((m : Int) - (k : Int)).toNat = m - k := by omega
      have HPMm := hid hPm
      clear hP hk0 hxq hPm
      go_wp2_with fail
      go_quiet (first | (go_at_call 32; exact Calls.quiet_of_same (HPL.out _ rfl)))
      have HI5 : Hid (OwI w (wr.drewN nq) B rb pb rg cap gb fb n m Ps O X f s B1 B2 lb lc kc ka Y) := HI.out.to (below_drewN (Below.refl _ _) nq)
      generalize wr.drewN nq = w5 at *
      clear HI HL HPL r0 c0
      have kk1 : ¬ ((k0 : Int) < 0) := by omega
      go_wp2_with fail
      go_loopw [10] (fun x wr => ∃ (j : Nat) (X : List PM), k + j < m ∧ x = .int .i64 j ∧ Hid (OwI w wr B rb pb rg cap gb fb n m Ps O X f s B1 B2 lb lc kc ka Y) ∧ Hid (X.take k = O.take k) ∧ Hid (X[k + j]? = some P)) (fun x _ => (intOf x).toNat)
      case atStart => exact ⟨k0, X, hkk, rfl, HI5, HT, HX0⟩
      case round =>
        clear HI5 HT HX0 hkk hXl hgc
        obtain ⟨j, X, hjm, rfl, HI, HT, HX0⟩ := hrel
        cases j with
        | zero =>
          have hg := HI.out.rg
          have HLL := hid (HLG.out wr X hg HI.out.perm)
          clear hg
          go_wp2_with fail
          refine HLL.out.mono ?_
          rintro e w6 ⟨v6, rfl, ho6, hb6⟩
          clear HLL
          obtain ⟨na, nc, rfl⟩ := own_shape ho6
          obtain ⟨nb, hnb, _, _⟩ := own_at ho6 (by omega)
          subst hnb
          have HI6 := hid (HI.out.to hb6)
          have c1 : w6.cell? ⟨nb, k, none⟩ = some (.string xq) := by rw [texts_cell (k := k) ho6 HX0.out hkm, HXQ.out]
          have c2 : w6.cell? ⟨lb, k, none⟩ = some (.string xq) := by rw [(HI6.out.at_ HP.out hkm).c, HXQ.out]
          have HO6 := hid ho6
          clear ho6 hb6 HI
          go_wp2_with fail
          go_quiet (fail)
          have HI7 : Hid (OwI w (w6.drewN nq) B rb pb rg cap gb fb n m Ps O X f s B1 B2 lb lc kc ka Y) := HI6.out.to (below_drewN (Below.refl _ _) nq)
          have HO7 : Hid ((w6.drewN nq).ownsRow wr.heap.size 9 1 (.slice (some ⟨nb, 0, none⟩) m nc) m (strs (texts X))) := own_below HO6.out (below_drewN (Below.refl _ _) nq) (Nat.le_refl _)
          generalize w6.drewN nq = w7 at *
          clear HI6 HO6 c1 c2
          go_wp2
          go_roundw
          case rel => exact ⟨k + 1, X, nb, nc, _, by omega, by go_num, rfl, HI7, ord_next HT.out HX0.out HP.out, HO7⟩
          case measure => simp [intOf]; omega
        | succ j =>
          obtain ⟨A, R, C, hX, hAl⟩ := ord_split (j := k + j) HX0.out
          subst hX
          have hfree : ¬ NeedsP P R := ord_free HOL.out HI.out.perm (HI.out.perm.nodup_iff.2 HNP.out) HT.out HP.out (by omega)
          obtain ⟨mm, hmm, hPid⟩ := HID.out P HPMm.out
          have hxw : idW mm = xq := by rw [← HXQ.out, hPid, idText_nth mm (List.mem_range.2 (by omega))]
          have hi4 := idW_size (n := mm) (by omega)
          have HId : Hid (OwI w wr.drew B rb pb rg cap gb fb n m Ps O (A ++ R :: P :: C) f s B1 B2 lb lc kc ka Y) := HI.out.to (Below.refl _ _).drew
          have hsw := HId.out.rg.uw.swap (A := A) (C := C) (P := R) (Q := P) rfl (m := mm) (by omega) hPid
          rw [hxw] at hsw hi4
          have HSW := hid hsw
          have HS0 : Hid (OwS rb pb lb k xq wr.drew) := by
            have := HId.out.at_ HP.out hkm
            rw [HXQ.out] at this
            exact this
          have HFR := hid hfree
          have HAL := hid hAl
          have z9 : ¬ 9223372036854775807 < 5 + xq.size := by omega
          clear hsw hi4 hfree hPid hxw hAl
          go_wp2_with fail
          refine wp_region_Z (OwS rb pb lb k xq) 99 (by kernel_rfl) ?_
          refine zt 0 (v := ?a0) HS0.out (fun w0 hS0 => ?hy) ?_
          case hy => obtain ⟨s0, s1⟩ := hS0; go_simp; with_reducible rfl
          simp only [Act.put, List.setIfInBounds_toArray]
          refine zt 1 (v := ?a1) HS0.out (fun w0 hS0 => ?hy) ?_
          case hy => obtain ⟨s0, s1⟩ := hS0; go_simp; with_reducible rfl
          simp only [Act.put]
          refine zt 2 (v := ?a2) HS0.out (fun w0 hS0 => ?hy) ?_
          case hy => obtain ⟨s0, s1⟩ := hS0; go_simp; with_reducible rfl
          simp only [Act.put]
          refine zt 3 (v := ?a3) HS0.out (fun w0 hS0 => ?hy) ?_
          case hy => obtain ⟨s0, s1⟩ := hS0; go_simp; with_reducible rfl
          simp only [Act.put]
          refine zt 4 (v := ?a4) HS0.out (fun w0 hS0 => ?hy) ?_
          case hy => obtain ⟨s0, s1⟩ := hS0; go_simp; with_reducible rfl
          simp only [Act.put]
          refine zt 5 (v := ?a5) HS0.out (fun w0 hS0 => ?hy) ?_
          case hy => obtain ⟨s0, s1⟩ := hS0; go_simp; with_reducible rfl
          simp only [Act.put]
          refine zt 6 (v := ?a6) HS0.out (fun w0 hS0 => ?hy) ?_
          case hy => obtain ⟨s0, s1⟩ := hS0; go_simp; with_reducible rfl
          simp only [Act.put]
          refine zt 7 (v := ?a7) HS0.out (fun w0 hS0 => ?hy) ?_
          case hy => obtain ⟨s0, s1⟩ := hS0; go_simp; with_reducible rfl
          simp only [Act.put]
          refine zt 8 (v := ?a8) HS0.out (fun w0 hS0 => ?hy) ?_
          case hy => obtain ⟨s0, s1⟩ := hS0; go_simp; with_reducible rfl
          simp only [Act.put]
          refine wpZ_one 9 _ rfl (by kernel_rfl) (fun KK hK => ?_)
          go_simp
          refine HSW.out.mono ?_
          rintro e w7 ⟨x, c, rfl, hA⟩
          dsimp only
          rcases hA with ⟨hN, _, _, _⟩ | ⟨_, rfl, rfl, hu7, hB7, hh7⟩
          · exact absurd hN HFR.out
          have HI7 : Hid (OwI w w7 B rb pb rg cap gb fb n m Ps O (A ++ P :: R :: C) f s B1 B2 lb lc kc ka Y) := HId.out.moved hu7 hh7 hB7 hBw (ord_perm HI.out.perm)
          have HS7 : Hid (OwS rb pb lb k xq w7) := by
            have := HI7.out.at_ HP.out hkm
            rw [HXQ.out] at this
            exact this
          refine hK.out _ _ (fun _ => HS7.out) ?_
          clear hK HSW hu7 hB7 hh7
          refine zt 10 (v := ?b10) HS7.out (fun w0 hS0 => ?hy) ?_
          case hy => obtain ⟨s0, s1⟩ := hS0; go_simp; with_reducible rfl
          simp only [Act.put, List.setIfInBounds_toArray]
          refine zt 11 (v := ?b11) HS7.out (fun w0 hS0 => ?hy) ?_
          case hy => obtain ⟨s0, s1⟩ := hS0; go_simp; with_reducible rfl
          simp only [Act.put]
          refine zt 12 (v := ?b12) HS7.out (fun w0 hS0 => ?hy) ?_
          case hy => obtain ⟨s0, s1⟩ := hS0; go_simp; with_reducible rfl
          simp only [Act.put]
          refine zt 13 (v := ?b13) HS7.out (fun w0 hS0 => ?hy) ?_
          case hy => obtain ⟨s0, s1⟩ := hS0; go_simp; with_reducible rfl
          simp only [Act.put]
          refine zt 14 (v := ?b14) HS7.out (fun w0 hS0 => ?hy) ?_
          case hy => obtain ⟨s0, s1⟩ := hS0; go_simp; with_reducible rfl
          simp only [Act.put]
          refine wpZ_done (by kernel_rfl) ?_ _
          clear HS7 HS0 HId HI
          go_wp2
          go_roundw
          case rel =>
            refine ⟨j, A ++ P :: R :: C, by omega, by go_num, HI7, ?_, ord_moved HAL.out⟩
            show _ = _
            rw [ord_take (by have := HAL.out; omega)]
            exact HT.out
          case measure => simp [intOf]
    · have e : k = m := by omega
      subst e
      have hOm : O.length = k := by have := HOM.out; rw [texts_len] at this; exact this
      have hXO : X = O := ord_done HI.out.perm HOP.out (by rw [hOm]; exact HT.out)
      subst hXO
      have hg := HI.out.rg
      have HOO := hid (HOR.out wr X hg HI.out.perm)
      clear hg hOm hkm
      go_wp2_with fail
      refine HOO.out.mono ?_
      rintro e w6 ⟨v6, rfl, ho6, hb6⟩
      clear HOO
      obtain ⟨na, nc, rfl⟩ := own_shape ho6
      have HI6 := hid (HI.out.to hb6)
      have HL6 : Hid (w6.ownsRow BL 9 1 (.slice (some ⟨lg, 0, none⟩) k gc) k (strs (texts X))) := own_below HL.out hb6 (Nat.le_refl _)
      have HA6 := hid ho6
      have hk6 := HK2.out w6 X HI6.out.rg
      rw [hYl] at hk6
      have HK6 := hid hk6
      clear ho6 hb6 hk6 HI HL
      go_wp2_with fail
      refine HK6.out.mono ?_
      rintro e w7 ⟨v7, rfl, ho7, hb7⟩
      clear HK6
      obtain ⟨ya, yc, rfl⟩ := own_shape ho7
      have HI7 := hid (HI6.out.to hb7)
      have HL7 : Hid (w7.ownsRow BL 9 1 (.slice (some ⟨lg, 0, none⟩) k gc) k (strs (texts X))) := own_below HL6.out hb7 (Nat.le_refl _)
      have HA7 : Hid (w7.ownsRow wr.heap.size 9 1 (.slice na k nc) k (strs (texts X))) := own_below HA6.out hb7 (Nat.le_refl _)
      have HY7 := hid ho7
      clear ho7 hb7 HI6 HL6 HA6
      have HS1 : Hid (Calls Tryz.prog 21 #[.slice (some ⟨lb, 0, none⟩) k lc, .slice na k nc] w7 fun e w' => e = .returned (.bool true) ∧ Below w7.heap.size w7 w') := same21_any HOM.out HI7.out.ord HA7.out (by omega)
      go_wp2_with fail
      refine HS1.out.mono ?_
      rintro e w8 ⟨rfl, hb8⟩
      clear HS1
      have HI8 := hid (HI7.out.to hb8)
      have HL8 : Hid (w8.ownsRow BL 9 1 (.slice (some ⟨lg, 0, none⟩) k gc) k (strs (texts X))) := own_below HL7.out hb8 (Nat.le_refl _)
      have HY8 : Hid (w8.ownsRow w6.heap.size 9 1 (.slice ya 3 yc) 3 (strs Y)) := own_below HY7.out hb8 (Nat.le_refl _)
      have hk8 := HI8.out.kept
      rw [hYl] at hk8
      have HS2 : Hid (Calls Tryz.prog 21 #[.slice ka 3 kc, .slice ya 3 yc] w8 fun e w' => e = .returned (.bool true) ∧ Below w8.heap.size w8 w') := same21_any hYl hk8 HY8.out (by omega)
      clear hb8 hk8 HI7 HL7 HA7 HY7
      go_wp2_with fail
      refine HS2.out.mono ?_
      rintro e w9 ⟨rfl, hb9⟩
      clear HS2
      have HI9 := hid (HI8.out.to hb9)
      have HL9 : Hid (w9.ownsRow BL 9 1 (.slice (some ⟨lg, 0, none⟩) k gc) k (strs (texts X))) := own_below HL8.out hb9 (Nat.le_refl _)
      have HS3 : Hid (Calls Tryz.prog 21 #[.slice (some ⟨lb, 0, none⟩) k lc, .slice (some ⟨lg, 0, none⟩) k gc] w9 fun e w' => e = .returned (.bool true) ∧ Below w9.heap.size w9 w') := same21_any HOM.out HI9.out.ord HL9.out (by omega)
      clear hb9 HI8 HL8 HY8
      go_wp2_with fail
      refine HS3.out.mono ?_
      rintro e wz ⟨rfl, hbz⟩
      clear HS3
      go_wp2
      go_ret
      exact ⟨rfl, (HI9.out.to hbz).below⟩
end Go.Proofs.YtgdfipmdmgkidaaGreatDoor
