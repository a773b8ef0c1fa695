/- The walk of the statement Told. -/
import Derived.Test.YtgdfipmdmgkidaaGreatDoorPtfact
namespace Go.Proofs.YtgdfipmdmgkidaaGreatDoor
open Go.RowKit

theorem text_txt (R : List Int) (hR : ∀ x ∈ R, -9223372036854775808 ≤ x ∧ x ≤ 9223372036854775807) (v0 : Value) (w : World) (hv : IV w v0 R) :
    Calls Tryz.prog 14 #[v0] w fun e w' => ∃ o C, e = .returned (.string o) ∧ Txt o C ∧ Below w.heap.size w w' := by
  refine (ktext9_any R hR v0 w hv).mono ?_
  rintro e w' ⟨L, op, rfl, h1, h2, h3⟩
  obtain ⟨C, c1, c2, c3, c4, c5⟩ := text_lines L op h1 h2
  exact ⟨_, C, rfl, ⟨c1, c2, c3, c4, c5⟩, h3⟩

/-- A text that begins so. -/
theorem head_facts (a b : ByteArray) : a.size ≤ (a ++ b).size ∧ (a ++ b).extract 0 a.size = a ∧ (a ++ b).extract a.size (a ++ b).size = b := by
  refine ⟨by rw [ByteArray.size_append]; omega, ?_, ?_⟩
  · have := ext_mid ⟨#[]⟩ a b
    have e : (⟨#[]⟩ : ByteArray) ++ (a ++ b) = a ++ b := ByteArray.ext (by simp)
    rw [e] at this
    have e0 : (⟨#[]⟩ : ByteArray).size = 0 := rfl
    rw [e0, Nat.zero_add] at this
    exact this
  · have := ext_mid a b ⟨#[]⟩
    have e : b ++ (⟨#[]⟩ : ByteArray) = b := ByteArray.ext (by simp)
    rw [e] at this
    rw [ByteArray.size_append]
    exact this

/-- What there is to record, and what is kept, when the file is as the patches left it. -/
theorem told_new {w : World} {P : List PM} {ps : Nat → PL} {B pb rg cap gb fb fn : Nat} {pv : Value} {G : List Pid} {n : ByteArray} {D : List ByteArray} (h : OneAt w B pb rg cap gb pv P fb fn (only n) G) (hc : Chain P ps) (hfn : fn ≤ 1000) (hn : Txt n D) (hal : (ps P.length).alive = true) (hS : (ps P.length).S.length ≤ 900) (hL : rowLines (ps P.length).S = D) :
    Calls Tryz.prog 17 #[.pointer (some ⟨pb, 0, none⟩), .int .i64 0, .string cNew] w fun e w' => e = .returned (.tuple #[.string ⟨#[]⟩, .int .i64 0]) ∧ Below w.heap.size w w' := by
  have hrt : rowText (ps P.length).S = n := by unfold rowText; rw [hL, hn.cat]
  have hsz := hn.size
  have hlen := hn.len
  refine (do_new h (fun x w' => x = ⟨#[]⟩ ∧ Below w.heap.size w w') (fun u hu => ?_)).mono ?_
  · refine (chain_new (h.below hu) hc hfn hn ⟨by omega, by rw [hL]; omega, by rw [hrt]; omega⟩ (chg_same hal hrt)).mono ?_
    rintro e w' ⟨x, rfl, rfl, hb⟩
    exact ⟨_, rfl, rfl, hu.trans (hb.mono hu.size)⟩
  · rintro e w' ⟨x, rfl, rfl, hb⟩
    exact ⟨rfl, hb⟩
theorem told_kept {w : World} {P : List PM} {ps : Nat → PL} {B pb rg cap gb fb fn : Nat} {pv : Value} {G : List Pid} {n : ByteArray} {D : List ByteArray} {f : ByteArray → Option ByteArray} (h : OneAt w B pb rg cap gb pv P fb fn f G) (hc : Chain P ps) (hn : Txt n D) (hal : (ps P.length).alive = true) (hS : (ps P.length).S.length ≤ 900) (hL : rowLines (ps P.length).S = D) :
    Calls Tryz.prog 18 #[.pointer (some ⟨pb, 0, none⟩), .int .i64 0, .string nmA] w fun e w' => e = .returned (.tuple #[.string n, .int .i64 0]) ∧ Below w.heap.size w w' := by
  have hrt : rowText (ps P.length).S = n := by unfold rowText; rw [hL, hn.cat]
  have hsz := hn.size
  have hst : sOf (ps (P.length + 0)) nmA = ps P.length := sOf_a _
  have hk := kept13_alive h hc.stands (by have := hc.2.2; omega) nmA (by decide) nameA (by show (sOf (ps (P.length + 0)) nmA).alive = true; rw [hst]; exact hal) (by show (sOf (ps (P.length + 0)) nmA).S.length ≤ _; rw [hst]; omega) (by show (rowText (sOf (ps (P.length + 0)) nmA).S).size ≤ _; rw [hst, hrt]; omega)
  refine hk.mono ?_
  rintro e w' ⟨rfl, hb⟩
  refine ⟨?_, hb⟩
  show Ending.returned (.tuple #[.string (rowText (sOf (ps (P.length + 0)) nmA).S), .int .i64 0]) = _
  rw [hst, hrt]

set_option maxRecDepth 100000 in
set_option maxHeartbeats 12800000 in
theorem told5_any (R1 R2 : List Int) (hR1 : ∀ x ∈ R1, -9223372036854775808 ≤ x ∧ x ≤ 9223372036854775807) (hR2 : ∀ x ∈ R2, -9223372036854775808 ≤ x ∧ x ≤ 9223372036854775807) (v1 v2 : Value) (w : World) (hv1 : IV w v1 R1) (hv2 : IV w v2 R2) :
    Calls Tryz.prog 5 #[v1, v2] w fun e w' => e = .returned (.bool true) ∧ Below w.heap.size w w' := by
  have H1 : Hid (Calls Tryz.prog 14 #[v1] w fun e w' => ∃ o C, e = .returned (.string o) ∧ Txt o C ∧ Below w.heap.size w w') := text_txt R1 hR1 v1 w hv1
  have H2 : Hid (∀ u, Below w.heap.size w u → Calls Tryz.prog 14 #[v2] u fun e w' => ∃ o C, e = .returned (.string o) ∧ Txt o C ∧ Below u.heap.size u w') := fun u hu => text_txt R2 hR2 v2 u (hv2.below hu (Nat.le_refl _))
  obtain ⟨a1, c1, rfl, _⟩ := hv1
  obtain ⟨a2, c2, rfl, _⟩ := hv2
  clear hR1 hR2
  go_enter Tryz.func5, Tryz.ntmps5
  go_wp2_with fail
  refine H1.out.mono ?_
  rintro e w1 ⟨o, C, rfl, hoC, hb1⟩
  clear H1
  go_wp2_with fail
  refine (H2.out w1 hb1).mono ?_
  rintro e w2 ⟨n, D, rfl, hnD, hb2⟩
  clear H2
  have HO : Hid (Txt o C) := hoC
  have HN : Hid (Txt n D) := hnD
  have HB2 : Hid (Below w.heap.size w w2) := hb1.trans (hb2.mono hb1.size)
  clear hoC hnD hb1 hb2
  go_wp2_with fail
  refine (new10_one w2).mono ?_
  rintro e w3 ⟨pb, rg, cap, gb, fb, rfl, h3, hb3⟩
  have HW4 : Hid (Calls Tryz.prog 16 #[.pointer (some ⟨pb, 0, none⟩), .int .i64 0, .string nmA, .string o] w3 fun e w' => e = .returned (.int .i64 0) ∧ OneAt w' w2.heap.size pb rg cap gb (.slice none 0 0) [] fb 1 (only o) [] ∧ Below w2.heap.size w3 w') := write11_yes h3 hb3.size nmA o (by omega) (by decide) nameA HO.out.ok (.inr (by omega))
  have HB3 : Hid (Below w2.heap.size w2 w3) := hb3
  clear h3 hb3
  go_wp2_with fail
  refine HW4.out.mono ?_
  rintro e w4 ⟨rfl, h4, hb4⟩
  clear HW4
  have HB4 : Hid (Below w2.heap.size w2 w4) := HB3.out.trans hb4
  have HR5 : Hid (Calls Tryz.prog 17 #[.pointer (some ⟨pb, 0, none⟩), .int .i64 0, .string cRec1] w4 fun e w' => ∃ T, e = .returned (.tuple #[.string T, .int .i64 0]) ∧ T = addHead nmA ++ tellB ⟨#[43]⟩ (bring id1 0 C) ∧ ∃ pv' P ps, P.length = 1 ∧ Chain P ps ∧ ps 1 = ⟨id1, true, bring id1 0 C⟩ ∧ OneAt w' w2.heap.size pb rg cap gb pv' P fb 1 (only o) [id1] ∧ Below w2.heap.size w4 w') := told_first h4 HB4.out.size (by omega) HO.out
  clear h4 hb4 HB3
  go_wp2_with fail
  refine HR5.out.mono ?_
  rintro e w5 ⟨T1, rfl, hT1, pv, P, ps, hPl, hCh, hp1, h5, hb5⟩
  clear HR5
  have HB5 : Hid (Below w2.heap.size w2 w5) := HB4.out.trans hb5
  obtain ⟨k1, k2, _⟩ := head_facts (addHead nmA) (tellB ⟨#[43]⟩ (bring id1 0 C))
  have k6 : (addHead nmA).size = 6 := by decide +kernel
  rw [← hT1, k6] at k1 k2
  have k3 : addHead nmA = ⟨#[97, 100, 100, 32, 97, 10]⟩ := by decide +kernel
  rw [k3] at k2
  have HT1 : Hid (T1.extract 0 6 = ⟨#[97, 100, 100, 32, 97, 10]⟩) := k2
  have HW6 : Hid (Calls Tryz.prog 16 #[.pointer (some ⟨pb, 0, none⟩), .int .i64 0, .string nmA, .string n] w5 fun e w' => e = .returned (.int .i64 0) ∧ OneAt w' w2.heap.size pb rg cap gb pv P fb 2 (only n) [id1] ∧ Below w2.heap.size w5 w') := by
    have := write11_yes h5 HB5.out.size nmA n (by omega) (by decide) nameA HN.out.ok (.inr (by omega))
    rw [only_put] at this
    exact this
  have HCH : Hid (Chain P ps) := hCh
  have HPL : Hid (P.length = 1) := hPl
  have HP1 : Hid (ps 1 = ⟨id1, true, bring id1 0 C⟩) := hp1
  clear h5 hb5 HB4 hT1 k2 k3 hCh hPl hp1
  go_wp2_with fail
  refine HW6.out.mono ?_
  rintro e w6 ⟨rfl, h6, hb6⟩
  clear HW6
  have HB6 : Hid (Below w2.heap.size w2 w6) := HB5.out.trans hb6
  have HH6 : Hid (OneAt w6 w2.heap.size pb rg cap gb pv P fb 2 (only n) [id1]) := h6
  have hoS := HO.out.size
  have hnS := HN.out.size
  clear h6 hb6 HB5
  by_cases hno : n = o
  · subst hno
    have hp' : ps P.length = ⟨id1, true, bring id1 0 C⟩ := by rw [HPL.out]; exact HP1.out
    have hl' : (ps P.length).S.length ≤ 900 := by rw [hp']; show (bring id1 0 C).length ≤ 900; rw [bring_len]; have := HO.out.len; omega
    have hL' : rowLines (ps P.length).S = C := by rw [hp']; exact rowLines_bring _ _ _
    have HR7 : Hid (Calls Tryz.prog 17 #[.pointer (some ⟨pb, 0, none⟩), .int .i64 0, .string cRec2] w6 fun e w' => ∃ T, e = .returned (.tuple #[.string T, .int .i64 9]) ∧ T = ⟨#[]⟩ ∧ Below w6.heap.size w6 w') := told_clean HH6.out HPL.out HCH.out HP1.out HB6.out.size (by omega) HO.out
    have HN8 : Hid (∀ u, Below w6.heap.size w6 u → Calls Tryz.prog 17 #[.pointer (some ⟨pb, 0, none⟩), .int .i64 0, .string cNew] u fun e w' => e = .returned (.tuple #[.string ⟨#[]⟩, .int .i64 0]) ∧ Below u.heap.size u w') := fun u hu => told_new (HH6.out.below hu) HCH.out (by omega) HO.out (by rw [hp']) hl' hL'
    have HK9 : Hid (∀ u, Below w6.heap.size w6 u → Calls Tryz.prog 18 #[.pointer (some ⟨pb, 0, none⟩), .int .i64 0, .string nmA] u fun e w' => e = .returned (.tuple #[.string n, .int .i64 0]) ∧ Below u.heap.size u w') := fun u hu => told_kept (HH6.out.below hu) HCH.out HO.out (by rw [hp']) hl' hL'
    clear hp' hl' hL' HH6 HCH HPL HP1
    go_wp2_with fail
    refine HR7.out.mono ?_
    rintro e w7 ⟨T2, rfl, rfl, hb7⟩
    clear HR7
    have HB7 : Hid (Below w6.heap.size w6 w7) := hb7
    clear hb7
    go_wp2_with fail
    refine (HN8.out w7 HB7.out).mono ?_
    rintro e w8 ⟨rfl, hb8⟩
    have HB8 : Hid (Below w6.heap.size w6 w8) := HB7.out.trans (hb8.mono HB7.out.size)
    clear hb8 HN8
    go_wp2_with fail
    refine (HK9.out w8 HB8.out).mono ?_
    rintro e w9 ⟨rfl, hb9⟩
    have HB9 : Hid (Below w.heap.size w w9) := HB2.out.trans ((HB6.out.trans ((HB8.out.trans (hb9.mono HB8.out.size)).mono HB6.out.size)).mono HB2.out.size)
    clear hb9 HK9 HB7 HB8
    have hTL : (T1.extract 0 6).toList = [97, 100, 100, 32, 97, 10] := by rw [HT1.out]; decide +kernel
    have k1' : (6 : Int) ≤ (T1.size : Int) := by omega
    go_wp2_with fail
    go_ret
    exact ⟨rfl, HB9.out⟩
  · have HR7 : Hid (Calls Tryz.prog 17 #[.pointer (some ⟨pb, 0, none⟩), .int .i64 0, .string cRec2] w6 fun e w' => ∃ T, e = .returned (.tuple #[.string T, .int .i64 0]) ∧ ∃ Q S2 pv' P' ps', GapsR C D 0 0 Q ∧ T = alterHead nmA ++ catB (Q.flatMap (hunkL C D)) ∧ P'.length = 2 ∧ Chain P' ps' ∧ ps' 2 = ⟨id1, true, S2⟩ ∧ rowLines S2 = D ∧ S2.length ≤ 900 ∧ OneAt w' w2.heap.size pb rg cap gb pv' P' fb 2 (only n) [id1, id2] ∧ Below w2.heap.size w6 w') := told_second HH6.out HPL.out HCH.out HP1.out HB6.out.size (by omega) HO.out HN.out hno
    clear HH6 HCH HPL HP1
    go_wp2_with fail
    refine HR7.out.mono ?_
    rintro e w7 ⟨T2, rfl, Q, S2, pv', P', ps', hQ, hT2, hPl', hCh', hp2, hSD, hSl, h7, hb7⟩
    clear HR7
    have hp' : ps' P'.length = ⟨id1, true, S2⟩ := by rw [hPl']; exact hp2
    have hl' : (ps' P'.length).S.length ≤ 900 := by rw [hp']; exact hSl
    have hL' : rowLines (ps' P'.length).S = D := by rw [hp']; exact hSD
    have HB7 : Hid (Below w2.heap.size w2 w7) := HB6.out.trans hb7
    have HN8 : Hid (∀ u, Below w7.heap.size w7 u → Calls Tryz.prog 17 #[.pointer (some ⟨pb, 0, none⟩), .int .i64 0, .string cNew] u fun e w' => e = .returned (.tuple #[.string ⟨#[]⟩, .int .i64 0]) ∧ Below u.heap.size u w') := fun u hu => told_new (h7.below hu) hCh' (by omega) HN.out (by rw [hp']) hl' hL'
    have HK9 : Hid (∀ u, Below w7.heap.size w7 u → Calls Tryz.prog 18 #[.pointer (some ⟨pb, 0, none⟩), .int .i64 0, .string nmA] u fun e w' => e = .returned (.tuple #[.string n, .int .i64 0]) ∧ Below u.heap.size u w') := fun u hu => told_kept (h7.below hu) hCh' HN.out (by rw [hp']) hl' hL'
    obtain ⟨q1, q2, q3⟩ := head_facts (alterHead nmA) (catB (Q.flatMap (hunkL C D)))
    have k8 : (alterHead nmA).size = 8 := by decide +kernel
    rw [← hT2, k8] at q1 q2 q3
    have HQ : Hid (GapsR C D 0 0 Q) := hQ
    have HE : Hid (T2.extract 8 T2.size = catB (Q.flatMap (hunkL C D))) := q3
    have hT2L : (T2.extract 0 8).toList = [97, 108, 116, 101, 114, 32, 97, 10] := by rw [q2]; decide +kernel
    have q1' : (8 : Int) ≤ (T2.size : Int) := by omega
    clear hp' hl' hL' hp2 hCh' h7 hb7 hPl' hSl hSD q2 q3 hQ hT2 HB6
    go_wp2_with fail
    refine (HN8.out w7 (Below.refl _ _)).mono ?_
    rintro e w8 ⟨rfl, hb8⟩
    have HB8 : Hid (Below w7.heap.size w7 w8) := hb8
    clear hb8 HN8
    go_wp2_with fail
    refine (HK9.out w8 HB8.out).mono ?_
    rintro e w9 ⟨rfl, hb9⟩
    have HB9 : Hid (Below w.heap.size w w9) := HB2.out.trans ((HB7.out.trans ((HB8.out.trans (hb9.mono HB8.out.size)).mono HB7.out.size)).mono HB2.out.size)
    clear hb9 HK9 HB7 HB8
    have hTL : (T1.extract 0 6).toList = [97, 100, 100, 32, 97, 10] := by rw [HT1.out]; decide +kernel
    have k1' : (6 : Int) ≤ (T1.size : Int) := by omega
    have hne1 : (o.toList == n.toList) = false := by rw [eq_bytes]; simp; exact fun h => hno h.symm
    have hne2 : ¬ o.toList = n.toList := by rw [toList_iff]; exact fun h => hno h.symm
    obtain ⟨t1, t2, t3, t4⟩ := tells_small HQ.out HO.out.len HN.out.len HO.out.nine HN.out.nine
    obtain ⟨L, hL⟩ : ∃ L, Q.flatMap (hunkL C D) = L := ⟨_, rfl⟩
    rw [hL] at t1 t2 t3 HE
    have HT0 : Hid (TReads C 0 [] 0 L D (toldN Q)) := t1
    have HCN : Hid (toldN Q + 2 * CC C D 0 0 = C.length + D.length) := t4
    have hCl := HO.out.len
    have hDl := HN.out.len
    have HCU : Hid (∀ u, Calls Tryz.prog 19 #[.string o] u fun e w' => ∃ v, e = .returned v ∧ w'.ownsRow u.heap.size 9 1 v C.length (strs C) ∧ Below u.heap.size u w') := fun u => by
      have := kcut14_any o u (by omega)
      rw [HO.out.cut] at this
      exact this
    have HCV : Hid (∀ u, Calls Tryz.prog 19 #[.string n] u fun e w' => ∃ v, e = .returned v ∧ w'.ownsRow u.heap.size 9 1 v D.length (strs D) ∧ Below u.heap.size u w') := fun u => by
      have := kcut14_any n u (by omega)
      rw [HN.out.cut] at this
      exact this
    have HCT : Hid (∀ u, Calls Tryz.prog 19 #[.string (T2.extract 8 T2.size)] u fun e w' => ∃ v, e = .returned v ∧ w'.ownsRow u.heap.size 9 1 v L.length (strs L) ∧ Below u.heap.size u w') := fun u => by
      rw [HE.out]
      have := kcut14_any (catB L) u (by omega)
      rw [cut_lines L t1.line] at this
      exact this
    clear t1 t3 t4 hL HQ HE HO HN k6 k8 q1 k1
    go_wp2_with fail
    refine (HCU.out w9).mono ?_
    rintro e w10 ⟨v1, rfl, ho10, hb10⟩
    obtain ⟨oa, oc, rfl⟩ := own_shape ho10
    have hoc := own_cap ho10
    have HV10 : Hid (View w10 oa C) := View.own ho10
    have HB10 : Hid (Below w.heap.size w w10) := HB9.out.trans (hb10.mono HB9.out.size)
    clear HCU ho10 hb10 HB9
    go_wp2_with fail
    obtain ⟨wa, hwa⟩ : ∃ wa, wa = w10.alloc (.cells #[.slice oa C.length oc, .int .i64 0, .slice none 0 0, .int .i64 0] 38) := ⟨_, rfl⟩
    rw [← hwa]
    have hsa : wa.heap.size = w10.heap.size + 1 := by rw [hwa]; simp
    have hka : wa.heap[w10.heap.size]? = some (.cells #[.slice oa C.length oc, .int .i64 0, .slice none 0 0, .int .i64 0] 38 (0, 0)) := by rw [hwa]; exact (MapKept.heap_alloc w10 _).1
    have hba : Below w10.heap.size w10 wa := by rw [hwa]; exact (Below.refl _ _).alloc (Nat.le_refl _) _
    clear hwa
    refine (HCT.out wa).mono ?_
    rintro e w11 ⟨v2, rfl, ho11, hb11⟩
    obtain ⟨la, lc, rfl⟩ := own_shape ho11
    obtain ⟨rb, hrb⟩ : ∃ rb, rb = w10.heap.size := ⟨_, rfl⟩
    have hb12 : Below w10.heap.size w10 w11 := hba.trans (hb11.mono hba.size)
    have hr11 : rb < w11.heap.size := by have := hb11.size; omega
    have HRA : Hid (RdAt w11 rb (.slice oa C.length oc) 0 (.slice none 0 0) 0) := by
      show w11.heap[rb]? = _
      rw [hrb, hb11.block w10.heap.size (by omega)]
      exact hka
    have HV11 : Hid (View w11 oa C) := HV10.out.below hb12
    have HL11 : Hid (w11.ownsRow (rb + 1) 9 1 (.slice la L.length lc) L.length (strs L)) := by
      rw [hrb, ← hsa]; exact ho11
    have HB11 : Hid (Below w.heap.size w w11) := HB10.out.trans (hb12.mono HB10.out.size)
    have hrw : w.heap.size ≤ rb := by rw [hrb]; exact HB10.out.size
    have HV12 : Hid (∀ u, But w11 u rb → View u oa C) := fun u hu => HV10.out.below (hb12.trans (hu.under (by omega) (by omega)))
    rw [← hrb]
    clear hb12 hba hka hsa ho11 hb11 HCT HV10 HB10 hrb
    go_wp2_with fail
    go_loopw [21, 22] (fun i ok wr => ∃ (k a c : Nat) (X : List ByteArray) (xv : Value), k ≤ L.length ∧ i = .int .i64 k ∧ Hid (TReads C a X c (L.drop k) D (toldN Q)) ∧ Hid (RdAt wr rb (.slice oa C.length oc) a xv c) ∧ Hid (wr.ownsRow w11.heap.size 9 1 xv X.length (strs X)) ∧ Hid (But w11 wr rb)) (fun i _ _ => L.length - (intOf i).toNat)
    case atStart => exact ⟨0, 0, 0, [], _, Nat.zero_le _, rfl, HT0.out, HRA.out, World.ownsRow_nil _ _ _ _, But.refl _ _⟩
    case round =>
      obtain ⟨k, a, c, X, xv, hk, rfl, HTR, HRD, HOW, HBU⟩ := hrel
      have hm := HTR.out.mono
      by_cases hlt : k < L.length
      · obtain ⟨g, hao, hgB, hgs⟩ := own_at HL11.out (by omega)
        subst hao
        have hc1 : wr.cell? ⟨g, k, none⟩ = some (.string (L.getD k ByteArray.empty)) := row_cell (own_but HL11.out HBU.out (by omega)) k hlt
        obtain ⟨s, hs⟩ : ∃ s, L.getD k ByteArray.empty = s := ⟨_, rfl⟩
        have hd : L.drop k = s :: L.drop (k + 1) := by
          rw [List.drop_eq_getElem_cons hlt, ← hs, List.getD_eq_getElem?_getD, List.getElem?_eq_getElem hlt]; rfl
        rw [hs] at hc1
        have HT1' : Hid (TReads C a X c (s :: L.drop (k + 1)) D (toldN Q)) := by rw [← hd]; exact HTR.out
        have hline := HT1'.out.line s (by simp)
        have hsm := HT1'.out.small s (by simp)
        have h1s := hline.1
        have h10 : s[s.size - 1].toNat = 10 := by rw [gb_eq s (s.size - 1) (by omega)]; exact hline.2.1
        have e1 : (((s[s.size - 1].toNat : Nat) : Int) != 10) = false := by rw [h10]; rfl
        have s1 : IntKind.i64.wrap ((s.size : Int) - 1) = (s.size : Int) - 1 := by simp [IntKind.wrap, IntKind.signed, IntKind.bits]; omega
        have s2 : ((s.size : Int) - 1).toNat = s.size - 1 := by omega
        have s4 : (s.size : Int) - 1 < (s.size : Int) := by omega
        have s5 : (0 : Int) ≤ (s.size : Int) - 1 := by omega
        have s6 : (1 : Int) ≤ (s.size : Int) := by omega
        have htn : toldN Q ≤ 32 := by have := HCN.out; omega
        have HTK : Hid (∀ q, Calls Tryz.prog 20 #[.pointer (some ⟨rb, 0, none⟩), .string s] (wr.drewN q) fun e w' => e = .returned (.bool true) ∧ ∃ a' X' c' xv', TReads C a' X' c' (L.drop (k + 1)) D (toldN Q) ∧ RdAt w' rb (.slice oa C.length oc) a' xv' c' ∧ w'.ownsRow w11.heap.size 9 1 xv' X'.length (strs X') ∧ But w11 w' rb) := fun q => by
          have hq : Below wr.heap.size wr (wr.drewN q) := below_drewN (Below.refl _ _) q
          have hrs : rb < wr.heap.size := by have := HBU.out.size; omega
          have hbu := HBU.out.below hq
          exact take_step w11 C oa oc rb a c (toldN Q) X _ D xv s _ HT1'.out ((hq.block rb hrs).trans HRD.out) (HV12.out _ hbu) hoc (by omega) hr11 hbu (own_below HOW.out hq (Nat.le_refl _)) (by omega) (by omega)
        clear h10 hline hd hs HTR HT1' hm HRD HOW HBU
        go_wp2_with fail
        go_quiet (fail)
        go_wp2_with fail
        refine (HTK.out _).mono ?_
        rintro e w12 ⟨rfl, a', X', c', xv', HA, HR', HO', HB'⟩
        have HA' : Hid (TReads C a' X' c' (L.drop (k + 1)) D (toldN Q)) := HA
        have HR'' : Hid (RdAt w12 rb (.slice oa C.length oc) a' xv' c') := HR'
        have HO'' : Hid (w12.ownsRow w11.heap.size 9 1 xv' X'.length (strs X')) := HO'
        have HB'' : Hid (But w11 w12 rb) := HB'
        clear HA HR' HO' HB' HTK
        go_wp2_with fail
        go_roundw
        case rel => exact ⟨k + 1, a', c', X', xv', by omega, by go_num, HA', HR'', HO'', HB''⟩
        case measure => simp [intOf]; omega
      · have hkL : k = L.length := by omega
        have HZ : Hid (D = X ++ C.drop a ∧ c = toldN Q) := by
          have h := HTR.out
          rw [hkL, List.drop_length] at h
          cases h
          exact ⟨rfl, rfl⟩
        have HVr : Hid (View wr oa C) := HV12.out wr HBU.out
        obtain ⟨xa, xc, rfl⟩ := own_shape HOW.out
        have hrs : rb < wr.heap.size := by have := HBU.out.size; omega
        obtain ⟨c0, c1', c2', c3⟩ := HRD.out.cells
        have HCE : Hid (X.length = 0 ∨ ∃ ad, xa = some ad ∧ ∀ j u, (strs X)[j]? = some u → wr.cell? (ad.add j) = some u) := (own_cells HOW.out).2
        obtain ⟨i0, hi, hz0, hz1, hz2⟩ := info_parts Tryz.info9
        have hXD : X.length ≤ 16 := by omega
        have haC : a ≤ C.length := hm.2.2
        clear HTR HL11 HT0 HRA HV11
        go_wp2_with (at_builtin; refine wpList_append_all (by rfl) _ _ 35 (by rfl) wr.heap.size 9 i0 _ 1 16 Tryz.underlying35 hi hz0 hz1 hz2 rfl (by omega) _ 0 [] (by rfl) (World.ownsRow_nil _ _ _ _) xa X.length xc (strs X) (by rfl) (by simp [strs]) HCE.out (strs_one _) (by unfold maxLen; omega) (by omega) (Nat.le_refl _) ?_)
        intro va vn vc w13 ho13 hg13
        have hb13 : Below wr.heap.size wr w13 := (Below.refl _ _).grown hg13 (Nat.le_refl _) (fun j hj => by cases hj)
        have HO13 : Hid (w13.ownsRow wr.heap.size 9 1 (.slice va vn vc) X.length (strs X)) := ho13
        have HR13 : Hid (RdAt w13 rb (.slice oa C.length oc) a (.slice xa X.length xc) c) := (hb13.block rb hrs).trans HRD.out
        have HV13 : Hid (View w13 oa C) := HVr.out.below hb13
        have HB13 : Hid (Below wr.heap.size wr w13) := hb13
        obtain ⟨d0, d1, d2, d3⟩ := HR13.out.cells
        have hvn : vn = X.length := (own_cells HO13.out).1
        subst hvn
        have hs13 := HB13.out.size
        have qa : (0 : Int) ≤ (a : Int) := by omega
        have qb : (a : Int) ≤ (C.length : Int) := by omega
        have qc : (C.length : Int) ≤ (oc : Int) := by omega
        clear ho13 hg13 hb13 c0 c1' c2' c3 HRD HVr HCE HOW
        have tk : ((C.length : Int) - (a : Int)).toNat = C.length - a := by omega
        have to' : ((oc : Int) - (a : Int)).toNat = oc - a := by omega
        have hD : X ++ midOf C a C.length = D := by rw [HZ.out.1]; unfold midOf; rw [List.take_length]
        have hml := midOf_len (O := C) (i := a) (Nat.le_refl _)
        by_cases hac : a < C.length
        · obtain ⟨b, ob, hoa, hbl, hcl⟩ := HV13.out.resolve_left (by omega)
          subst hoa
          have HC : Hid (∀ j u, (strs (midOf C a C.length))[j]? = some u → w13.cell? ((⟨b, ob + a, none⟩ : Addr).add j) = some u) := mid_cells hcl (Nat.le_refl _)
          have H1 : Hid (∀ u ∈ strs (midOf C a C.length), u.oneCell' = true) := strs_one _
          have hsl : (strs (midOf C a C.length)).length = (C.length - a) * 1 := by unfold strs; rw [List.length_map, hml]; omega
          have hne : ¬ oc = a := by omega
          clear hcl
          go_wp2_with fail
          go_region_law (first
            | (refine step_append_lies _ (by rfl) _ _ _ (by rfl) wr.heap.size 9 i0 _ 1 16 Tryz.underlying35 hi hz0 hz1 hz2 rfl (by omega) _ X.length (strs X) (by rfl) HO13.out.drew ⟨b, ob + a, none⟩ (C.length - a) (oc - a) (strs (midOf C a C.length)) (by first | rfl | (show Value.slice (if oc = a then some (⟨b, ob, none⟩ : Addr) else some ⟨b, ob + a, none⟩) (C.length - a) (oc - a) = _; rw [if_neg hne])) hsl HC.out H1.out (by omega) (by unfold maxLen; omega) (by omega) (by simp; omega) w13.heap.size (by simp) ?_; intro g cp w14 hown2 hgrow hat2 hlt2))
          all_goals
            have hb14 : Below wr.heap.size wr w14 := (HB13.out.drew).grown hgrow (by simp; omega) (fun j hj => (HO13.out.lt j hj).1)
            have HR14 : Hid (RdAt w14 rb (.slice (some ⟨b, ob, none⟩) C.length oc) a (.slice xa X.length xc) c) := by
              have h1 : wr.heap[rb]? = _ := (HB13.out.block rb hrs).symm.trans HR13.out
              exact (hb14.block rb hrs).trans h1
            have HV14 : Hid (View w14 (some ⟨b, ob, none⟩) C) := (HV12.out wr HBU.out).below hb14
            have HO14 : Hid (w14.ownsRow wr.heap.size 9 1 (.slice (some ⟨g, 0, none⟩) (X.length + (C.length - a)) cp) D.length (strs D)) := by
              show World.ownsRow _ _ _ _ _ _ _
              have e : strs D = strs X ++ strs (midOf C a C.length) := by rw [← hD]; simp
              have e2 : D.length = X.length + (C.length - a) := by rw [← hD, List.length_append, hml]
              rw [e, e2]
              exact hown2
            have HB14 : Hid (Below wr.heap.size wr w14) := hb14
            have hyn : X.length + (C.length - a) = D.length := (own_cells HO14.out).1
            rw [hyn] at HO14 ⊢
            clear hb14 hown2 hgrow HC H1 hsl hat2 hlt2
            clear HB13 HO13 HR13 HV13
            go_wp2_with fail
            refine (HCV.out w14).mono ?_
            rintro e w15 ⟨v5, rfl, ho15, hb15⟩
            obtain ⟨na, nc, rfl⟩ := own_shape ho15
            have HS : Hid (Calls Tryz.prog 21 #[.slice (some ⟨g, 0, none⟩) D.length cp, .slice na D.length nc] w15 fun e w' => e = .returned (.bool true) ∧ ∃ q, w' = w15.drewN q) := ksame16_any D _ _ _ _ _ _ w15 (own_below HO14.out hb15 (Nat.le_refl _)) ho15 (by omega)
            have HCO : Hid (∀ q, Calls Tryz.prog 22 #[.slice (some ⟨b, ob, none⟩) C.length oc, .slice na D.length nc] (w15.drewN q) fun e w' => e = .returned (.int .i64 (CC C D 0 0 : Nat)) ∧ Below (w15.drewN q).heap.size (w15.drewN q) w') := fun q => common17_any C D (by omega) (by omega) _ _ _ _ _ ((HV14.out.below hb15).below (below_drewN (Below.refl _ _) q)) ((View.own ho15).below (below_drewN (Below.refl _ _) q))
            have HB15 : Hid (Below wr.heap.size wr w15) := HB14.out.trans (hb15.mono HB14.out.size)
            obtain ⟨m, hmm⟩ : ∃ m, CC C D 0 0 = m := ⟨_, rfl⟩
            rw [hmm] at HCO HCN
            have hcm : c + 2 * m = C.length + D.length := by rw [HZ.out.2]; exact HCN.out
            have g1 : IntKind.i64.wrap ((C.length : Int) + (D.length : Int)) = (C.length : Int) + (D.length : Int) := by simp [IntKind.wrap, IntKind.signed, IntKind.bits]; omega
            have g2 : IntKind.i64.wrap (2 * (m : Int)) = 2 * (m : Int) := by simp [IntKind.wrap, IntKind.signed, IntKind.bits]; omega
            have g3 : IntKind.i64.wrap ((C.length : Int) + (D.length : Int) - 2 * (m : Int)) = (C.length : Int) + (D.length : Int) - 2 * (m : Int) := by simp [IntKind.wrap, IntKind.signed, IntKind.bits]; omega
            have g4 : ((c : Int) == (C.length : Int) + (D.length : Int) - 2 * (m : Int)) = true := by rw [beq_iff_eq]; omega
            have g5 : ((c : Nat) : Int) = (C.length : Int) + (D.length : Int) - 2 * (m : Int) := by omega
            have HCM : Hid (c + 2 * m = C.length + D.length) := hcm
            clear hcm g5 HCV hmm HO14 HV14 ho15 hb15
            go_wp2_with fail
            refine HS.out.mono ?_
            rintro e w16 ⟨rfl, q, rfl⟩
            have HB16 : Hid (Below wr.heap.size wr (w15.drewN q)) := below_drewN HB15.out q
            have HR16 : Hid (RdAt (w15.drewN q) rb (.slice (some ⟨b, ob, none⟩) C.length oc) a (.slice xa X.length xc) c) := by
              have h1 : wr.heap[rb]? = _ := (HB14.out.block rb hrs).symm.trans HR14.out
              exact (HB16.out.block rb hrs).trans h1
            have HCO' : Hid (Calls Tryz.prog 22 #[.slice (some ⟨b, ob, none⟩) C.length oc, .slice na D.length nc] (w15.drewN q) fun e w' => e = .returned (.int .i64 (m : Nat)) ∧ Below (w15.drewN q).heap.size (w15.drewN q) w') := HCO.out q
            obtain ⟨i0', i1, i2, i3⟩ := HR16.out.cells
            clear HS HCO HB15 d0 d1 d2 d3
            generalize w15.drewN q = w16 at *
            go_wp2_with fail
            refine HCO'.out.mono ?_
            rintro e w17 ⟨rfl, hb17⟩
            have HB17 : Hid (Below wr.heap.size wr w17) := HB16.out.trans (hb17.mono HB16.out.size)
            have HR17 : RdAt w17 rb (.slice (some ⟨b, ob, none⟩) C.length oc) a (.slice xa X.length xc) c := by
              have h1 : wr.heap[rb]? = _ := (HB16.out.block rb hrs).symm.trans HR16.out
              exact (HB17.out.block rb hrs).trans h1
            obtain ⟨j0, j1, j2, j3⟩ := HR17.cells
            have HEND : Hid (Below w.heap.size w w17) := (HB11.out.trans (HBU.out.under hrw (HB11.out.size))).trans (HB17.out.mono (by omega))
            clear HCO' HB16 HR16 i0' i1 i2 i3 HB14 HR14 HR17 hb17
            go_wp2_with fail
            go_quiet (fail)
            go_wp2_with fail
            go_ret
            exact ⟨rfl, below_drewN HEND.out _⟩
        · have hac' : a = C.length := by omega
          have zk : C.length - a = 0 := by omega
          have hDX : D = X := by rw [← hD, List.eq_nil_of_length_eq_zero (hml.trans zk), List.append_nil]
          clear hD hml
          subst hDX
          subst hac'
          by_cases hq : oc = C.length
          · subst hq
            have zk' : C.length - C.length = 0 := by omega
            have HO14 : Hid (w13.drew.ownsRow wr.heap.size 9 1 (.slice va D.length vc) D.length (strs D)) := HO13.out.drew
            have HB14 : Hid (Below wr.heap.size wr w13.drew) := HB13.out.drew
            have HV14 : Hid (View w13.drew oa C) := HV13.out.below ((Below.refl _ _).drew)
            have HR14 : Hid (RdAt w13.drew rb (.slice oa C.length C.length) C.length (.slice xa D.length xc) c) := HR13.out
            clear zk
            go_wp2_with fail
            go_region_law (first
              | (refine step_append_zero (by rfl) _ _ _ (by rfl) wr.heap.size 9 i0 1 Tryz.underlying35 hi _ D.length (strs D) (by rfl) HO13.out.drew ⟨_, _, by first | rfl | (simp [zk']; rfl)⟩ ?_))
            all_goals
              generalize w13.drew = w14 at *
              clear HB13 HO13 HR13 HV13
              go_wp2_with fail
              refine (HCV.out w14).mono ?_
              rintro e w15 ⟨v5, rfl, ho15, hb15⟩
              obtain ⟨na, nc, rfl⟩ := own_shape ho15
              have HS : Hid (Calls Tryz.prog 21 #[.slice va D.length vc, .slice na D.length nc] w15 fun e w' => e = .returned (.bool true) ∧ ∃ q, w' = w15.drewN q) := ksame16_any D _ _ _ _ _ _ w15 (own_below HO14.out hb15 (Nat.le_refl _)) ho15 (by omega)
              have HCO : Hid (∀ q, Calls Tryz.prog 22 #[.slice oa C.length C.length, .slice na D.length nc] (w15.drewN q) fun e w' => e = .returned (.int .i64 (CC C D 0 0 : Nat)) ∧ Below (w15.drewN q).heap.size (w15.drewN q) w') := fun q => common17_any C D (by omega) (by omega) _ _ _ _ _ ((HV14.out.below hb15).below (below_drewN (Below.refl _ _) q)) ((View.own ho15).below (below_drewN (Below.refl _ _) q))
              have HB15 : Hid (Below wr.heap.size wr w15) := HB14.out.trans (hb15.mono HB14.out.size)
              obtain ⟨m, hmm⟩ : ∃ m, CC C D 0 0 = m := ⟨_, rfl⟩
              rw [hmm] at HCO HCN
              have hcm : c + 2 * m = C.length + D.length := by rw [HZ.out.2]; exact HCN.out
              have g1 : IntKind.i64.wrap ((C.length : Int) + (D.length : Int)) = (C.length : Int) + (D.length : Int) := by simp [IntKind.wrap, IntKind.signed, IntKind.bits]; omega
              have g2 : IntKind.i64.wrap (2 * (m : Int)) = 2 * (m : Int) := by simp [IntKind.wrap, IntKind.signed, IntKind.bits]; omega
              have g3 : IntKind.i64.wrap ((C.length : Int) + (D.length : Int) - 2 * (m : Int)) = (C.length : Int) + (D.length : Int) - 2 * (m : Int) := by simp [IntKind.wrap, IntKind.signed, IntKind.bits]; omega
              have g4 : ((c : Int) == (C.length : Int) + (D.length : Int) - 2 * (m : Int)) = true := by rw [beq_iff_eq]; omega
              have g5 : ((c : Nat) : Int) = (C.length : Int) + (D.length : Int) - 2 * (m : Int) := by omega
              have HCM : Hid (c + 2 * m = C.length + D.length) := hcm
              clear hcm g5 HCV hmm HO14 HV14 ho15 hb15
              go_wp2_with fail
              refine HS.out.mono ?_
              rintro e w16 ⟨rfl, q, rfl⟩
              have HB16 : Hid (Below wr.heap.size wr (w15.drewN q)) := below_drewN HB15.out q
              have HR16 : Hid (RdAt (w15.drewN q) rb (.slice oa C.length C.length) C.length (.slice xa D.length xc) c) := by
                have h1 : wr.heap[rb]? = _ := (HB14.out.block rb hrs).symm.trans HR14.out
                exact (HB16.out.block rb hrs).trans h1
              have HCO' : Hid (Calls Tryz.prog 22 #[.slice oa C.length C.length, .slice na D.length nc] (w15.drewN q) fun e w' => e = .returned (.int .i64 (m : Nat)) ∧ Below (w15.drewN q).heap.size (w15.drewN q) w') := HCO.out q
              obtain ⟨i0', i1, i2, i3⟩ := HR16.out.cells
              clear HS HCO HB15 d0 d1 d2 d3
              generalize w15.drewN q = w16 at *
              go_wp2_with fail
              refine HCO'.out.mono ?_
              rintro e w17 ⟨rfl, hb17⟩
              have HB17 : Hid (Below wr.heap.size wr w17) := HB16.out.trans (hb17.mono HB16.out.size)
              have HR17 : RdAt w17 rb (.slice oa C.length C.length) C.length (.slice xa D.length xc) c := by
                have h1 : wr.heap[rb]? = _ := (HB16.out.block rb hrs).symm.trans HR16.out
                exact (HB17.out.block rb hrs).trans h1
              obtain ⟨j0, j1, j2, j3⟩ := HR17.cells
              have HEND : Hid (Below w.heap.size w w17) := (HB11.out.trans (HBU.out.under hrw (HB11.out.size))).trans (HB17.out.mono (by omega))
              clear HCO' HB16 HR16 i0' i1 i2 i3 HB14 HR14 HR17 hb17
              go_wp2_with fail
              go_quiet (fail)
              go_wp2_with fail
              go_ret
              exact ⟨rfl, below_drewN HEND.out _⟩
          · skip
            have zk' : C.length - C.length = 0 := by omega
            have HO14 : Hid (w13.drew.ownsRow wr.heap.size 9 1 (.slice va D.length vc) D.length (strs D)) := HO13.out.drew
            have HB14 : Hid (Below wr.heap.size wr w13.drew) := HB13.out.drew
            have HV14 : Hid (View w13.drew oa C) := HV13.out.below ((Below.refl _ _).drew)
            have HR14 : Hid (RdAt w13.drew rb (.slice oa C.length oc) C.length (.slice xa D.length xc) c) := HR13.out
            clear zk
            go_wp2_with fail
            go_region_law (first
              | (refine step_append_zero (by rfl) _ _ _ (by rfl) wr.heap.size 9 i0 1 Tryz.underlying35 hi _ D.length (strs D) (by rfl) HO13.out.drew ⟨_, _, by first | rfl | (simp [zk']; rfl)⟩ ?_))
            all_goals
              generalize w13.drew = w14 at *
              clear HB13 HO13 HR13 HV13
              go_wp2_with fail
              refine (HCV.out w14).mono ?_
              rintro e w15 ⟨v5, rfl, ho15, hb15⟩
              obtain ⟨na, nc, rfl⟩ := own_shape ho15
              have HS : Hid (Calls Tryz.prog 21 #[.slice va D.length vc, .slice na D.length nc] w15 fun e w' => e = .returned (.bool true) ∧ ∃ q, w' = w15.drewN q) := ksame16_any D _ _ _ _ _ _ w15 (own_below HO14.out hb15 (Nat.le_refl _)) ho15 (by omega)
              have HCO : Hid (∀ q, Calls Tryz.prog 22 #[.slice oa C.length oc, .slice na D.length nc] (w15.drewN q) fun e w' => e = .returned (.int .i64 (CC C D 0 0 : Nat)) ∧ Below (w15.drewN q).heap.size (w15.drewN q) w') := fun q => common17_any C D (by omega) (by omega) _ _ _ _ _ ((HV14.out.below hb15).below (below_drewN (Below.refl _ _) q)) ((View.own ho15).below (below_drewN (Below.refl _ _) q))
              have HB15 : Hid (Below wr.heap.size wr w15) := HB14.out.trans (hb15.mono HB14.out.size)
              obtain ⟨m, hmm⟩ : ∃ m, CC C D 0 0 = m := ⟨_, rfl⟩
              rw [hmm] at HCO HCN
              have hcm : c + 2 * m = C.length + D.length := by rw [HZ.out.2]; exact HCN.out
              have g1 : IntKind.i64.wrap ((C.length : Int) + (D.length : Int)) = (C.length : Int) + (D.length : Int) := by simp [IntKind.wrap, IntKind.signed, IntKind.bits]; omega
              have g2 : IntKind.i64.wrap (2 * (m : Int)) = 2 * (m : Int) := by simp [IntKind.wrap, IntKind.signed, IntKind.bits]; omega
              have g3 : IntKind.i64.wrap ((C.length : Int) + (D.length : Int) - 2 * (m : Int)) = (C.length : Int) + (D.length : Int) - 2 * (m : Int) := by simp [IntKind.wrap, IntKind.signed, IntKind.bits]; omega
              have g4 : ((c : Int) == (C.length : Int) + (D.length : Int) - 2 * (m : Int)) = true := by rw [beq_iff_eq]; omega
              have g5 : ((c : Nat) : Int) = (C.length : Int) + (D.length : Int) - 2 * (m : Int) := by omega
              have HCM : Hid (c + 2 * m = C.length + D.length) := hcm
              clear hcm g5 HCV hmm HO14 HV14 ho15 hb15
              go_wp2_with fail
              refine HS.out.mono ?_
              rintro e w16 ⟨rfl, q, rfl⟩
              have HB16 : Hid (Below wr.heap.size wr (w15.drewN q)) := below_drewN HB15.out q
              have HR16 : Hid (RdAt (w15.drewN q) rb (.slice oa C.length oc) C.length (.slice xa D.length xc) c) := by
                have h1 : wr.heap[rb]? = _ := (HB14.out.block rb hrs).symm.trans HR14.out
                exact (HB16.out.block rb hrs).trans h1
              have HCO' : Hid (Calls Tryz.prog 22 #[.slice oa C.length oc, .slice na D.length nc] (w15.drewN q) fun e w' => e = .returned (.int .i64 (m : Nat)) ∧ Below (w15.drewN q).heap.size (w15.drewN q) w') := HCO.out q
              obtain ⟨i0', i1, i2, i3⟩ := HR16.out.cells
              clear HS HCO HB15 d0 d1 d2 d3
              generalize w15.drewN q = w16 at *
              go_wp2_with fail
              refine HCO'.out.mono ?_
              rintro e w17 ⟨rfl, hb17⟩
              have HB17 : Hid (Below wr.heap.size wr w17) := HB16.out.trans (hb17.mono HB16.out.size)
              have HR17 : RdAt w17 rb (.slice oa C.length oc) C.length (.slice xa D.length xc) c := by
                have h1 : wr.heap[rb]? = _ := (HB16.out.block rb hrs).symm.trans HR16.out
                exact (HB17.out.block rb hrs).trans h1
              obtain ⟨j0, j1, j2, j3⟩ := HR17.cells
              have HEND : Hid (Below w.heap.size w w17) := (HB11.out.trans (HBU.out.under hrw (HB11.out.size))).trans (HB17.out.mono (by omega))
              clear HCO' HB16 HR16 i0' i1 i2 i3 HB14 HR14 HR17 hb17
              go_wp2_with fail
              go_quiet (fail)
              go_wp2_with fail
              go_ret
              exact ⟨rfl, below_drewN HEND.out _⟩
end Go.Proofs.YtgdfipmdmgkidaaGreatDoor
