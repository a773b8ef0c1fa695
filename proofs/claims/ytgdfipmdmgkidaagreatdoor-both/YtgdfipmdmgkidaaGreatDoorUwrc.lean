/- A step of a script writes a file with lines anew. -/
import Derived.Test.YtgdfipmdmgkidaaGreatDoorUedit
namespace Go.Proofs.YtgdfipmdmgkidaaGreatDoor
open Go.RowKit
section
variable {w : World} {B rb pb rg : Nat} {cap : Cfg} {gb fb n : Nat} {Ps : List PM} {f : ByteArray → Option ByteArray} {s : ByteArray → PL}
set_option maxRecDepth 100000 in
set_option maxHeartbeats 6400000 in
theorem run_write_old (h : RW w B rb pb rg cap gb fb n Ps f s) (p : Ed) (hp : EdOK p) {x : ByteArray} (hx : x ∈ names3) (hnx : ∀ w, Calls Tryz.prog 49 #[.int .i64 p.a] w fun e w' => e = .returned (.string x) ∧ w' = w) {t : ByteArray} (hf : f x = some t) (htx : TX t) (hne : cutAll t ≠ []) :
    Calls Tryz.prog 24 #[.pointer (some ⟨rb, 0, none⟩), .int .i64 cap.r, edV p] w fun e w' => e = .returned (.bool true) ∧ ∃ f', RW w' B rb pb rg cap gb fb n Ps f' s ∧ Below B w w' ∧ HeldT kin w w' := by
  obtain ⟨i0, hi, hz0, hz1, hz2⟩ := info_parts Tryz.info9
  obtain ⟨kd, a, b, c⟩ := p
  obtain ⟨_, ⟨a1, a2⟩, ⟨b1, b2⟩, ⟨c1, c2⟩⟩ := id hp
  have HX := hid hnx
  obtain ⟨w1, hw1⟩ : ∃ w1, w1 = w.alloc (.cells #[.int .i64 kd, .int .i64 a, .int .i64 b, .int .i64 c] 45) := ⟨_, rfl⟩
  have hb1 : Below w.heap.size w w1 := by rw [hw1]; exact (Below.refl _ _).alloc (Nat.le_refl _) _
  have hk1 : w1.heap[w.heap.size]? = some (.cells #[.int .i64 kd, .int .i64 a, .int .i64 b, .int .i64 c] 45 (0, 0)) := by rw [hw1]; exact (MapKept.heap_alloc w _).1
  have hs1 : w.heap.size < w1.heap.size := by rw [hw1]; simp
  have h1 := h.below hb1
  have HT : Hid (Calls Tryz.prog 50 #[.pointer (some ⟨pb, 0, none⟩), .int .i64 cap.r, .string x] w1 fun e w' => e = .returned (.tuple #[.string t, .int .i64 0]) ∧ Below w1.heap.size w1 w') := by
    have := h1.uw.text hx
    simp only [hf, Option.isSome_some, Option.getD_some, if_true] at this
    exact this
  have HH := hid h1
  have HB1 := hid hb1
  have HK1 := hid hk1
  have hB := h.base
  -- what ends every way
  have HEND : Hid (∀ u v, Below w1.heap.size w1 u → (∃ t, UW v B pb rg cap gb fb Ps (fun y => if y = x then some t else f y) s (idsTo n)) → Below B u v → HeldT kin3 u v → ∃ f', RW v B rb pb rg cap gb fb n Ps f' s ∧ Below B w v ∧ HeldT kin w v) := by
    intro u v hu ⟨t, hv⟩ hb hh
    exact ⟨_, (h1.below hu).put hv h1.ids (kin3k hh), (hb1.mono hB).trans ((hu.mono (by omega)).trans hb), (HeldT.of_below hb1).trans ((HeldT.of_below hu).trans (kin3k hh))⟩
  obtain ⟨rc0, rc1⟩ := h1.at_
  clear hnx h hb1 hp h1 hk1
  go_enter Tryz.func24, Tryz.ntmps24
  go_wp2_with fail
  rw [← hw1]
  clear hw1
  refine (HX.out _).mono ?_
  rintro e w' ⟨rfl, hww⟩
  have hww' := hww.symm
  clear hww
  subst hww'
  clear HX
  go_wp2_with fail
  refine HT.out.mono ?_
  rintro e w2 ⟨rfl, hb2⟩
  clear HT
  have HB2 := hid hb2
  have h2 := HH.out.below hb2
  obtain ⟨rd0, rd1⟩ := h2.at_
  have hk2 := (hb2.block _ hs1).trans HK1.out
  obtain ⟨e0, e1, e2, e3⟩ := cells4_of hk2
  have hs2 := hb2.size
  have HH2 := hid h2
  have HK2 := hid hk2
  clear hb2 h2 hk2 rc0 rc1 HH HK1
  obtain ⟨h16, hsh⟩ := htx.shape
  have HC : Hid (Calls Tryz.prog 19 #[.string t] w2 fun e w' => ∃ v, e = .returned v ∧ w'.ownsRow w2.heap.size 9 1 v (cutAll t).length (strs (cutAll t)) ∧ Below w2.heap.size w2 w') := kcut14_any t w2 (by have := htx.1; omega)
  obtain ⟨C, hC⟩ : ∃ C, cutAll t = C := ⟨_, rfl⟩
  rw [hC] at HC h16 hsh hne
  have HSH := hid (hsh.resolve_left hne)
  clear hsh htx hC hf
  go_wp2_with fail
  refine HC.out.mono ?_
  rintro e w3 ⟨v, rfl, hown3, hb3⟩
  clear HC
  have HB3 := hid hb3
  have hs3 := hb3.size
  have HCB : Hid (∀ u, Below w2.heap.size w2 u → WrS rb pb w.heap.size b c u) := fun u hu => ⟨((HH2.out.below hu).at_).c0, (hu.cell (p := ⟨w.heap.size, 2, none⟩) (by show w.heap.size < _; omega)).trans e2, (hu.cell (p := ⟨w.heap.size, 3, none⟩) (by show w.heap.size < _; omega)).trans e3⟩
  have HW : Hid (∀ u t', Below w2.heap.size w2 u → TX t' → Calls Tryz.prog 16 #[.pointer (some ⟨pb, 0, none⟩), .int .i64 cap.r, .string x, .string t'] u fun e w' => e = .returned (.int .i64 0) ∧ ∃ f', RW w' B rb pb rg cap gb fb n Ps f' s ∧ Below B w w' ∧ HeldT kin w w') := by
    intro u t' hu ht'
    refine ((HH2.out.below hu).uw.write hx ht').mono ?_
    rintro e w' ⟨rfl, hu', hb, hh⟩
    exact ⟨rfl, HEND.out u w' (HB2.out.trans (hu.mono hs2)) ⟨_, hu'⟩ hb hh⟩
  clear HEND HK2 HH2 e0 e1 e2 e3 rd0 rd1
  obtain ⟨ln, hln⟩ : ∃ ln, C.length = ln := ⟨_, rfl⟩
  rw [hln] at hown3 h16
  have h16' := h16
  obtain ⟨k, hk, hpk⟩ := kpick23_det b (ln + 1) (by omega) (by omega) b1 b2
  obtain ⟨hw, hhw, hph⟩ := kpick23_det c 3 (by omega) (by omega) c1 c2
  obtain ⟨hd3a, hd3b⟩ := tdiv_range 3 (by omega) (show i64R c from ⟨c1, c2⟩)
  obtain ⟨hd6a, hd6b⟩ := tdiv_range 16 (by omega) (show i64R c from ⟨c1, c2⟩)
  obtain ⟨l3, hl3, hc3⟩ := kline22_det (c.tdiv 3) hd3a hd3b
  obtain ⟨op, hop, hpo⟩ := kpick23_det (c.tdiv 16) 5 (by omega) (by omega) hd6a hd6b
  have HP9 := hid hpk
  have HPH := hid hph
  have HL3 := hid hc3
  have HPO := hid hpo
  have wd3 : IntKind.i64.wrap (c.tdiv 3) = c.tdiv 3 := by simp [IntKind.wrap, IntKind.signed, IntKind.bits]; omega
  have wd6 : IntKind.i64.wrap (c.tdiv 16) = c.tdiv 16 := by simp [IntKind.wrap, IntKind.signed, IntKind.bits]; omega
  have q9 : IntKind.i64.wrap ((ln : Int) + 1) = ((ln + 1 : Nat) : Int) := by simp [IntKind.wrap, IntKind.signed, IntKind.bits]; omega
  have hl3e := five_eight hl3
  clear hpk hph hc3 hpo hd3a hd3b hd6a hd6b hl3
  have hlne : ln ≠ 0 := fun e => hne (List.eq_nil_of_length_eq_zero (hln.trans e))
  obtain ⟨g, cp, hv, hgl⟩ : ∃ g cp, v = .slice (some ⟨g, 0, none⟩) ln cp ∧ w2.heap.size ≤ g := by
    rcases hown3.2 with ⟨_, h0⟩ | ⟨g, cp, cur, hv, hgl, _⟩
    · exact absurd h0 hlne
    · exact ⟨g, cp, hv, hgl⟩
  clear hne hlne
  subst hv
  have hgs : g < w3.heap.size := (hown3.lt g rfl).2
  have hcap : ln ≤ cp := own_cap hown3
  -- the last line gets its newline
  go_upto_region 7 with fail
  go_cut [11, 73] (fun s11 s73 wx => ∃ (bb : Bool) (q : Nat), s11 = .slice (some ⟨g, 0, none⟩) ln cp ∧ s73 = .bool bb ∧ wx = w3.drewN q ∧ (bb = false → AllE C) ∧ (bb = true → ∃ A m, C = A ++ [m] ∧ AllE A ∧ m.size ≤ 13 ∧ m ++ ⟨#[10]⟩ ∈ eightLines))
  case first =>
    obtain ⟨A, m, hCA, hAE, m1, m13, hm⟩ := HSH.out
    have hlA : ln = A.length + 1 := by rw [← hln, hCA]; simp
    have hlast : w3.cell? ⟨g, ln - 1, none⟩ = some (.string m) := by
      rw [hown3.cellAt (ln - 1) (by omega), hCA, hlA]
      simp [strs]
    have r1 : (0 : Int) < (ln : Int) := by omega
    have r1n : 0 < ln := by omega
    have r1d : decide (0 < ln) = true := decide_eq_true r1n
    have r1e : decide ((0 : Int) < (ln : Int)) = true := decide_eq_true r1
    have r2 : IntKind.i64.wrap ((ln : Int) - 1) = (ln : Int) - 1 := by simp [IntKind.wrap, IntKind.signed, IntKind.bits]; omega
    have r3 : ((ln : Int) - 1).toNat = ln - 1 := by omega
    have r4 : (0 : Int) ≤ (ln : Int) - 1 := by omega
    have r5 : (ln : Int) - 1 < (ln : Int) := by omega
    have s1 : IntKind.i64.wrap ((m.size : Int) - 1) = (m.size : Int) - 1 := by simp [IntKind.wrap, IntKind.signed, IntKind.bits]; omega
    have s2 : ((m.size : Int) - 1).toNat = m.size - 1 := by omega
    have s4 : (m.size : Int) - 1 < (m.size : Int) := by omega
    have s5 : (0 : Int) ≤ (m.size : Int) - 1 := by omega
    have s6 : (1 : Int) ≤ (m.size : Int) := by omega
    have s7 : (1 : Int) ≤ (ln : Int) := by omega
    rcases hm with ⟨hm1, hm2⟩ | ⟨hm1, hm2⟩
    · have h10 : m[m.size - 1].toNat = 10 := by rw [gb_eq m (m.size - 1) (by omega)]; exact hm1
      have k1 : (((m[m.size - 1].toNat : Nat) : Int) != 10) = false := by rw [h10]; rfl
      have HA0 : Hid (AllE C) := by rw [hCA]; exact hAE.app (AllE.one hm2)
      clear hCA hAE hm2 hlA
      go_quiet (fail)
      go_wp2
      go_meet
      exact ⟨false, _, rfl, rfl, rfl, fun _ => HA0.out, fun h => by cases h⟩
    · have h10 : m[m.size - 1].toNat ≠ 10 := by rw [gb_eq m (m.size - 1) (by omega)]; exact hm1
      have k1 : (((m[m.size - 1].toNat : Nat) : Int) != 10) = true := by rw [bne_iff_ne]; omega
      have k2 : ¬ ((m[m.size - 1].toNat : Nat) : Int) = 10 := by omega
      have HA0 : Hid (∃ A m, C = A ++ [m] ∧ AllE A ∧ m.size ≤ 13 ∧ m ++ ⟨#[10]⟩ ∈ eightLines) := ⟨A, m, hCA, hAE, m13, hm2⟩
      clear hCA hAE hm2 hlA
      go_quiet (fail)
      go_wp2
      go_meet
      exact ⟨true, _, rfl, rfl, rfl, (fun h => by cases h), fun _ => HA0.out⟩
  case rest =>
  obtain ⟨bb, q, rfl, rfl, rfl, hf1, ht1⟩ := hcut
  clear HSH
  have HF1 := hid hf1
  have HT1 := hid ht1
  clear hf1 ht1
  go_upto_if 73 with fail
  go_cut [] (fun wx => ∃ D : List ByteArray, AllE D ∧ D.length = ln ∧ wx.ownsRow w2.heap.size 9 1 (.slice (some ⟨g, 0, none⟩) ln cp) ln (strs D) ∧ Below w2.heap.size w2 wx)
  case first =>
    have hownQ : (w3.drewN q).ownsRow w2.heap.size 9 1 (.slice (some ⟨g, 0, none⟩) ln cp) ln (strs C) := own_below hown3 (below_drewN (Below.refl _ _) q) (Nat.le_refl _)
    have hbQ : Below w2.heap.size w2 (w3.drewN q) := below_drewN HB3.out q
    cases bb with
    | false =>
      have HFX := hid (HF1.out rfl)
      clear HF1 HT1
      go_wp2_with fail
      go_meet
      exact ⟨C, HFX.out, hln, hownQ, hbQ⟩
    | true =>
      obtain ⟨A, m, hCA, hAE, m13, hm2⟩ := HT1.out rfl
      have hlA : ln = A.length + 1 := by rw [← hln, hCA]; simp
      have hlast : (w3.drewN q).cell? ⟨g, ln - 1, none⟩ = some (.string m) := by
        rw [hownQ.cellAt (ln - 1) (by omega), hCA, hlA]
        simp [strs]
      have hfz : (w3.drewN q).frozen? ⟨g, ln - 1, none⟩ = false := hownQ.frozenAt _
      have r1 : (0 : Int) < (ln : Int) := by omega
      have r2 : IntKind.i64.wrap ((ln : Int) - 1) = (ln : Int) - 1 := by simp [IntKind.wrap, IntKind.signed, IntKind.bits]; omega
      have r3 : ((ln : Int) - 1).toNat = ln - 1 := by omega
      have r4 : (0 : Int) ≤ (ln : Int) - 1 := by omega
      have r5 : (ln : Int) - 1 < (ln : Int) := by omega
      have s7 : (1 : Int) ≤ (ln : Int) := by omega
      have z1 : ¬ 9223372036854775807 < m.size + 1 := by omega
      have HFIN : Hid (∃ D : List ByteArray, AllE D ∧ D.length = ln ∧ ((w3.drewN q).setCell ⟨g, ln - 1, none⟩ (.string (m ++ ⟨#[10]⟩))).ownsRow w2.heap.size 9 1 (.slice (some ⟨g, 0, none⟩) ln cp) ln (strs D) ∧ Below w2.heap.size w2 ((w3.drewN q).setCell ⟨g, ln - 1, none⟩ (.string (m ++ ⟨#[10]⟩)))) := by
        refine ⟨A ++ [m ++ ⟨#[10]⟩], hAE.app (AllE.one hm2), by simp [hlA], ?_, hbQ.setCell (by show w2.heap.size ≤ g; exact hgl) _⟩
        have h1 := (hownQ.stored (ln - 1) (.string (m ++ ⟨#[10]⟩))).1
        have e : (strs C).set (ln - 1) (.string (m ++ ⟨#[10]⟩)) = strs (A ++ [m ++ ⟨#[10]⟩]) := by
          rw [hCA, hlA]
          simp [strs]
        rw [e] at h1
        exact h1
      clear hCA hAE hlA hownQ hbQ
      generalize w3.drewN q = wq at *
      go_wp2_with fail
      go_meet
      exact HFIN.out
  case rest =>
  obtain ⟨D, hDE, hDl, hownD, hbD⟩ := hcut
  clear HF1 HT1 HB3 hown3 hgs hs3 hln h16
  generalize wc = wD at *
  have hsD := hbD.size
  have h16 : ln ≤ 16 := h16'
  obtain ⟨dc0, dc1, dc2⟩ := HCB.out wD hbD
  have hgD : g < wD.heap.size := (hownD.lt g rfl).2
  obtain ⟨O, hO⟩ : ∃ O, D.take k = O := ⟨_, rfl⟩
  have hOl : O.length = k := by rw [← hO, List.length_take]; omega
  have hOE : AllE O := by rw [← hO]; exact hDE.take k
  have HD1 : (strs O).length = k * 1 := by simp [strs]; omega
  have HD2 : Hid (k = 0 ∨ ∃ ad, some (⟨g, 0, none⟩ : Addr) = some ad ∧ ∀ j u, (strs O)[j]? = some u → wD.cell? (ad.add j) = some u) := .inr ⟨_, rfl, fun j u hj => by
    rw [← hO] at hj
    refine World.ownsRow.cells hownD (g := g) rfl j u ?_
    have hj2 : j < k := by
      have h1 := (List.getElem?_eq_some_iff.1 hj).1
      rw [hO] at h1
      omega
    unfold strs at hj ⊢
    rw [List.map_take, List.getElem?_take_of_lt hj2] at hj
    exact hj⟩
  have HOD := hid hownD
  have HBD := hid hbD
  have HDE := hid hDE
  have u1 : (k : Int) ≤ (cp : Int) := by omega
  have u2 : (k : Int) ≤ (ln : Int) := by omega
  have HOL := hid hOl
  have HOE := hid hOE
  clear hownD hbD hDE hO hOl hOE
  go_wp2_with fail
  refine (HP9.out _).mono ?_
  rintro e w' ⟨rfl, hww⟩
  have hww' := hww.symm
  clear hww
  subst hww'
  clear HP9
  go_wp2_with (at_builtin; refine wpList_append_all (by rfl) _ _ 35 (by rfl) wD.heap.size 9 i0 _ 1 16 Tryz.underlying35 hi hz0 hz1 hz2 rfl (by omega) _ 0 [] (by rfl) (World.ownsRow_nil _ _ _ _) (some ⟨g, 0, none⟩) k cp (strs O) (by rfl) HD1 HD2.out (strs_one _) (by unfold maxLen; omega) (by omega) (Nat.le_refl _) ?_)
  intro va vn vc w4 ho4 hg4
  have ho5 : w4.ownsRow wD.heap.size 9 1 (.slice va vn vc) O.length (strs O) := by
    rw [HOL.out]
    simpa using ho4
  have hvn : vn = k := by rw [(own_cells ho5).1, HOL.out]
  subst hvn
  have hb4 : Below wD.heap.size wD w4 := (Below.refl _ _).grown hg4 (Nat.le_refl _) (fun j hj => by cases hj)
  have HO5 : Hid (w4.ownsRow wD.heap.size 9 1 (.slice va vn vc) vn (strs O)) := by
    rw [HOL.out] at ho5
    exact ho5
  have HB4 := hid hb4
  have hs4 := hb4.size
  obtain ⟨f0, f1, f2⟩ := HCB.out w4 (HBD.out.trans (hb4.mono hsD))
  clear ho4 hg4 ho5 HD1 HD2 dc0 dc1 dc2 hb4
  go_wp2_with fail
  refine (HPH.out _).mono ?_
  rintro e w' ⟨rfl, hww⟩
  have hww' := hww.symm
  clear hww
  subst hww'
  clear HPH
  go_upto_if 102 with fail
  go_cut [14] (fun s14 wx => ∃ hh : Nat, s14 = .int .i64 hh ∧ hh < 3 ∧ wx = w4)
  case first =>
    by_cases h6 : ln = 16
    · have hb6 : ((ln : Int) == 16) = true := by simp; omega
      have H6 := hid h6
      clear h6
      go_wp2_with fail
      go_meet
      exact ⟨1, rfl, by omega, rfl⟩
    · have hb6 : ((ln : Int) == 16) = false := by simp; omega
      have hb7 : ¬ (ln : Int) = 16 := by omega
      clear h6
      go_wp2_with fail
      go_meet
      exact ⟨hw, rfl, hhw, rfl⟩
  case rest =>
  obtain ⟨hh, rfl, hh3, hwc⟩ := hcut
  have hwc' := hwc.symm
  clear hwc
  subst hwc'
  clear hhw
  -- a line comes
  go_upto_if 104 with fail
  go_cut [13] (fun s13 wx => ∃ (vb : Option Addr) (ol vd : Nat) (E : List ByteArray), s13 = .slice vb ol vd ∧ E.length = ol ∧ AllE E ∧ ol ≤ vn + 1 ∧ wx.ownsRow wD.heap.size 9 1 (.slice vb ol vd) ol (strs E) ∧ Below wD.heap.size wD wx)
  case first =>
    by_cases hh1 : hh = 1
    · have hb1 : ((hh : Int) != 1) = false := by simp; omega
      have H1 := hid hh1
      clear hh1
      go_wp2_with fail
      go_meet
      exact ⟨va, vn, vc, O, rfl, HOL.out, HOE.out, by omega, HO5.out, HB4.out⟩
    · have hb1 : ((hh : Int) != 1) = true := by simp; omega
      have hb2 : ¬ (hh : Int) = 1 := by omega
      clear hh1
      go_wp2_with fail
      refine (HL3.out _).mono ?_
      rintro e w' ⟨rfl, hww⟩
      have hww' := hww.symm
      clear hww
      subst hww'
      have hown4 := HO5.out
      go_wp2_with (at_builtin; refine wpList_append_own _ rfl _ _ 35 rfl wD.heap.size 9 i0 (.string ⟨#[]⟩) 1 16 Tryz.underlying35 hi hz0 hz1 hz2 rfl (by decide) _ _ _ rfl (hown4.alloc _) ⟨w4.heap.size, 0, none⟩ 1 1 [.string l3] rfl rfl ?c1 ?c2 ?c3 ?c4 ?c5 ?_)
      case c1 => exact new_one _ _ _
      case c2 => exact strs_one [_]
      case c3 => unfold maxLen; omega
      case c4 => omega
      case c5 => simp; omega
      intro v' w5 hown' hg _
      have HOW' : Hid (w5.ownsRow wD.heap.size 9 1 v' (vn + 1) (strs (O ++ [l3]))) := by
        have e : strs (O ++ [l3]) = strs O ++ [.string l3] := by simp [strs]
        rw [e]
        exact hown'
      have HBW : Hid (Below wD.heap.size wD w5) := (HB4.out.alloc hs4 _).grown hg (by simp; omega) (fun j hj => (hown4.lt j hj).1)
      clear hown' hg hown4
      obtain ⟨vb, vd, rfl⟩ := own_shape HOW'.out
      go_wp2_with fail
      go_meet
      exact ⟨vb, vn + 1, vd, O ++ [l3], rfl, by rw [List.length_append, HOL.out]; rfl, HOE.out.app (AllE.one hl3e), by omega, HOW'.out, HBW.out⟩
  case rest =>
  obtain ⟨vb, ol, vd, E, rfl, hEl, hEE, hol, hownE, hbE⟩ := hcut
  clear HL3 HO5 HB4 hs4 f0 f1 f2 HOE HOL wd3
  generalize wc = wE at *
  have hsE := hbE.size
  have HOE := hid hownE
  have HBE := hid hbE
  have HEE := hid hEE
  have HEL := hid hEl
  clear hownE hbE hEE hEl
  -- a line goes, or is another
  go_upto_region 17 with fail
  go_cut [119] (fun s119 wx => ∃ bb : Bool, s119 = .bool bb ∧ (bb = true → vn < ln) ∧ wx = wE)
  case first =>
    by_cases hh0 : hh = 0
    · have hb1 : ((hh : Int) != 0) = false := by simp; omega
      have H1 := hid hh0
      clear hh0
      go_wp2_with fail
      go_meet
      exact ⟨false, rfl, (fun h => by cases h), rfl⟩
    · have hb1 : ((hh : Int) != 0) = true := by simp; omega
      have hb2 : ¬ (hh : Int) = 0 := by omega
      clear hh0
      by_cases hkl : vn < ln
      · have hb3 : decide ((vn : Int) < (ln : Int)) = true := by simp; omega
        have hb4 : (vn : Int) < (ln : Int) := by omega
        go_wp2_with fail
        go_meet
        exact ⟨true, rfl, fun _ => hkl, rfl⟩
      · have hb3 : decide ((vn : Int) < (ln : Int)) = false := by simp; omega
        have hb4 : ¬ (vn : Int) < (ln : Int) := by omega
        go_wp2_with fail
        go_meet
        exact ⟨false, rfl, (fun h => by cases h), rfl⟩
  case rest =>
  obtain ⟨bb, rfl, hbb, hwc⟩ := hcut
  have hwc' := hwc.symm
  clear hwc
  subst hwc'
  have HBBB := hid hbb
  clear hbb
  go_upto_if 119 with fail
  go_cut [12] (fun s12 wx => ∃ kk : Nat, s12 = .int .i64 kk ∧ kk ≤ ln ∧ vn ≤ kk ∧ wx = wE)
  case first =>
    have q1 : IntKind.i64.wrap ((vn : Int) + 1) = ((vn + 1 : Nat) : Int) := by simp [IntKind.wrap, IntKind.signed, IntKind.bits]; omega
    cases bb with
    | false =>
      clear HBBB
      go_wp2_with fail
      go_meet
      exact ⟨vn, rfl, by omega, by omega, rfl⟩
    | true =>
      have hlt := HBBB.out rfl
      clear HBBB
      go_wp2_with fail
      go_meet
      exact ⟨vn + 1, by first | rfl | (simp), by omega, by omega, rfl⟩
  case rest =>
  obtain ⟨kk, rfl, hkk, hkv, hwc⟩ := hcut
  have hwc' := hwc.symm
  clear hwc
  subst hwc'
  clear HBBB
  go_upto_region 19 with fail
  go_cut [11, 13] (fun _ s13 wx => ∃ (vb : Option Addr) (ol vd : Nat) (E : List ByteArray), s13 = .slice vb ol vd ∧ E.length = ol ∧ AllE E ∧ ol ≤ 40 ∧ wx.ownsRow wD.heap.size 9 1 (.slice vb ol vd) ol (strs E) ∧ Below wD.heap.size wD wx)
  case first =>
    have hownl : wE.ownsRow w2.heap.size 9 1 (.slice (some ⟨g, 0, none⟩) ln cp) ln (strs D) := own_below HOD.out HBE.out (Nat.le_refl _)
    have v0 : (0 : Int) ≤ (kk : Int) := by omega
    have v1 : (kk : Int) ≤ (ln : Int) := by omega
    have v2 : (ln : Int) ≤ (cp : Int) := by omega
    have tk : ((ln : Int) - (kk : Int)).toNat = ln - kk := by omega
    have to' : ((cp : Int) - (kk : Int)).toNat = cp - kk := by omega
    obtain ⟨F, hF⟩ : ∃ F, D.drop kk = F := ⟨_, rfl⟩
    have hFl : F.length = ln - kk := by rw [← hF, List.length_drop, hDl]
    have HFE : Hid (AllE F) := by rw [← hF]; exact HDE.out.drop kk
    have HFL := hid hFl
    have hF1 : (strs F).length = (ln - kk) * 1 := by simp [strs]; omega
    have HFC : Hid (¬ cp = kk → ∀ j u, (strs F)[j]? = some u → wE.cell? ((⟨g, kk, none⟩ : Addr).add j) = some u) := by
      intro _ j u hj
      rw [← hF] at hj
      have h1 : (strs D)[kk + j]? = some u := by
        unfold strs at hj ⊢
        rw [List.map_drop, List.getElem?_drop] at hj
        exact hj
      have h2 := World.ownsRow.cells hownl (g := g) rfl (kk + j) u h1
      have e : (⟨g, kk, none⟩ : Addr).add j = (⟨g, 0, none⟩ : Addr).add (kk + j) := by
        unfold Addr.add
        by_cases h0 : j = 0 <;> by_cases h3 : kk = 0 <;> simp [h0, h3]
      rw [e]
      exact h2
    have hownE := HOE.out
    clear hF hFl hownl
    by_cases hq : cp = kk
    · have zk : ln - kk = 0 := by omega
      have HZK := hid zk
      go_wp2_with (at_builtin; refine wpList_append_all (by rfl) _ _ 35 (by rfl) wD.heap.size 9 i0 _ 1 16 Tryz.underlying35 hi hz0 hz1 hz2 rfl (by omega) _ ol (strs E) (by rfl) HOE.out _ _ _ (strs F) (by rfl) ?e1 ?e2 (strs_one _) ?e3 ?e4 (by omega) ?_)
      case e1 => first | exact hF1 | (rw [hF1, HZK.out]) | (simp; omega)
      case e3 => unfold maxLen; omega
      case e4 => omega
      intro va5 vn5 vc5 w5 ho5 hg5
      have HFIN : Hid (∃ (vb : Option Addr) (ol vd : Nat) (E : List ByteArray), Value.slice va5 vn5 vc5 = .slice vb ol vd ∧ E.length = ol ∧ AllE E ∧ ol ≤ 40 ∧ w5.ownsRow wD.heap.size 9 1 (.slice vb ol vd) ol (strs E) ∧ Below wD.heap.size wD w5) := by
        have e1 : strs (E ++ F) = strs E ++ strs F := by simp [strs]
        have e2 : (E ++ F).length = ol + (ln - kk) := by rw [List.length_append, HEL.out, HFL.out]
        have h5 : w5.ownsRow wD.heap.size 9 1 (.slice va5 vn5 vc5) (E ++ F).length (strs (E ++ F)) := by
          rw [e1, e2]
          rw [HZK.out]
          exact ho5
        have hn5 : vn5 = (E ++ F).length := (own_cells h5).1
        refine ⟨va5, vn5, vc5, E ++ F, rfl, hn5.symm, HEE.out.app HFE.out, by omega, ?_, HBE.out.grown hg5 (by omega) (fun j hj => (hownE.lt j hj).1)⟩
        rw [← hn5] at h5
        exact h5
      clear ho5 hg5
      go_wp2_with fail
      go_meet
      exact HFIN.out
    · go_wp2_with (at_builtin; refine wpList_append_all (by rfl) _ _ 35 (by rfl) wD.heap.size 9 i0 _ 1 16 Tryz.underlying35 hi hz0 hz1 hz2 rfl (by omega) _ ol (strs E) (by rfl) HOE.out _ _ _ (strs F) (by rfl) ?f1 ?f2 (strs_one _) ?f3 ?f4 (by omega) ?_)
      case f1 => exact hF1
      case f2 => exact .inr ⟨_, rfl, HFC.out hq⟩
      case f3 => unfold maxLen; omega
      case f4 => omega
      intro va5 vn5 vc5 w5 ho5 hg5
      have HFIN : Hid (∃ (vb : Option Addr) (ol vd : Nat) (E : List ByteArray), Value.slice va5 vn5 vc5 = .slice vb ol vd ∧ E.length = ol ∧ AllE E ∧ ol ≤ 40 ∧ w5.ownsRow wD.heap.size 9 1 (.slice vb ol vd) ol (strs E) ∧ Below wD.heap.size wD w5) := by
        have e1 : strs (E ++ F) = strs E ++ strs F := by simp [strs]
        have e2 : (E ++ F).length = ol + (ln - kk) := by rw [List.length_append, HEL.out, HFL.out]
        have h5 : w5.ownsRow wD.heap.size 9 1 (.slice va5 vn5 vc5) (E ++ F).length (strs (E ++ F)) := by
          rw [e1, e2]
          exact ho5
        have hn5 : vn5 = (E ++ F).length := (own_cells h5).1
        refine ⟨va5, vn5, vc5, E ++ F, rfl, hn5.symm, HEE.out.app HFE.out, by omega, ?_, HBE.out.grown hg5 (by omega) (fun j hj => (hownE.lt j hj).1)⟩
        rw [← hn5] at h5
        exact h5
      clear ho5 hg5
      go_wp2_with fail
      go_meet
      exact HFIN.out
  case rest =>
  obtain ⟨vb2, ol2, vd2, E2, rfl, hEl2, hEE2, hol2, hownE2, hbE2⟩ := hcut
  clear HOE HBE HEE HEL hsE hkk hkv hol HOD HDE hDl hgD
  generalize wc = wF at *
  have HBF : Hid (Below w2.heap.size w2 wF) := HBD.out.trans (hbE2.mono hsD)
  have hcp2 : ol2 ≤ vd2 := own_cap hownE2
  have HOF := hid hownE2
  have HE2 := hid hEE2
  have HL2 := hid hEl2
  obtain ⟨f0, f1, f2⟩ := HCB.out wF HBF.out
  clear hownE2 hbE2 hEE2 hEl2
  go_upto_if 129 with fail
  go_cut [13] (fun s13 wx => ∃ (vb : Option Addr) (ol vd : Nat) (E : List ByteArray), s13 = .slice vb ol vd ∧ E.length = ol ∧ AllE E ∧ ol ≤ 16 ∧ View wx vb E ∧ wx = wF)
  case first =>
    have hVO : View wF vb2 E2 := by
      have h1 := HOF.out
      rw [← HL2.out] at h1
      exact View.own h1
    by_cases h6 : 16 < ol2
    · have hb6 : decide ((16 : Int) < (ol2 : Int)) = true := by simp; omega
      have hb7 : (16 : Int) < (ol2 : Int) := by omega
      have hb8 : (16 : Int) ≤ (vd2 : Int) := by omega
      obtain ⟨g2, hg2, _⟩ := own_at HOF.out (by omega)
      subst hg2
      have HV : Hid (View wF (some ⟨g2, 0, none⟩) (E2.take 16)) := by
        rcases hVO with h0 | ⟨b', o', e', h1, h2⟩
        · have := HL2.out
          omega
        · refine .inr ⟨b', o', e', h1, fun j hj => ?_⟩
          have hj2 : j < E2.length := by rw [List.length_take] at hj; omega
          have hj3 : j < 16 := by rw [List.length_take] at hj; omega
          rw [h2 j hj2]
          simp only [List.getD_eq_getElem?_getD, List.getElem?_take_of_lt hj3]
      clear hVO
      go_wp2_with fail
      go_meet
      exact ⟨some ⟨g2, 0, none⟩, 16, vd2, E2.take 16, rfl, by rw [List.length_take, HL2.out]; omega, HE2.out.take 16, by omega, HV.out, rfl⟩
    · have hb6 : decide ((16 : Int) < (ol2 : Int)) = false := by simp; omega
      have hb7 : ¬ (16 : Int) < (ol2 : Int) := by omega
      have HV := hid hVO
      clear hVO
      go_wp2_with fail
      go_meet
      exact ⟨vb2, ol2, vd2, E2, rfl, HL2.out, HE2.out, by omega, HV.out, rfl⟩
  case rest =>
  obtain ⟨vb3, ol3, vd3, E3, rfl, hEl3, hEE3, hol3, hV3, hwc⟩ := hcut
  have hwc' := hwc.symm
  clear hwc
  subst hwc'
  clear HOF HE2 HL2 hcp2 hol2
  obtain ⟨jt, hjt⟩ : ∃ jt, joinedB E3 ((op : Int) == 4) = jt := ⟨_, rfl⟩
  have HJ : Hid (Calls Tryz.prog 40 #[.slice vb3 ol3 vd3, .bool ((op : Int) == 4)] wF fun e w' => e = .returned (.string jt) ∧ w' = wF) := by
    have := kjoined24_any E3 ((op : Int) == 4) vb3 vd3 wF hV3 (by omega) hEE3.size
    rw [hEl3, hjt] at this
    exact this
  have HTJ : Hid (jt.size ≤ 240 → TX jt) := fun hs => by
    rw [← hjt] at hs ⊢
    exact TX.joined hEE3 (by omega) hs
  clear hjt hV3 hEE3 hEl3
  go_wp2_with fail
  refine (HPO.out _).mono ?_
  rintro e w' ⟨rfl, hww⟩
  have hww' := hww.symm
  clear hww
  subst hww'
  clear HPO
  go_wp2_with fail
  refine HJ.out.mono ?_
  rintro e w' ⟨rfl, hww⟩
  have hww' := hww.symm
  clear hww
  subst hww'
  clear HJ
  go_upto_if 141 with fail
  go_cut [15] (fun s15 wx => ∃ t', s15 = .string t' ∧ TX t' ∧ wx = wF)
  case first =>
    by_cases h24 : 240 < jt.size
    · have hb6 : decide ((240 : Int) < (jt.size : Int)) = true := by simp; omega
      have hb7 : (240 : Int) < (jt.size : Int) := by omega
      go_wp2_with fail
      go_meet
      exact ⟨_, rfl, TX.small, rfl⟩
    · have hb6 : decide ((240 : Int) < (jt.size : Int)) = false := by simp; omega
      have hb7 : ¬ (240 : Int) < (jt.size : Int) := by omega
      go_wp2_with fail
      go_meet
      exact ⟨jt, rfl, HTJ.out (by omega), rfl⟩
  case rest =>
  obtain ⟨t', rfl, htx, hwc⟩ := hcut
  have hwc' := hwc.symm
  clear hwc
  subst hwc'
  have HWW := HW.out wF t' HBF.out htx
  clear HTJ HW
  go_wp2_with fail
  refine HWW.mono ?_
  rintro e w' ⟨rfl, hend⟩
  have HE := hid hend
  clear hend
  go_wp2_with fail
  go_ret
  exact ⟨rfl, HE.out⟩
end
end Go.Proofs.YtgdfipmdmgkidaaGreatDoor
