/- The walk of the statement Same. -/
import Derived.Test.YtgdfipmdmgkidaaGreatDoorMcar
namespace Go.Proofs.YtgdfipmdmgkidaaGreatDoor
open Go.RowKit
def IntsAt (W : World) (B : Nat) (so : Option Addr) (ks : List Int) : Prop :=
  ks = [] ∨ ∃ b o, so = some ⟨b, o, none⟩ ∧ b < B ∧ b < W.heap.size ∧ ∀ (i : Nat) (v : Int), ks[i]? = some v → W.cell? ⟨b, o + i, none⟩ = some (.int .i64 v)
theorem IntsAt.below {W W' : World} {B : Nat} {so : Option Addr} {ks : List Int} (h : IntsAt W B so ks) (hb : Below B W W') : IntsAt W' B so ks := by
  rcases h with h | ⟨b, o, rfl, h1, h2, h3⟩
  · exact .inl h
  · exact .inr ⟨b, o, rfl, h1, Nat.lt_of_lt_of_le h2 hb.size, fun i v hv => (hb.cell (p := ⟨b, o + i, none⟩) h1).trans (h3 i v hv)⟩
structure SmW (w wr : World) (B rb pb rg : Nat) (c : Cfg) (gb fb n : Nat) (Ps : List PM) (B0 lb lc m : Nat) : Prop where
  st : ∃ Q t, SmI wr B rb pb rg c gb fb n Ps Q t
  log : wr.ownsRow B0 9 1 (.slice (some ⟨lb, 0, none⟩) m lc) m (strs (texts Ps))
  bel : Below w.heap.size w wr
theorem files_kept (s : ByteArray → PL) (k : Nat) : filesX (keptO s) k = keptX s k := by
  unfold filesX keptX
  apply List.map_congr_left
  intro i _
  unfold fileL keptL keptO
  by_cases h : (s (nmAt i)).alive = true
  · simp [h]
  · simp [h]
theorem pullSp0 : pullSp 0 = ⟨#[112, 117, 108, 108, 32, 48, 32]⟩ := rfl
theorem pullHead0 : pullHead 0 = ⟨#[112, 117, 108, 108, 32, 48]⟩ := rfl
theorem pullHead1 : pullHead 1 = ⟨#[112, 117, 108, 108, 32, 49]⟩ := rfl
set_option maxRecDepth 100000 in
set_option maxHeartbeats 12800000 in
theorem same11_any (w : World) (L : List Ed) (so : Option Addr) (sc : Nat) (hL : EdsAt w w.heap.size so L) (hok : ∀ p ∈ L, EdOK p) (hlen : L.length ≤ 9223372036854775807) (ks : List Int) (po : Option Addr) (pc : Nat) (hks : IntsAt w w.heap.size po ks) (hki : ∀ v ∈ ks, i64R v) (hkl : ks.length ≤ 9223372036854775807) :
    Calls Tryz.prog 11 #[.slice so L.length sc, .slice po ks.length pc] w fun e w' => e = .returned (.bool true) ∧ Below w.heap.size w w' := by
  have HBG := hid (begun_any w 3 (by omega) (by omega) L so sc hL hok hlen)
  have HKS := hid hks
  have HKI := hid hki
  clear hL hok hlen hks hki
  go_enter Tryz.func11, Tryz.ntmps11
  go_wp2_with fail
  refine HBG.out.mono ?_
  rintro e w1 ⟨rb, rfl, hbg⟩
  clear HBG
  obtain ⟨B, pb, rg, cap, gb, fb, n, Ps, f, s, hBw, hn3, hnr, hr0, hemp, h1, P1, P2, X, hPX, -⟩ := hbg.st
  have hb1 := hbg.below
  clear hbg
  have hn41 := h1.hi
  have hwP : HWt Ps s := h1.uw.fs.hw
  have HIDS : Hid (∀ P ∈ Ps, ∃ m, m < 42 ∧ P.id = idN m) := fun P hP => by
    obtain ⟨m, hm, e⟩ := ids_in (h1.ids P hP)
    exact ⟨m, by omega, e⟩
  obtain ⟨m, hm⟩ : ∃ m, Ps.length = m := ⟨_, rfl⟩
  have hm2 : 2 ≤ m := by rw [← hm, hPX]; simp
  have hm40 : m ≤ 40 := by rw [← hm]; exact hwP.len
  have o1 : cap.oth 1 := ⟨by omega, by omega⟩
  have o2 : cap.oth 2 := ⟨by omega, by omega⟩
  obtain ⟨b1, hb1e⟩ := hemp 1 o1
  obtain ⟨b2, hb2e⟩ := hemp 2 o2
  obtain ⟨c1, c1r, c1n, ⟨pv0, c10⟩, c1o, hc1⟩ := h1.rg_.look o1 (s := fun _ => pl0) (by rw [hb1e]; exact FS.nil.hw) (fun x hx => by rw [hb1e] at hx; cases hx)
  rw [hr0] at c10
  have c12 : c1.rep 2 = emptyRep b2 := by rw [c1o 2 (by omega)]; exact hb2e
  rw [hb1e] at hc1
  have hS1 : SmI w1 B rb pb rg c1 gb b1 n Ps [] (fun _ => pl0) := ⟨(by rw [← keptO_nil]; exact hc1), (fun P hP => by cases hP), (fun k P hk => by simp at hk)⟩
  have HLG := h1.rg_.lg
  rw [hm, hr0] at HLG
  have HLG := hid HLG
  have HFN : Hid (∀ x, (f x).isSome = true → x ∈ names3) := h1.rg_.uw.fnm
  have HWP := hid hwP
  have HM := hid hm
  have HB1 := hid hb1
  have HS1 := hid hS1
  have HC10 := hid c10
  have HC12 := hid c12
  have HC1R := hid c1r
  have HC1N : Hid (c1.nr = 3) := by show _ = _; rw [c1n, hnr]
  clear h1 hemp hPX hb1e hb2e o1 o2 hc1 hS1 hwP hm c1o c10 c12 c1r c1n hnr hr0 hb1
  go_wp2_with fail
  refine HLG.out.mono ?_
  rintro e w2 ⟨la, lc, rfl, hlo, hb2⟩
  clear HLG
  obtain ⟨lb, rfl, _, _⟩ := own_at hlo (by omega)
  have g1 : decide ((m : Int) < 2) = false := by simp; omega
  have HLO := hid hlo
  have HS2 := hid (HS1.out.below hb2)
  have HB2 : Hid (Below w.heap.size w w2) := HB1.out.trans (hb2.mono HB1.out.size)
  clear hlo hb2 HS1
  go_wp2_with fail
  have HW2 : Hid (SmW w w2 B rb pb rg c1 gb b1 n Ps w1.heap.size lb lc m) := ⟨⟨_, _, HS2.out⟩, HLO.out, HB2.out⟩
  have hr1 : (c1.r : Int) = 1 := by rw [HC1R.out]; rfl
  have HO0 : Hid (c1.oth 0) := ⟨by rw [HC1N.out]; omega, by rw [HC1R.out]; omega⟩
  clear HS2 HLO HB2
  go_loopw [8] (fun x wr => ∃ j : Nat, j ≤ ks.length ∧ x = .int .i64 j ∧ Hid (SmW w wr B rb pb rg c1 gb b1 n Ps w1.heap.size lb lc m)) (fun x _ => ks.length - (intOf x).toNat)
  case atStart => exact ⟨0, Nat.zero_le _, rfl, HW2⟩
  case round =>
    clear HW2
    obtain ⟨j, hj, rfl, HI⟩ := hrel
    obtain ⟨Q, t, hS⟩ := HI.out.st
    by_cases hlt : j < ks.length
    · obtain ⟨v, hv⟩ : ∃ v, ks[j]? = some v := ⟨_, List.getElem?_eq_getElem hlt⟩
      obtain ⟨v1, v2⟩ := HKI.out v (List.mem_of_getElem? hv)
      obtain ⟨kb, ko, rfl, ck⟩ : ∃ b o, po = some ⟨b, o, none⟩ ∧ wr.cell? ⟨b, o + j, none⟩ = some (.int .i64 v) := by
        rcases HKS.out.below HI.out.bel with h0 | ⟨b, o, e, _, _, hc⟩
        · rw [h0] at hlt
          simp at hlt
        · exact ⟨b, o, e, hc j v hv⟩
      obtain ⟨k, hk, hpk⟩ := kpick23_det v m (by omega) (by omega) v1 v2
      have HPK := hid hpk
      obtain ⟨P, hP⟩ : ∃ P, Ps[k]? = some P := ⟨_, List.getElem?_eq_getElem (by rw [HM.out]; exact hk)⟩
      have cw := texts_cell HI.out.log hP hk
      obtain ⟨i, hi, hPi⟩ := HIDS.out P (List.mem_of_getElem? hP)
      have HDO : Hid (Calls Tryz.prog 17 #[.pointer (some ⟨pb, 0, none⟩), .int .i64 1, .string (⟨#[112, 117, 108, 108, 32, 48, 32]⟩ ++ idText P.id)] wr fun e w' => ∃ T, e = .returned (.tuple #[.string T, .int .i64 0]) ∧ (∃ Q' t', SmI w' B rb pb rg c1 gb b1 n Ps Q' t' ∧ P ∈ Q') ∧ Below B wr w' ∧ HeldT kin wr w') := by
        have := hS.one HO0.out (by omega) (by rw [HC10.out]) HWP.out hP hi hPi
        rw [hr1, pullSp0, ← idText_nth i (List.mem_range.2 hi), ← hPi] at this
        exact this
      have hx4 := idText_size P.id
      obtain ⟨x, hx⟩ : ∃ x, idText P.id = x := ⟨_, rfl⟩
      have HX := hid hx
      rw [hx] at HDO cw hx4
      have c0 := (run_at hS.rg.run).c0
      have q1 : (j : Int) < (ks.length : Int) := by omega
      have q2 : (k : Int) < (m : Int) := by omega
      have z9 : ¬ 9223372036854775807 < 7 + x.size := by omega
      clear hv hpk hP hPi hx hS
      go_wp2_with fail
      refine (HPK.out _).mono ?_
      rintro e w0 ⟨rfl, hw0⟩
      have hw0' := hw0.symm
      subst hw0'
      clear HPK ck hw0
      go_wp2_with fail
      refine HDO.out.mono ?_
      rintro e w3 ⟨T, rfl, ⟨Q', t', hS3, hPQ⟩, hb3, hh3⟩
      clear HDO c0 cw
      have HW3 : Hid (SmW w w3 B rb pb rg c1 gb b1 n Ps w1.heap.size lb lc m) := ⟨⟨_, _, hS3⟩, own_heldT HI.out.log hh3 (.inl rfl), HI.out.bel.trans (hb3.mono hBw)⟩
      have HL3 := hS3.rg.lg
      rw [hr1] at HL3
      obtain ⟨k', hk', hf1, hf2⟩ := texts_find (List.mem_map.2 ⟨P, hPQ, rfl⟩ : P.id ∈ Q'.map (·.id))
      rw [HX.out] at hf1 hf2
      have hql := hS3.rg.uw.hw.len
      have HTL := hid (texts_len Q')
      obtain ⟨ql, hqle⟩ : ∃ ql, Q'.length = ql := ⟨_, rfl⟩
      rw [hqle] at HL3 hk' hql HTL
      have HL3 := hid HL3
      have HF1 := hid hf1
      have HF2 := hid hf2
      clear HI hS3 hPQ hb3 hh3 hf1 hf2 hqle
      go_wp2_with fail
      refine HL3.out.mono ?_
      rintro e w4 ⟨qa, qc, rfl, hqo, hb4⟩
      clear HL3
      obtain ⟨gq, rfl, _, _⟩ := own_at hqo (by omega)
      have HPC : Hid (Calls Tryz.prog 32 #[.slice (some ⟨gq, 0, none⟩) ql qc, .string x] w4 fun e w' => e = .returned (.int .i64 k') ∧ w' = w4) := by
        have := place32_any (texts Q') gq 0 qc k' x w4 (fun i y hy => by
          have hi : i < ql := by rw [← HTL.out]; exact (List.getElem?_eq_some_iff.1 hy).1
          rw [Nat.zero_add, hqo.cellAt i (by omega)]
          unfold strs
          rw [List.getElem?_map, hy]
          rfl) (by rw [HTL.out]; omega) HF1.out HF2.out
        rw [HTL.out] at this
        exact this
      obtain ⟨Q4, t4, hS4⟩ := HW3.out.st
      have HW4 : Hid (SmW w w4 B rb pb rg c1 gb b1 n Ps w1.heap.size lb lc m) := ⟨⟨_, _, hS4.below hb4⟩, own_below HW3.out.log hb4 (Nat.le_refl _), HW3.out.bel.trans (hb4.mono HW3.out.bel.size)⟩
      clear HW3 hS4 hb4 hqo HF1 HF2
      go_wp2_with fail
      refine HPC.out.mono ?_
      rintro e w5 ⟨rfl, hw5⟩
      have hw5' := hw5.symm
      subst hw5'
      clear HPC hw5
      go_wp2
      go_roundw
      case rel => exact ⟨j + 1, by omega, by go_num, HW4⟩
      case measure => simp [intOf]; omega
    · have e : j = ks.length := by omega
      subst e
      have c0 := (run_at hS.rg.run).c0
      have HAL := hS.all HO0.out (by omega) (by rw [HC10.out]) HWP.out
      rw [hr1, pullHead0] at HAL
      have HAL := hid HAL
      have HBL := hid HI.out.bel
      clear HI hS HKS HKI
      go_wp2_with fail
      refine HAL.out.mono ?_
      rintro e w5 ⟨T, rfl, ⟨Q5, hS5, hp5⟩, hb5, hh5⟩
      clear HAL c0
      have hB5 : Below w.heap.size w w5 := HBL.out.trans (hb5.mono hBw)
      have c0 := (run_at hS5.rg.run).c0
      have hw5 : HWt Q5 s := hS5.rg.uw.hw
      have o2 : c1.oth 2 := ⟨by rw [HC1N.out]; omega, by rw [HC1R.out]; omega⟩
      obtain ⟨c2, c2r, c2n, ⟨pv1, c21⟩, c2o, hc2⟩ := hS5.rg.look o2 (s := fun _ => pl0) (by rw [HC12.out]; exact FS.nil.hw) (fun x hx => by rw [HC12.out] at hx; cases hx)
      rw [HC1R.out] at c21
      have c20 : c2.rep 0 = ⟨pv0, Ps, fb, 3, f⟩ := by rw [c2o 0 (by rw [HC1R.out]; omega)]; exact HC10.out
      rw [HC12.out] at hc2
      have hS2 : SmI w5 B rb pb rg c2 gb b2 n Q5 [] (fun _ => pl0) := ⟨(by rw [← keptO_nil]; exact hc2), (fun P hP => by cases hP), (fun k P hk => by simp at hk)⟩
      have c2n3 : c2.nr = 3 := by rw [c2n, HC1N.out]
      have hr2 : (c2.r : Int) = 2 := by rw [c2r]; rfl
      have HA2 := hS2.all (d := 1) ⟨by rw [c2n3]; omega, by rw [c2r]; omega⟩ (by omega) (by rw [c21]) hw5
      rw [hr2, pullHead1] at HA2
      have HA2 := hid HA2
      have HP5 := hid hp5
      have HW5 := hid hw5
      have HB5 := hid hB5
      have HC20 := hid c20
      have HC21 := hid c21
      have HC2R := hid c2r
      have HC2N := hid c2n3
      clear hS5 hS2 hc2 hw5 hB5 hb5 hh5 o2 c2o c20 c21 c2r c2n c2n3 hp5 HBL
      go_wp2_with fail
      refine HA2.out.mono ?_
      rintro e w6 ⟨T2, rfl, ⟨Q6, hS6, hp6⟩, hb6, hh6⟩
      clear HA2 c0
      have hB6 : Below w.heap.size w w6 := HB5.out.trans (hb6.mono hBw)
      -- the three, looked at in turn
      have h2 : RG w6 B rb pb rg c2 gb b2 n Q6 (keptO s) s (idsTo n) := hS6.rg
      obtain ⟨c3, c3r, _, _, _, h0⟩ := h2.look (i := 0) ⟨by rw [HC2N.out]; omega, by rw [HC2R.out]; omega⟩ (s := s) (by rw [HC20.out]; exact HWP.out) (by rw [HC20.out]; exact HFN.out)
      obtain ⟨c4, c4r, _, _, _, h1⟩ := h2.look (i := 1) ⟨by rw [HC2N.out]; omega, by rw [HC2R.out]; omega⟩ (s := s) (by rw [HC21.out]; exact HW5.out) (by
        rw [HC21.out]
        intro x hx
        unfold keptO at hx
        simp only at hx
        split at hx
        · rename_i ha
          exact HWP.out.alive ha
        · cases hx)
      rw [HC20.out] at h0
      rw [HC21.out] at h1
      have e3 : (c3.r : Int) = 0 := by rw [c3r]; rfl
      have e4 : (c4.r : Int) = 1 := by rw [c4r]; rfl
      have A1 := alike33_true h0 h1 HP5.out.length_eq.symm (fun P hP => List.mem_map.2 ⟨P, HP5.out.mem_iff.2 hP, rfl⟩) rfl
      rw [e3, e4] at A1
      have A2 : ∀ u, Below w6.heap.size w6 u → Calls Tryz.prog 33 #[.pointer (some ⟨rb, 0, none⟩), .int .i64 1, .int .i64 2] u fun e w' => e = .returned (.bool true) ∧ Below u.heap.size u w' := fun u hu => by
        have := alike33_true (h1.below hu) (h2.below hu) hp6.length_eq.symm (fun P hP => List.mem_map.2 ⟨P, hp6.mem_iff.2 hP, rfl⟩) rfl
        rw [e4, hr2] at this
        exact this
      have A3 : ∀ u, Below w6.heap.size w6 u → Calls Tryz.prog 25 #[.pointer (some ⟨rb, 0, none⟩), .int .i64 1] u fun e w' => ∃ ao cc, e = .returned (.slice ao 3 cc) ∧ w'.ownsRow u.heap.size 9 1 (.slice ao 3 cc) 3 (strs (keptX s 3)) ∧ Below u.heap.size u w' := fun u hu => by
        have := run_files (h1.below hu)
        rw [e4, files_kept, show (keptX s 3).length = 3 by simp [keptX]] at this
        refine this.mono ?_
        rintro e w' ⟨v, rfl, hown, hb⟩
        obtain ⟨ao, cc, rfl⟩ := own_shape hown
        exact ⟨ao, cc, rfl, hown, hb⟩
      have A4 : ∀ u, Below w6.heap.size w6 u → Calls Tryz.prog 26 #[.pointer (some ⟨rb, 0, none⟩), .int .i64 1] u fun e w' => ∃ ao cc, e = .returned (.slice ao 3 cc) ∧ w'.ownsRow u.heap.size 9 1 (.slice ao 3 cc) 3 (strs (keptX s 3)) ∧ Below u.heap.size u w' := fun u hu => by
        have := run_kept (h1.below hu)
        rw [e4, show (keptX s 3).length = 3 by simp [keptX]] at this
        refine this.mono ?_
        rintro e w' ⟨v, rfl, hown, hb⟩
        obtain ⟨ao, cc, rfl⟩ := own_shape hown
        exact ⟨ao, cc, rfl, hown, hb⟩
      have HYL : Hid ((keptX s 3).length = 3) := by show _ = _; simp [keptX]
      obtain ⟨Y, hY⟩ : ∃ Y, keptX s 3 = Y := ⟨_, rfl⟩
      rw [hY] at HYL A3 A4
      have HA1 := hid A1
      have HA2 := hid A2
      have HA3 := hid A3
      have HA4 := hid A4
      have HB6 := hid hB6
      clear A1 A2 A3 A4 h0 h1 h2 hS6 hp6 hb6 hh6 hB6 hY e3 e4 c3r c4r HC20 HC21 HP5 HW5
      go_wp2_with fail
      refine HA1.out.mono ?_
      rintro e w7 ⟨rfl, hb7⟩
      have HA5 := hid (HA2.out w7 hb7)
      clear HA1 HA2
      go_wp2_with fail
      refine HA5.out.mono ?_
      rintro e w8 ⟨rfl, hb8⟩
      have hb68 : Below w6.heap.size w6 w8 := hb7.trans (hb8.mono hb7.size)
      have HA6 := hid (HA3.out w8 hb68)
      clear HA5 HA3
      go_wp2_with fail
      refine HA6.out.mono ?_
      rintro e w9 ⟨xa, xc, rfl, hxo, hb9⟩
      have hb69 : Below w6.heap.size w6 w9 := hb68.trans (hb9.mono hb68.size)
      have HXO := hid hxo
      have HA7 := hid (HA4.out w9 hb69)
      clear HA6 HA4 hxo
      go_wp2_with fail
      refine HA7.out.mono ?_
      rintro e wa ⟨ya, yc, rfl, hyo, hba⟩
      have hb6a : Below w6.heap.size w6 wa := hb69.trans (hba.mono hb69.size)
      have HSM := hid (same21_any HYL.out (own_below HXO.out hba (Nat.le_refl _)) hyo (by omega))
      clear HA7 HXO hyo
      go_wp2_with fail
      refine HSM.out.mono ?_
      rintro e wb ⟨rfl, hbb⟩
      clear HSM
      go_wp2
      go_ret
      exact ⟨rfl, HB6.out.trans ((hb6a.trans (hbb.mono hb6a.size)).mono HB6.out.size)⟩
end Go.Proofs.YtgdfipmdmgkidaaGreatDoor
