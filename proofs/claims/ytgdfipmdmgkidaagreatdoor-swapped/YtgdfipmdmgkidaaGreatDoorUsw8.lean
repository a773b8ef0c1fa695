/- The walk of the statement Swapped. -/
import Derived.Test.YtgdfipmdmgkidaaGreatDoorUrun
import Derived.Test.YtgdfipmdmgkidaaGreatDoorUwr
import Derived.Deep.QuietTactic
import Derived.BigQuiet
namespace Go.Proofs.YtgdfipmdmgkidaaGreatDoor
open Go.RowKit

theorem split_at2 {Ps : List PM} {j : Nat} (h : j + 1 < Ps.length) : Ps = Ps.take j ++ Ps[j] :: Ps[j + 1] :: Ps.drop (j + 2) := by
  have e1 : Ps.drop j = Ps[j] :: Ps.drop (j + 1) := List.drop_eq_getElem_cons (by omega)
  have e2 : Ps.drop (j + 1) = Ps[j + 1] :: Ps.drop (j + 2) := List.drop_eq_getElem_cons h
  rw [← e2, ← e1, List.take_append_drop]
theorem ids_at {Ps : List PM} {n : Nat} (h : Ps.map (·.id) = idsTo n) {k : Nat} {P : PM} (hk : Ps[k]? = some P) : P.id = idN (k + 1) := by
  have h1 : (Ps.map (·.id))[k]? = some P.id := by rw [List.getElem?_map, hk]; rfl
  have hl := (List.getElem?_eq_some_iff.1 h1).1
  rw [h] at h1 hl
  rw [idsTo_len] at hl
  unfold idsTo at h1
  rw [List.getElem?_map, List.getElem?_range' hl] at h1
  simp at h1
  rw [← h1]
  congr 1
  omega
theorem ids_len {Ps : List PM} {n : Nat} (h : Ps.map (·.id) = idsTo n) : Ps.length = n - 1 := by
  have := congrArg List.length h
  rw [List.length_map, idsTo_len] at this
  exact this
theorem row_at {w : World} {Bl g lc : Nat} {Z : List ByteArray} (h : w.ownsRow Bl 9 1 (.slice (some ⟨g, 0, none⟩) Z.length lc) Z.length (strs Z)) {k : Nat} {x : ByteArray} (hk : Z[k]? = some x) : w.cell? ⟨g, k, none⟩ = some (.string x) := by
  have hl := (List.getElem?_eq_some_iff.1 hk).1
  rw [h.cellAt k (by omega)]
  unfold strs
  rw [List.getElem?_map, hk]
  rfl
theorem row_at2 {w : World} {Bl g lc m : Nat} {Z : List ByteArray} (h : w.ownsRow Bl 9 1 (.slice (some ⟨g, 0, none⟩) m lc) m (strs Z)) {k : Nat} {x : ByteArray} (hk : Z[k]? = some x) (hm : k < m) : w.cell? ⟨g, k, none⟩ = some (.string x) := by
  rw [h.cellAt k (by omega)]
  unfold strs
  rw [List.getElem?_map, hk]
  rfl
set_option maxRecDepth 100000 in
set_option maxHeartbeats 12800000 in
theorem swapped8_any (w : World) (L : List Ed) (so : Option Addr) (sc : Nat) (kk : Int) (hL : EdsAt w w.heap.size so L) (hok : ∀ p ∈ L, EdOK p) (hlen : L.length ≤ 9223372036854775807) (hkk : i64R kk) :
    Calls Tryz.prog 8 #[.slice so L.length sc, .int .i64 kk] w fun e w' => e = .returned (.bool true) ∧ Below w.heap.size w w' := by
  have HBG : Hid (Calls Tryz.prog 23 #[.int .i64 1, .slice so L.length sc] w fun e w' => ∃ rb, e = .returned (.pointer (some ⟨rb, 0, none⟩)) ∧ Begun w w' rb) := begun_any w L so sc hL hok hlen
  obtain ⟨kk1, kk2⟩ := hkk
  clear hL hok hlen
  go_enter Tryz.func8, Tryz.ntmps8
  go_wp2_with fail
  refine HBG.out.mono ?_
  rintro e w1 ⟨rb, rfl, hbg⟩
  clear HBG
  obtain ⟨B, pb, rg, cap, gb, fb, n, Ps, f, s, hBw, hn3, h1, P1, P2, X, hPX, hP1, hP2⟩ := hbg.st
  have hb1 := hbg.below
  clear hbg
  have hPl := ids_len h1.ids
  have hn41 := h1.hi
  obtain ⟨D, hD⟩ := shows_all h1.uw.fs.rep h1.told
  obtain ⟨Z, hZ⟩ : ∃ Z, (Ps.map (·.id)).map idText = Z := ⟨_, rfl⟩
  have hZl : Z.length = Ps.length := by rw [← hZ]; simp
  have hZat : ∀ k, k < Ps.length → Z[k]? = some (idW (k + 1)) := fun k hk => by
    have hP := List.getElem?_eq_getElem hk
    rw [← hZ, List.getElem?_map, List.getElem?_map, hP]
    simp only [Option.map_some]
    rw [ids_at h1.ids hP, idText_idN (k + 1) (List.mem_range.2 (by omega))]
  have HB1 : Hid (Below w.heap.size w w1) := hb1
  have HH1 : Hid (RW w1 B rb pb rg cap gb fb n Ps f s) := h1
  have HLG : Hid (∀ u, Below w1.heap.size w1 u → Calls Tryz.prog 27 #[.pointer (some ⟨rb, 0, none⟩), .int .i64 0, .string ⟨#[108, 111, 103]⟩] u fun e w' => ∃ v, e = .returned (.tuple #[v, .bool true]) ∧ w'.ownsRow u.heap.size 9 1 v Z.length (strs Z) ∧ Below u.heap.size u w') := fun u hu => by
    have := run_ids (h1.below hu).rg_ wdLog (Ps.map (·.id)) (by rw [List.length_map]; omega) (h1.below hu).uw.log
    rw [hZ] at this
    exact this
  have HZ : Hid ((Ps.map (·.id)).map idText = Z) := hZ
  have HZA : Hid (∀ k, k < Ps.length → Z[k]? = some (idW (k + 1))) := hZat
  have HD : Hid (∀ (w : World) (B pb rg cap gb fb : Nat) (f : ByteArray → Option ByteArray) (G : List Pid), UW w B pb rg cap gb fb Ps f s G → ∀ (k : Nat) (P : PM) (m : Nat), Ps[k]? = some P → m ≤ 41 → P.id = idN m → Calls Tryz.prog 17 #[.pointer (some ⟨pb, 0, none⟩), .int .i64 0, .string (shwHead ++ idW m)] w fun e w' => e = .returned (.tuple #[.string (D k), .int .i64 0]) ∧ Below w.heap.size w w') := hD
  have HPX : Hid (Ps = P1 :: P2 :: X ∧ (∀ c ∈ P1.Cs, c.1 = nmA) ∧ ∀ c ∈ P2.Cs, c.1 = nmB) := ⟨hPX, hP1, hP2⟩
  have HZL : Hid (Z.length = Ps.length) := hZl
  have z2 : 2 ≤ Z.length := by omega
  have z40 : Z.length ≤ 40 := by omega
  have HPL : Hid (Ps.length = n - 1) := hPl
  clear h1 hb1 hD hZ hZat hPX hP1 hP2 hZl hPl
  go_wp2_with fail
  refine (HLG.out w1 (Below.refl _ _)).mono ?_
  rintro e w2 ⟨v2, rfl, ho2, hb2⟩
  obtain ⟨la, lc, rfl⟩ := own_shape ho2
  obtain ⟨lb, hlb, _, hlbs⟩ := own_at ho2 (by omega)
  subst hlb
  have hZ0 : Z[0]? = some (idW 1) := HZA.out 0 (by have := HZL.out; omega)
  have hZ1 : Z[1]? = some (idW 2) := HZA.out 1 (by have := HZL.out; omega)
  have d0 := row_at ho2 hZ0
  have d1 := row_at ho2 hZ1
  have HI1 : Hid (∀ u, Calls Tryz.prog 28 #[.int .i64 1] u fun e w' => e = .returned (.string (idW 1)) ∧ w' = u) := fun u => kid28_any 1 (by omega) u
  have HI2 : Hid (∀ u, Calls Tryz.prog 28 #[.int .i64 2] u fun e w' => e = .returned (.string (idW 2)) ∧ w' = u) := fun u => kid28_any 2 (by omega) u
  obtain ⟨x1, hx1⟩ : ∃ x1, idW 1 = x1 := ⟨_, rfl⟩
  obtain ⟨x2, hx2⟩ : ∃ x2, idW 2 = x2 := ⟨_, rfl⟩
  rw [hx1] at d0 HI1
  rw [hx2] at d1 HI2
  have HO2 : Hid (w2.ownsRow w1.heap.size 9 1 (.slice (some ⟨lb, 0, none⟩) Z.length lc) Z.length (strs Z)) := ho2
  have HB2 : Hid (Below w1.heap.size w1 w2) := hb2
  have g1 : decide ((Z.length : Int) < 2) = false := by simp; omega
  have g2 : ¬ (Z.length : Int) < 2 := by omega
  have g3 : (0 : Int) < (Z.length : Int) := by omega
  have g4 : (1 : Int) < (Z.length : Int) := by omega
  have g5 : decide (Z.length < 2) = false := by simp; omega
  have g6 : 0 < Z.length := by omega
  have g7 : 1 < Z.length := by omega
  clear ho2 hb2 hZ0 hZ1 hx1 hx2
  go_wp2_with fail
  go_quiet (first | (go_at_call_of 28 (Value.int IntKind.i64 1); exact Calls.quiet_of_same (HI1.out _)) | (go_at_call_of 28 (Value.int IntKind.i64 2); exact Calls.quiet_of_same (HI2.out _)))
  have hb23 : Below w1.heap.size w1 (w2.drewN nq) := below_drewN HB2.out nq
  have HO3 : Hid ((w2.drewN nq).ownsRow w1.heap.size 9 1 (.slice (some ⟨lb, 0, none⟩) Z.length lc) Z.length (strs Z)) := own_below HO2.out (below_drewN (Below.refl _ _) nq) (Nat.le_refl _)
  generalize w2.drewN nq = w3 at *
  have HB3 : Hid (Below w1.heap.size w1 w3) := hb23
  clear HO2 HB2 HI1 HI2 d0 d1 hb23 hlbs g5 g6 g7
  have HK4 : Hid (Calls Tryz.prog 26 #[.pointer (some ⟨rb, 0, none⟩), .int .i64 0] w3 fun e w' => ∃ v, e = .returned v ∧ w'.ownsRow w3.heap.size 9 1 v (keptX s 3).length (strs (keptX s 3)) ∧ Below w3.heap.size w3 w') := run_kept (HH1.out.below HB3.out).rg_
  obtain ⟨Y, hY⟩ : ∃ Y, keptX s 3 = Y := ⟨_, rfl⟩
  have HY : Hid (keptX s 3 = Y) := hY
  have HYl : Hid (Y.length = 3) := by show _ = _; rw [← hY]; exact keptX_len s 3
  rw [hY] at HK4
  clear hY
  go_wp2_with fail
  refine HK4.out.mono ?_
  rintro e w4 ⟨v4, rfl, ho4, hb4⟩
  clear HK4
  obtain ⟨ka, kc, rfl⟩ := own_shape ho4
  have HO4 : Hid (w4.ownsRow w3.heap.size 9 1 (.slice ka Y.length kc) Y.length (strs Y)) := ho4
  have HB4 : Hid (Below w1.heap.size w1 w4) := HB3.out.trans (hb4.mono HB3.out.size)
  have HO3b : Hid (w4.ownsRow w1.heap.size 9 1 (.slice (some ⟨lb, 0, none⟩) Z.length lc) Z.length (strs Z)) := own_below HO3.out hb4 (Nat.le_refl _)
  have HF5 : Hid (Calls Tryz.prog 25 #[.pointer (some ⟨rb, 0, none⟩), .int .i64 0] w4 fun e w' => ∃ v, e = .returned v ∧ w'.ownsRow w4.heap.size 9 1 v (filesX f 3).length (strs (filesX f 3)) ∧ Below w4.heap.size w4 w') := run_files (HH1.out.below HB4.out).rg_
  obtain ⟨F, hF⟩ : ∃ F, filesX f 3 = F := ⟨_, rfl⟩
  have HF : Hid (filesX f 3 = F) := hF
  have HFl : Hid (F.length = 3) := by show _ = _; rw [← hF]; exact filesX_len f 3
  rw [hF] at HF5
  clear hF ho4 hb4 HO3 HB3
  go_wp2_with fail
  refine HF5.out.mono ?_
  rintro e w5 ⟨v5, rfl, ho5, hb5⟩
  clear HF5
  obtain ⟨fa, fc, rfl⟩ := own_shape ho5
  have HO5 : Hid (w5.ownsRow w4.heap.size 9 1 (.slice fa F.length fc) F.length (strs F)) := ho5
  have HB5 : Hid (Below w1.heap.size w1 w5) := HB4.out.trans (hb5.mono HB4.out.size)
  have HO3c : Hid (w5.ownsRow w1.heap.size 9 1 (.slice (some ⟨lb, 0, none⟩) Z.length lc) Z.length (strs Z)) := own_below HO3b.out hb5 (Nat.le_refl _)
  have HO4b : Hid (w5.ownsRow w3.heap.size 9 1 (.slice ka Y.length kc) Y.length (strs Y)) := own_below HO4.out hb5 (Nat.le_refl _)
  have HSA : Hid (∀ k P, Ps[k]? = some P → P.id = idN (k + 1)) := fun k P hk => ids_at HH1.out.ids hk
  have HS6 : Hid (Calls Tryz.prog 30 #[.pointer (some ⟨rb, 0, none⟩), .int .i64 0, .slice (some ⟨lb, 0, none⟩) Z.length lc] w5 fun e w' => ∃ v, e = .returned v ∧ w'.ownsRow w5.heap.size 9 1 v (shownX D Z.length).length (strs (shownX D Z.length)) ∧ Below w5.heap.size w5 w') :=
    run_shown (HH1.out.below HB5.out).rg_ D (fun u hu k P m hk hm hP => HD.out u B pb rg cap gb fb f (idsTo n) ((HH1.out.below HB5.out).below hu).uw k P m hk hm hP) HSA.out (by have := HZL.out; omega) Z HZ.out HO3c.out
  obtain ⟨V, hV⟩ : ∃ V, shownX D Z.length = V := ⟨_, rfl⟩
  have HV : Hid (shownX D Z.length = V) := hV
  have HVl : Hid (V.length = Z.length) := by show _ = _; rw [← hV]; exact shownX_len D _
  rw [hV] at HS6
  clear hV ho5 hb5 HO4 HO3b HB4
  go_wp2_with fail
  refine HS6.out.mono ?_
  rintro e w6 ⟨v6, rfl, ho6, hb6⟩
  clear HS6
  obtain ⟨sa, sc2, rfl⟩ := own_shape ho6
  have HO6 : Hid (w6.ownsRow w5.heap.size 9 1 (.slice sa V.length sc2) V.length (strs V)) := ho6
  have HB6 : Hid (Below w1.heap.size w1 w6) := HB5.out.trans (hb6.mono HB5.out.size)
  have HO3d : Hid (w6.ownsRow w1.heap.size 9 1 (.slice (some ⟨lb, 0, none⟩) Z.length lc) Z.length (strs Z)) := own_below HO3c.out hb6 (Nat.le_refl _)
  have HO4c : Hid (w6.ownsRow w3.heap.size 9 1 (.slice ka Y.length kc) Y.length (strs Y)) := own_below HO4b.out hb6 (Nat.le_refl _)
  have HO5b : Hid (w6.ownsRow w4.heap.size 9 1 (.slice fa F.length fc) F.length (strs F)) := own_below HO5.out hb6 (Nat.le_refl _)
  clear ho6 hb6 HO3c HO4b HO5 HB5
  obtain ⟨j, hj, hpj⟩ := kpick23_det kk (Z.length - 1) (by omega) (by omega) kk1 kk2
  have hj2 : j + 1 < Z.length := by omega
  have HPJ : Hid (∀ w, Calls Tryz.prog 31 #[.int .i64 kk, .int .i64 ((Z.length : Int) - 1)] w fun e w' => e = .returned (.int .i64 j) ∧ w' = w) := fun u => by
    have h := hpj u
    rw [show ((Z.length - 1 : Nat) : Int) = (Z.length : Int) - 1 by omega] at h
    exact h
  have k1 : IntKind.i64.wrap ((Z.length : Int) - 1) = (Z.length : Int) - 1 := by simp [IntKind.wrap, IntKind.signed, IntKind.bits]; omega
  have k2 : IntKind.i64.wrap (1 + (j : Int)) = ((j + 1 : Nat) : Int) := by simp [IntKind.wrap, IntKind.signed, IntKind.bits]; omega
  clear hpj hj
  go_wp2_with fail
  refine (HPJ.out _).mono ?_
  rintro e w' ⟨rfl, hww⟩
  have hww' := hww.symm
  clear hww
  subst hww'
  clear HPJ
  have hjP : j + 1 < Ps.length := by have := HZL.out; omega
  obtain ⟨A, P, Q, C, hPs, hQid, hPid, hAl⟩ : ∃ A P Q C, Ps = A ++ P :: Q :: C ∧ Q.id = idN (j + 2) ∧ P.id = idN (j + 1) ∧ A.length = j := ⟨_, _, _, _, split_at2 hjP, HSA.out (j + 1) _ (List.getElem?_eq_getElem hjP), HSA.out j _ (List.getElem?_eq_getElem (by omega)), by rw [List.length_take]; omega⟩
  have hd6 : Below w1.heap.size w1 w6.drew := HB6.out.trans ((Below.refl _ w6).drew.mono HB6.out.size)
  have h6 := HH1.out.below hd6
  have hz1 : Z[j + 1]? = some (idW (j + 2)) := HZA.out (j + 1) hjP
  have hz0' : Z[j]? = some (idW (j + 1)) := HZA.out j (by omega)
  have hi4 := idW_size (n := j + 2) (by omega)
  have HSW : Hid (Calls Tryz.prog 17 #[.pointer (some ⟨pb, 0, none⟩), .int .i64 0, .string (⟨#[115, 119, 97, 112, 32]⟩ ++ idW (j + 2))] w6.drew fun e w' => ∃ x c, e = .returned (.tuple #[.string x, .int .i64 c]) ∧ SwapA w6.drew w' B pb rg cap gb fb A C P Q f s (idsTo n) x c) := h6.uw.swap hPs (m := j + 2) (by omega) hQid
  have HPid : Hid (idText P.id = idW (j + 1)) := by show _ = _; rw [hPid, idText_idN (j + 1) (List.mem_range.2 (by omega))]
  have HQid : Hid (idText Q.id = idW (j + 2)) := by show _ = _; rw [hQid, idText_idN (j + 2) (List.mem_range.2 (by omega))]
  obtain ⟨xq, hxq⟩ : ∃ xq, idW (j + 2) = xq := ⟨_, rfl⟩
  obtain ⟨xp, hxp⟩ : ∃ xp, idW (j + 1) = xp := ⟨_, rfl⟩
  have HXQ : Hid (idW (j + 2) = xq) := hxq
  have HXP : Hid (idW (j + 1) = xp) := hxp
  rw [hxq] at hz1 HSW hi4 HQid
  rw [hxp] at hz0' HPid
  have HKP : Hid (∀ u, Below w6.heap.size w6 u ∨ HeldT kin w6.drew u → ShnS rb pb lb (j + 1) xq u ∧ u.cell? ⟨lb, j, none⟩ = some (.string xp)) := fun u hu => by
    have hh : HeldT kin w6 u := hu.elim (fun h => HeldT.of_below h) (fun h => (HeldT.of_below (Below.refl _ _).drew).trans h)
    have ho := own_heldT HO3d.out hh (.inl rfl)
    have hr := (hh.keep _ _ (HH1.out.below HB6.out).tb (.inr rfl)).trans (HH1.out.below HB6.out).run
    exact ⟨⟨(run_at hr).c0, row_at ho hz1⟩, row_at ho hz0'⟩
  have HS0 : Hid (ShnS rb pb lb (j + 1) xq w6.drew) := (HKP.out _ (.inl (Below.refl _ _).drew)).1
  have z9 : ¬ 9223372036854775807 < 5 + xq.size := by omega
  have kj : ((j + 1 : Nat) : Int) < (Z.length : Int) := by omega
  have kj0 : (0 : Int) ≤ (j : Int) + 1 := by omega
  have kj1 : (j : Int) + 1 < (Z.length : Int) := by omega
  have HPS : Hid (Ps = A ++ P :: Q :: C) := hPs
  have HAL : Hid (A.length = j) := hAl
  have HZJ : Hid (Z[j + 1]? = some xq ∧ Z[j]? = some xp) := ⟨hz1, hz0'⟩
  have HD6 : Hid (Below w1.heap.size w1 w6.drew) := hd6
  have HH6 : Hid (RW w6.drew B rb pb rg cap gb fb n Ps f s) := h6
  clear hd6 h6 hz1 hz0' hi4 hxq hxp hPs hQid hPid hAl hjP
  go_wp2_with fail
  refine wp_region_Z (ShnS rb pb lb (j + 1) xq) 99 (by kernel_rfl) ?_
  refine wpZ_take 0 _ (v := ?z0) rfl (by kernel_rfl) (by kernel_rfl) (by kernel_rfl) (fun _ _ _ h => h) (by kernel_rfl) (by decide) HS0.out rfl (fun w0 hS0 => ?hy) ?_
  case hy =>
    obtain ⟨s0, s1⟩ := hS0
    go_simp
    with_reducible rfl
  simp only [Act.put, List.setIfInBounds_toArray]
  refine wpZ_take 1 _ (v := ?z1) rfl (by kernel_rfl) (by kernel_rfl) (by kernel_rfl) (fun _ _ _ h => h) (by kernel_rfl) (by decide) HS0.out rfl (fun w0 hS0 => ?hy) ?_
  case hy =>
    obtain ⟨s0, s1⟩ := hS0
    go_simp
    with_reducible rfl
  simp only [Act.put]
  refine wpZ_take 2 _ (v := ?z2) rfl (by kernel_rfl) (by kernel_rfl) (by kernel_rfl) (fun _ _ _ h => h) (by kernel_rfl) (by decide) HS0.out rfl (fun w0 hS0 => ?hy) ?_
  case hy =>
    obtain ⟨s0, s1⟩ := hS0
    go_simp
    with_reducible rfl
  simp only [Act.put]
  refine wpZ_take 3 _ (v := ?z3) rfl (by kernel_rfl) (by kernel_rfl) (by kernel_rfl) (fun _ _ _ h => h) (by kernel_rfl) (by decide) HS0.out rfl (fun w0 hS0 => ?hy) ?_
  case hy =>
    obtain ⟨s0, s1⟩ := hS0
    go_simp
    with_reducible rfl
  simp only [Act.put]
  refine wpZ_take 4 _ (v := ?z4) rfl (by kernel_rfl) (by kernel_rfl) (by kernel_rfl) (fun _ _ _ h => h) (by kernel_rfl) (by decide) HS0.out rfl (fun w0 hS0 => ?hy) ?_
  case hy =>
    obtain ⟨s0, s1⟩ := hS0
    go_simp
    with_reducible rfl
  simp only [Act.put]
  refine wpZ_take 5 _ (v := ?z5) rfl (by kernel_rfl) (by kernel_rfl) (by kernel_rfl) (fun _ _ _ h => h) (by kernel_rfl) (by decide) HS0.out rfl (fun w0 hS0 => ?hy) ?_
  case hy =>
    obtain ⟨s0, s1⟩ := hS0
    go_simp
    with_reducible rfl
  simp only [Act.put]
  refine wpZ_take 6 _ (v := ?z6) rfl (by kernel_rfl) (by kernel_rfl) (by kernel_rfl) (fun _ _ _ h => h) (by kernel_rfl) (by decide) HS0.out rfl (fun w0 hS0 => ?hy) ?_
  case hy =>
    obtain ⟨s0, s1⟩ := hS0
    go_simp
    with_reducible rfl
  simp only [Act.put]
  refine wpZ_take 7 _ (v := ?z7) rfl (by kernel_rfl) (by kernel_rfl) (by kernel_rfl) (fun _ _ _ h => h) (by kernel_rfl) (by decide) HS0.out rfl (fun w0 hS0 => ?hy) ?_
  case hy =>
    obtain ⟨s0, s1⟩ := hS0
    go_simp
    with_reducible rfl
  simp only [Act.put]
  refine wpZ_take 8 _ (v := ?z8) rfl (by kernel_rfl) (by kernel_rfl) (by kernel_rfl) (fun _ _ _ h => h) (by kernel_rfl) (by decide) HS0.out rfl (fun w0 hS0 => ?hy) ?_
  case hy =>
    obtain ⟨s0, s1⟩ := hS0
    go_simp
    with_reducible rfl
  simp only [Act.put]
  refine wpZ_one 9 _ rfl (by kernel_rfl) (fun KK hK => ?_)
  go_simp
  refine HSW.out.mono ?_
  rintro e w7 ⟨x, c, rfl, hA⟩
  dsimp only
  have HA : Hid (SwapA w6.drew w7 B pb rg cap gb fb A C P Q f s (idsTo n) x c) := hA
  have HS7 : Hid (ShnS rb pb lb (j + 1) xq w7 ∧ w7.cell? ⟨lb, j, none⟩ = some (.string xp)) := HKP.out w7 (by
    rcases hA with ⟨_, _, _, hb⟩ | ⟨_, _, _, _, _, hh⟩
    · exact .inl ((Below.refl _ w6).drew.trans hb)
    · exact .inr hh)
  refine hK.out _ _ (fun _ => HS7.out.1) ?_
  clear hK HSW hA
  refine wpZ_take 10 _ (v := ?z10) rfl (by kernel_rfl) (by kernel_rfl) (by kernel_rfl) (fun _ _ _ h => h) (by kernel_rfl) (by decide) HS7.out.1 rfl (fun w0 hS0 => ?hy) ?_
  case hy =>
    obtain ⟨s0, s1⟩ := hS0
    go_simp
    with_reducible rfl
  simp only [Act.put, List.setIfInBounds_toArray]
  refine wpZ_take 11 _ (v := ?z11) rfl (by kernel_rfl) (by kernel_rfl) (by kernel_rfl) (fun _ _ _ h => h) (by kernel_rfl) (by decide) HS7.out.1 rfl (fun w0 hS0 => ?hy) ?_
  case hy =>
    obtain ⟨s0, s1⟩ := hS0
    go_simp
    with_reducible rfl
  simp only [Act.put]
  refine wpZ_take 12 _ (v := ?z12) rfl (by kernel_rfl) (by kernel_rfl) (by kernel_rfl) (fun _ _ _ h => h) (by kernel_rfl) (by decide) HS7.out.1 rfl (fun w0 hS0 => ?hy) ?_
  case hy =>
    obtain ⟨s0, s1⟩ := hS0
    go_simp
    with_reducible rfl
  simp only [Act.put]
  refine wpZ_take 13 _ (v := ?z13) rfl (by kernel_rfl) (by kernel_rfl) (by kernel_rfl) (fun _ _ _ h => h) (by kernel_rfl) (by decide) HS7.out.1 rfl (fun w0 hS0 => ?hy) ?_
  case hy =>
    obtain ⟨s0, s1⟩ := hS0
    go_simp
    with_reducible rfl
  simp only [Act.put]
  refine wpZ_take 14 _ (v := ?z14) rfl (by kernel_rfl) (by kernel_rfl) (by kernel_rfl) (fun _ _ _ h => h) (by kernel_rfl) (by decide) HS7.out.1 rfl (fun w0 hS0 => ?hy) ?_
  case hy =>
    obtain ⟨s0, s1⟩ := hS0
    go_simp
    with_reducible rfl
  simp only [Act.put]
  refine wpZ_done (by kernel_rfl) ?_ _
  have m2 : IntKind.i64.wrap (j : Int) = (j : Int) := by simp [IntKind.wrap, IntKind.signed, IntKind.bits]; omega
  have m3 : IntKind.i64.wrap ((j : Int) + 1 - 1) = (j : Int) := by simp [IntKind.wrap, IntKind.signed, IntKind.bits]; omega
  have m4 : (0 : Int) ≤ (j : Int) := by omega
  have m5 : (j : Int) < (Z.length : Int) := by omega
  rcases HA.out with ⟨hN, rfl, rfl, hb7⟩ | ⟨hN, rfl, rfl, hu7, hbB7, hh7⟩
  · have hj1 : 1 ≤ j := by
      by_cases h0 : j = 0
      · exfalso
        obtain ⟨e1, e2, e3⟩ := HPX.out
        have hA0 : A = [] := List.eq_nil_of_length_eq_zero (by rw [HAL.out]; exact h0)
        have e4 := HPS.out
        rw [e1, hA0, List.nil_append] at e4
        injection e4 with e5 e6
        injection e6 with e7 e8
        obtain ⟨c1, hc1, c2, hc2, ec, _⟩ := hN
        rw [← e7] at hc1
        rw [← e5] at hc2
        rw [e3 c1 hc1, e2 c2 hc2] at ec
        exact nmAB ec
      · omega
    rw [HPid.out]
    have hb67 : Below w6.heap.size w6 w7 := (Below.refl _ w6).drew.trans hb7
    have hb17 : Below w1.heap.size w1 w7 := HB6.out.trans (hb67.mono HB6.out.size)
    have HL8 : Hid (Calls Tryz.prog 27 #[.pointer (some ⟨rb, 0, none⟩), .int .i64 0, .string ⟨#[108, 111, 103]⟩] w7 fun e w' => ∃ v, e = .returned (.tuple #[v, .bool true]) ∧ w'.ownsRow w7.heap.size 9 1 v Z.length (strs Z) ∧ Below w7.heap.size w7 w') := HLG.out w7 hb17
    have HO7 : Hid (w7.ownsRow w1.heap.size 9 1 (.slice (some ⟨lb, 0, none⟩) Z.length lc) Z.length (strs Z)) := own_below HO3d.out hb67 (Nat.le_refl _)
    have HB7 : Hid (Below w.heap.size w w7) := HB1.out.trans (hb17.mono HB1.out.size)
    have n1 : decide ((1 : Int) < (j : Int) + 1) = true := by simp; omega
    have n2 : (1 : Int) < (j : Int) + 1 := by omega
    have n3 : decide (0 < j) = true := by simp; omega
    have n4 : 0 < j := by omega
    have n5 : (0 : Int) < (j : Int) := by omega
    clear hN hb7 hb67 hb17 HS7 HA HH6 HD6 HLG
    go_wp2_with fail
    refine HL8.out.mono ?_
    rintro e w8 ⟨v8, rfl, ho8, hb8⟩
    clear HL8
    obtain ⟨ma, mc, rfl⟩ := own_shape ho8
    have HO8 : Hid (w8.ownsRow w1.heap.size 9 1 (.slice (some ⟨lb, 0, none⟩) Z.length lc) Z.length (strs Z)) := own_below HO7.out hb8 (Nat.le_refl _)
    have HS9 : Hid (Calls Tryz.prog 21 #[.slice (some ⟨lb, 0, none⟩) Z.length lc, .slice ma Z.length mc] w8 fun e w' => e = .returned (.bool true) ∧ ∃ q, w' = w8.drewN q) := ksame16_any Z _ _ _ _ _ _ w8 HO8.out ho8 (by omega)
    have HB8 : Hid (Below w.heap.size w w8) := HB7.out.trans (hb8.mono HB7.out.size)
    clear ho8 hb8
    go_wp2_with fail
    refine HS9.out.mono ?_
    rintro e w9 ⟨rfl, q, rfl⟩
    have d9 : (w8.drewN q).cell? ⟨lb, j, none⟩ = some (.string xp) := row_at (own_below HO8.out (below_drewN (Below.refl _ _) q) (Nat.le_refl _)) HZJ.out.2
    have HB9 : Hid (Below w.heap.size w (w8.drewN q)) := below_drewN HB8.out q
    clear HS9 HO8
    generalize w8.drewN q = w9 at *
    go_wp2_with fail
    go_ret
    exact ⟨rfl, HB9.out⟩
  · obtain ⟨Z2, hZ2⟩ : ∃ Z2, ((A ++ Q :: P :: C).map (·.id)).map idText = Z2 := ⟨_, rfl⟩
    have hZ2l : Z2.length = Z.length := by
      have := HZL.out
      rw [← hZ2, this, HPS.out]
      simp
    have hz2j : Z2[j]? = some xq := by
      rw [← hZ2, List.getElem?_map, List.getElem?_map, List.getElem?_append_right (by rw [HAL.out]; omega), HAL.out, Nat.sub_self]
      simp only [List.getElem?_cons_zero, Option.map_some]
      rw [HQid.out]
    have hz2k : Z2[j + 1]? = some xp := by
      rw [← hZ2, List.getElem?_map, List.getElem?_map, List.getElem?_append_right (by rw [HAL.out]; omega), HAL.out, show j + 1 - j = 1 by omega]
      simp only [List.getElem?_cons_succ, List.getElem?_cons_zero, Option.map_some]
      rw [HPid.out]
    have hg7 : RG w7 B rb pb rg cap gb fb n (A ++ Q :: P :: C) f s (idsTo n) := ⟨hu7, (hh7.keep _ _ HH6.out.tb (.inr rfl)).trans HH6.out.run⟩
    have HG7 : Hid (RG w7 B rb pb rg cap gb fb n (A ++ Q :: P :: C) f s (idsTo n)) := hg7
    have HAP : Hid (¬ NeedsP P Q) := by
      have h9 := HH1.out.uw.fs.rep
      rw [HPS.out] at h9
      exact h9.apart
    have hh67 : HeldT (· = 9) w6 w7 := (HeldT.of_below (Below.refl _ _).drew).trans (kin9 hh7)
    have HL7 : Hid (w7.ownsRow w1.heap.size 9 1 (.slice (some ⟨lb, 0, none⟩) Z.length lc) Z.length (strs Z)) := own_heldT HO3d.out hh67 rfl
    have HK7 : Hid (w7.ownsRow w3.heap.size 9 1 (.slice ka Y.length kc) Y.length (strs Y)) := own_heldT HO4c.out hh67 rfl
    have HF7 : Hid (w7.ownsRow w4.heap.size 9 1 (.slice fa F.length fc) F.length (strs F)) := own_heldT HO5b.out hh67 rfl
    have HV7 : Hid (w7.ownsRow w5.heap.size 9 1 (.slice sa V.length sc2) V.length (strs V)) := own_heldT HO6.out hh67 rfl
    have HB7 : Hid (Below w.heap.size w w7) := HB1.out.trans ((HD6.out.mono HB1.out.size).trans (hbB7.mono hBw))
    have hP40 : (A ++ Q :: P :: C).length ≤ 40 := by
      have h9 : Z2.length = (A ++ Q :: P :: C).length := by rw [← hZ2]; simp
      omega
    have HL8 : Hid (Calls Tryz.prog 27 #[.pointer (some ⟨rb, 0, none⟩), .int .i64 0, .string ⟨#[108, 111, 103]⟩] w7 fun e w' => ∃ v, e = .returned (.tuple #[v, .bool true]) ∧ w'.ownsRow w7.heap.size 9 1 v Z.length (strs Z2) ∧ Below w7.heap.size w7 w') := by
      have := run_ids hg7 wdLog ((A ++ Q :: P :: C).map (·.id)) (by rw [List.length_map]; omega) hg7.uw.log
      rw [hZ2, hZ2l] at this
      exact this
    have HZ2 : Hid (Z2[j]? = some xq ∧ Z2[j + 1]? = some xp) := ⟨hz2j, hz2k⟩
    clear hN hu7 hbB7 hh7 hg7 hh67 hZ2 hZ2l hz2j hz2k HS7 HA HO3d HO4c HO5b HO6 HD6 HH6 HLG hP40 HKP HS0
    go_wp2_with fail
    refine HL8.out.mono ?_
    rintro e w8 ⟨v8, rfl, ho8, hb8⟩
    clear HL8
    obtain ⟨ma, mc, rfl⟩ := own_shape ho8
    obtain ⟨mb, hmb, _, _⟩ := own_at ho8 (by omega)
    subst hmb
    have HM8 : Hid (w8.ownsRow w7.heap.size 9 1 (.slice (some ⟨mb, 0, none⟩) Z.length mc) Z.length (strs Z2)) := ho8
    have HB8 : Hid (Below w7.heap.size w7 w8) := hb8
    have HK9 : Hid (Calls Tryz.prog 26 #[.pointer (some ⟨rb, 0, none⟩), .int .i64 0] w8 fun e w' => ∃ v, e = .returned v ∧ w'.ownsRow w8.heap.size 9 1 v Y.length (strs Y) ∧ Below w8.heap.size w8 w') := by
      have := run_kept (HG7.out.below hb8)
      rw [HY.out] at this
      exact this
    clear ho8 hb8
    go_wp2_with fail
    refine HK9.out.mono ?_
    rintro e w9 ⟨v9, rfl, ho9, hb9⟩
    clear HK9
    obtain ⟨na, nc, rfl⟩ := own_shape ho9
    have HN9 : Hid (w9.ownsRow w8.heap.size 9 1 (.slice na Y.length nc) Y.length (strs Y)) := ho9
    have HB9 : Hid (Below w7.heap.size w7 w9) := HB8.out.trans (hb9.mono HB8.out.size)
    have HM9 : Hid (w9.ownsRow w7.heap.size 9 1 (.slice (some ⟨mb, 0, none⟩) Z.length mc) Z.length (strs Z2)) := own_below HM8.out hb9 (Nat.le_refl _)
    have HF10 : Hid (Calls Tryz.prog 25 #[.pointer (some ⟨rb, 0, none⟩), .int .i64 0] w9 fun e w' => ∃ v, e = .returned v ∧ w'.ownsRow w9.heap.size 9 1 v F.length (strs F) ∧ Below w9.heap.size w9 w') := by
      have := run_files (HG7.out.below HB9.out)
      rw [HF.out] at this
      exact this
    clear ho9 hb9 HM8 HB8
    go_wp2_with fail
    refine HF10.out.mono ?_
    rintro e w10 ⟨v10, rfl, ho10, hb10⟩
    clear HF10
    obtain ⟨pa, pc, rfl⟩ := own_shape ho10
    have hb710 : Below w7.heap.size w7 w10 := HB9.out.trans (hb10.mono HB9.out.size)
    have HS1 : Hid (Calls Tryz.prog 21 #[.slice ka Y.length kc, .slice na Y.length nc] w10 fun e w' => e = .returned (.bool true) ∧ ∃ q, w' = w10.drewN q) := ksame16_any Y _ _ _ _ _ _ w10 (own_below HK7.out hb710 (Nat.le_refl _)) (own_below HN9.out hb10 (Nat.le_refl _)) (by have := HYl.out; omega)
    have HS2 : Hid (∀ q, Calls Tryz.prog 21 #[.slice fa F.length fc, .slice pa F.length pc] (w10.drewN q) fun e w' => e = .returned (.bool true) ∧ ∃ q2, w' = (w10.drewN q).drewN q2) := fun q => ksame16_any F _ _ _ _ _ _ _ (own_below (own_below HF7.out hb710 (Nat.le_refl _)) (below_drewN (Below.refl _ _) q) (Nat.le_refl _)) (own_below ho10 (below_drewN (Below.refl _ _) q) (Nat.le_refl _)) (by have := HFl.out; omega)
    have HM10 : Hid (w10.ownsRow w7.heap.size 9 1 (.slice (some ⟨mb, 0, none⟩) Z.length mc) Z.length (strs Z2)) := own_below HM9.out hb10 (Nat.le_refl _)
    have HB10 : Hid (Below w7.heap.size w7 w10) := hb710
    clear ho10 hb10 hb710 HM9 HN9 HB9
    go_wp2_with fail
    refine HS1.out.mono ?_
    rintro e w' ⟨rfl, q1, rfl⟩
    go_wp2_with fail
    refine (HS2.out q1).mono ?_
    rintro e w' ⟨rfl, q2, hq2⟩
    obtain ⟨w11, hw11⟩ : ∃ w11, w11 = (w10.drewN q1).drewN q2 := ⟨_, rfl⟩
    have hb1011 : Below w10.heap.size w10 w11 := by rw [hw11]; exact below_drewN (below_drewN (Below.refl _ _) q1) q2
    rw [← hw11] at hq2
    subst hq2
    have HB11 : Hid (Below w7.heap.size w7 w') := HB10.out.trans (hb1011.mono HB10.out.size)
    have d1 := row_at2 (own_below HM10.out hb1011 (Nat.le_refl _)) HZ2.out.1 (by omega)
    have d2 := row_at2 (own_below HM10.out hb1011 (Nat.le_refl _)) HZ2.out.2 (by omega)
    have d3 := row_at (own_below HL7.out HB11.out (Nat.le_refl _)) HZJ.out.1
    have d4 := row_at (own_below HL7.out HB11.out (Nat.le_refl _)) HZJ.out.2
    clear hw11 hb1011 HS1 HS2 HM10 HB10
    go_wp2_with fail
    go_quiet (fail)
    have hb712 : Below w7.heap.size w7 (w'.drewN nq) := below_drewN HB11.out nq
    generalize w'.drewN nq = w12 at *
    have hd12 : Below w7.heap.size w7 w12.drew := hb712.trans ((Below.refl _ w12).drew.mono hb712.size)
    have hg12 := HG7.out.below hd12
    have hi4 : xp.size = 4 := by rw [← HXP.out]; exact idW_size (by omega)
    have hPid : P.id = idN (j + 1) := HSA.out j P (by rw [HPS.out, List.getElem?_append_right (by rw [HAL.out]; omega), HAL.out, Nat.sub_self]; rfl)
    have HSW : Hid (Calls Tryz.prog 17 #[.pointer (some ⟨pb, 0, none⟩), .int .i64 0, .string (⟨#[115, 119, 97, 112, 32]⟩ ++ xp)] w12.drew fun e w' => e = .returned (.tuple #[.string ⟨#[]⟩, .int .i64 0]) ∧ RG w' B rb pb rg cap gb fb n Ps f s (idsTo n) ∧ Below B w12.drew w' ∧ HeldT kin w12.drew w') := by
      have h9 := hg12.uw.swap (A := A) (P := Q) (Q := P) (C := C) rfl (m := j + 1) (by omega) hPid
      rw [HXP.out] at h9
      refine h9.mono ?_
      rintro e w' ⟨x, c, rfl, ⟨k1, _⟩ | ⟨_, rfl, rfl, k2, k3, k4⟩⟩
      · exact absurd k1 HAP.out
      · rw [← HPS.out] at k2
        have htb : TB w12.drew rb 53 := ⟨_, _, hg12.run⟩
        exact ⟨rfl, ⟨k2, (k4.keep _ _ htb (.inr rfl)).trans hg12.run⟩, k3, k4⟩
    have HKP : Hid (∀ u, Below w7.heap.size w7 u → ShnS rb pb lb j xp u) := fun u hu => ⟨((HG7.out.below hu).at_).c0, row_at (own_below HL7.out hu (Nat.le_refl _)) HZJ.out.2⟩
    have HS0 : Hid (ShnS rb pb lb j xp w12.drew) := HKP.out _ hd12
    have HD12 : Hid (Below w7.heap.size w7 w12.drew) := hd12
    have htb12 : TB w12.drew rb 53 := ⟨_, _, hg12.run⟩
    have HR12 : Hid (∀ u, HeldT kin w12.drew u → ShnS rb pb lb j xp u) := fun u hh => by
      have h9 := own_heldT (own_below HL7.out hd12 (Nat.le_refl _)) hh (.inl rfl)
      exact ⟨(run_at ((hh.keep _ _ htb12 (.inr rfl)).trans hg12.run)).c0, row_at h9 HZJ.out.2⟩
    have z9' : ¬ 9223372036854775807 < 5 + xp.size := by omega
    clear hb712 hd12 hg12 hi4 hPid d1 d2 d3 d4 HB11 htb12
    go_wp2_with fail
    refine wp_region_Z (ShnS rb pb lb j xp) 99 (by kernel_rfl) ?_
    refine wpZ_take 0 _ (v := ?y0) rfl (by kernel_rfl) (by kernel_rfl) (by kernel_rfl) (fun _ _ _ h => h) (by kernel_rfl) (by decide) HS0.out rfl (fun w0 hS0 => ?hy) ?_
    case hy =>
      obtain ⟨s0, s1⟩ := hS0
      go_simp
      with_reducible rfl
    simp only [Act.put, List.setIfInBounds_toArray]
    refine wpZ_take 1 _ (v := ?y1) rfl (by kernel_rfl) (by kernel_rfl) (by kernel_rfl) (fun _ _ _ h => h) (by kernel_rfl) (by decide) HS0.out rfl (fun w0 hS0 => ?hy) ?_
    case hy =>
      obtain ⟨s0, s1⟩ := hS0
      go_simp
      with_reducible rfl
    simp only [Act.put]
    refine wpZ_take 2 _ (v := ?y2) rfl (by kernel_rfl) (by kernel_rfl) (by kernel_rfl) (fun _ _ _ h => h) (by kernel_rfl) (by decide) HS0.out rfl (fun w0 hS0 => ?hy) ?_
    case hy =>
      obtain ⟨s0, s1⟩ := hS0
      go_simp
      with_reducible rfl
    simp only [Act.put]
    refine wpZ_take 3 _ (v := ?y3) rfl (by kernel_rfl) (by kernel_rfl) (by kernel_rfl) (fun _ _ _ h => h) (by kernel_rfl) (by decide) HS0.out rfl (fun w0 hS0 => ?hy) ?_
    case hy =>
      obtain ⟨s0, s1⟩ := hS0
      go_simp
      with_reducible rfl
    simp only [Act.put]
    refine wpZ_take 4 _ (v := ?y4) rfl (by kernel_rfl) (by kernel_rfl) (by kernel_rfl) (fun _ _ _ h => h) (by kernel_rfl) (by decide) HS0.out rfl (fun w0 hS0 => ?hy) ?_
    case hy =>
      obtain ⟨s0, s1⟩ := hS0
      go_simp
      with_reducible rfl
    simp only [Act.put]
    refine wpZ_take 5 _ (v := ?y5) rfl (by kernel_rfl) (by kernel_rfl) (by kernel_rfl) (fun _ _ _ h => h) (by kernel_rfl) (by decide) HS0.out rfl (fun w0 hS0 => ?hy) ?_
    case hy =>
      obtain ⟨s0, s1⟩ := hS0
      go_simp
      with_reducible rfl
    simp only [Act.put]
    refine wpZ_take 6 _ (v := ?y6) rfl (by kernel_rfl) (by kernel_rfl) (by kernel_rfl) (fun _ _ _ h => h) (by kernel_rfl) (by decide) HS0.out rfl (fun w0 hS0 => ?hy) ?_
    case hy =>
      obtain ⟨s0, s1⟩ := hS0
      go_simp
      with_reducible rfl
    simp only [Act.put]
    refine wpZ_take 7 _ (v := ?y7) rfl (by kernel_rfl) (by kernel_rfl) (by kernel_rfl) (fun _ _ _ h => h) (by kernel_rfl) (by decide) HS0.out rfl (fun w0 hS0 => ?hy) ?_
    case hy =>
      obtain ⟨s0, s1⟩ := hS0
      go_simp
      with_reducible rfl
    simp only [Act.put]
    refine wpZ_take 8 _ (v := ?y8) rfl (by kernel_rfl) (by kernel_rfl) (by kernel_rfl) (fun _ _ _ h => h) (by kernel_rfl) (by decide) HS0.out rfl (fun w0 hS0 => ?hy) ?_
    case hy =>
      obtain ⟨s0, s1⟩ := hS0
      go_simp
      with_reducible rfl
    simp only [Act.put]
    refine wpZ_take 9 _ (v := ?y9) rfl (by kernel_rfl) (by kernel_rfl) (by kernel_rfl) (fun _ _ _ h => h) (by kernel_rfl) (by decide) HS0.out rfl (fun w0 hS0 => ?hy) ?_
    case hy =>
      obtain ⟨s0, s1⟩ := hS0
      go_simp
      with_reducible rfl
    simp only [Act.put]
    refine wpZ_one 10 _ rfl (by kernel_rfl) (fun KK hK => ?_)
    go_simp
    refine HSW.out.mono ?_
    rintro e w13 ⟨rfl, hg13, hb13, hh13⟩
    dsimp only
    have HS3 : Hid (ShnS rb pb lb j xp w13) := HR12.out w13 hh13
    refine hK.out _ _ (fun _ => HS3.out) ?_
    clear hK HSW
    have hh713 : HeldT (· = 9) w7 w13 := (HeldT.of_below HD12.out).trans (kin9 hh13)
    have HL13 : Hid (w13.ownsRow w1.heap.size 9 1 (.slice (some ⟨lb, 0, none⟩) Z.length lc) Z.length (strs Z)) := own_heldT HL7.out hh713 rfl
    have HV13 : Hid (w13.ownsRow w5.heap.size 9 1 (.slice sa V.length sc2) V.length (strs V)) := own_heldT HV7.out hh713 rfl
    have HB13 : Hid (Below w.heap.size w w13) := HB7.out.trans ((HD12.out.mono HB7.out.size).trans (hb13.mono hBw))
    have HG13 : Hid (RG w13 B rb pb rg cap gb fb n Ps f s (idsTo n)) := hg13
    clear hg13 hb13 hh13 hh713 HD12 HR12 HKP HL7 HK7 HF7 HV7 HB7 HG7
    refine wpZ_take 11 _ (v := ?y11) rfl (by kernel_rfl) (by kernel_rfl) (by kernel_rfl) (fun _ _ _ h => h) (by kernel_rfl) (by decide) HS3.out rfl (fun w0 hS0 => ?hy) ?_
    case hy =>
      obtain ⟨s0, s1⟩ := hS0
      go_simp
      with_reducible rfl
    simp only [Act.put, List.setIfInBounds_toArray]
    refine wpZ_take 12 _ (v := ?y12) rfl (by kernel_rfl) (by kernel_rfl) (by kernel_rfl) (fun _ _ _ h => h) (by kernel_rfl) (by decide) HS3.out rfl (fun w0 hS0 => ?hy) ?_
    case hy =>
      obtain ⟨s0, s1⟩ := hS0
      go_simp
      with_reducible rfl
    simp only [Act.put]
    refine wpZ_take 13 _ (v := ?y13) rfl (by kernel_rfl) (by kernel_rfl) (by kernel_rfl) (fun _ _ _ h => h) (by kernel_rfl) (by decide) HS3.out rfl (fun w0 hS0 => ?hy) ?_
    case hy =>
      obtain ⟨s0, s1⟩ := hS0
      go_simp
      with_reducible rfl
    simp only [Act.put]
    refine wpZ_take 14 _ (v := ?y14) rfl (by kernel_rfl) (by kernel_rfl) (by kernel_rfl) (fun _ _ _ h => h) (by kernel_rfl) (by decide) HS3.out rfl (fun w0 hS0 => ?hy) ?_
    case hy =>
      obtain ⟨s0, s1⟩ := hS0
      go_simp
      with_reducible rfl
    simp only [Act.put]
    refine wpZ_take 15 _ (v := ?y15) rfl (by kernel_rfl) (by kernel_rfl) (by kernel_rfl) (fun _ _ _ h => h) (by kernel_rfl) (by decide) HS3.out rfl (fun w0 hS0 => ?hy) ?_
    case hy =>
      obtain ⟨s0, s1⟩ := hS0
      go_simp
      with_reducible rfl
    simp only [Act.put]
    refine wpZ_done (by kernel_rfl) ?_ _
    have HL14 : Hid (Calls Tryz.prog 27 #[.pointer (some ⟨rb, 0, none⟩), .int .i64 0, .string ⟨#[108, 111, 103]⟩] w13 fun e w' => ∃ v, e = .returned (.tuple #[v, .bool true]) ∧ w'.ownsRow w13.heap.size 9 1 v Z.length (strs Z) ∧ Below w13.heap.size w13 w') := by
      have := run_ids HG13.out wdLog (Ps.map (·.id)) (by rw [List.length_map]; have := HZL.out; omega) HG13.out.uw.log
      rw [HZ.out] at this
      exact this
    clear HS3 HS0
    go_wp2_with fail
    refine HL14.out.mono ?_
    rintro e w14 ⟨v14, rfl, ho14, hb14⟩
    clear HL14
    obtain ⟨ta, tc, rfl⟩ := own_shape ho14
    have HL14b : Hid (w14.ownsRow w1.heap.size 9 1 (.slice (some ⟨lb, 0, none⟩) Z.length lc) Z.length (strs Z)) := own_below HL13.out hb14 (Nat.le_refl _)
    have HS15 : Hid (Calls Tryz.prog 30 #[.pointer (some ⟨rb, 0, none⟩), .int .i64 0, .slice (some ⟨lb, 0, none⟩) Z.length lc] w14 fun e w' => ∃ v, e = .returned v ∧ w'.ownsRow w14.heap.size 9 1 v V.length (strs V) ∧ Below w14.heap.size w14 w') := by
      have hg := HG13.out.below hb14
      have := run_shown hg D (fun u hu k P m hk hm hP => HD.out u B pb rg cap gb fb f (idsTo n) (hg.below hu).uw k P m hk hm hP) HSA.out (by have := HZL.out; omega) Z HZ.out HL14b.out
      rw [HV.out] at this
      exact this
    have HV14 : Hid (w14.ownsRow w5.heap.size 9 1 (.slice sa V.length sc2) V.length (strs V)) := own_below HV13.out hb14 (Nat.le_refl _)
    have HT14 : Hid (w14.ownsRow w13.heap.size 9 1 (.slice ta Z.length tc) Z.length (strs Z)) := ho14
    have HB14 : Hid (Below w.heap.size w w14) := HB13.out.trans (hb14.mono HB13.out.size)
    clear ho14 hb14 HL13 HV13 HB13
    go_wp2_with fail
    refine HS15.out.mono ?_
    rintro e w15 ⟨v15, rfl, ho15, hb15⟩
    clear HS15
    obtain ⟨ua, uc2, rfl⟩ := own_shape ho15
    have HS1 : Hid (Calls Tryz.prog 21 #[.slice (some ⟨lb, 0, none⟩) Z.length lc, .slice ta Z.length tc] w15 fun e w' => e = .returned (.bool true) ∧ ∃ q, w' = w15.drewN q) := ksame16_any Z _ _ _ _ _ _ w15 (own_below HL14b.out hb15 (Nat.le_refl _)) (own_below HT14.out hb15 (Nat.le_refl _)) (by omega)
    have HS2 : Hid (∀ q, Calls Tryz.prog 21 #[.slice sa V.length sc2, .slice ua V.length uc2] (w15.drewN q) fun e w' => e = .returned (.bool true) ∧ ∃ q2, w' = (w15.drewN q).drewN q2) := fun q => ksame16_any V _ _ _ _ _ _ _ (own_below (own_below HV14.out hb15 (Nat.le_refl _)) (below_drewN (Below.refl _ _) q) (Nat.le_refl _)) (own_below ho15 (below_drewN (Below.refl _ _) q) (Nat.le_refl _)) (by have := HVl.out; omega)
    have HEND : Hid (∀ q q2, Below w.heap.size w ((w15.drewN q).drewN q2)) := fun q q2 => below_drewN (below_drewN (HB14.out.trans (hb15.mono HB14.out.size)) q) q2
    clear ho15 hb15 HL14b HV14 HT14 HB14
    go_wp2_with fail
    refine HS1.out.mono ?_
    rintro e w' ⟨rfl, q1, rfl⟩
    go_wp2_with fail
    refine (HS2.out q1).mono ?_
    rintro e w' ⟨rfl, q2, rfl⟩
    have HE : Hid (Below w.heap.size w ((w15.drewN q1).drewN q2)) := HEND.out q1 q2
    clear HS1 HS2 HEND
    generalize (w15.drewN q1).drewN q2 = w16 at *
    go_wp2_with fail
    go_ret
    exact ⟨rfl, HE.out⟩
end Go.Proofs.YtgdfipmdmgkidaaGreatDoor
