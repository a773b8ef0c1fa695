/- What is kept of the three names in a run, and what their files are. -/
import Derived.Test.YtgdfipmdmgkidaaGreatDoorUdo2
namespace Go.Proofs.YtgdfipmdmgkidaaGreatDoor
open Go.RowKit
noncomputable def nmAt (i : Nat) : ByteArray := if h : i < 3 then (kname49_det (i : Int) (by omega) (by omega)).choose else nmA
theorem nmAt_mem (i : Nat) : nmAt i ∈ names3 := by
  unfold nmAt
  split
  · exact (kname49_det (i : Int) (by omega) (by omega)).choose_spec.1
  · simp [names3]
theorem nmAt_call {i : Nat} (hi : i < 3) (w : World) : Calls Tryz.prog 49 #[.int .i64 i] w fun e w' => e = .returned (.string (nmAt i)) ∧ w' = w := by
  have e : nmAt i = (kname49_det (i : Int) (by omega) (by omega)).choose := by unfold nmAt; rw [dif_pos hi]
  rw [e]
  exact (kname49_det (i : Int) (by omega) (by omega)).choose_spec.2 w
noncomputable def keptX (s : ByteArray → PL) (k : Nat) : List ByteArray := (List.range k).map fun i => keptL s (nmAt i)
theorem keptX_succ (s : ByteArray → PL) (k : Nat) : keptX s (k + 1) = keptX s k ++ [keptL s (nmAt k)] := by unfold keptX; rw [List.range_succ, List.map_append]; rfl
section
variable {w : World} {B rb pb rg : Nat} {cap : Cfg} {gb fb n : Nat} {Ps : List PM} {f : ByteArray → Option ByteArray} {s : ByteArray → PL} {G : List Pid}
set_option maxRecDepth 100000 in
set_option maxHeartbeats 3200000 in
theorem run_kept (h : RG w B rb pb rg cap gb fb n Ps f s G) :
    Calls Tryz.prog 26 #[.pointer (some ⟨rb, 0, none⟩), .int .i64 cap.r] w fun e w' => ∃ v, e = .returned v ∧ w'.ownsRow w.heap.size 9 1 v (keptX s 3).length (strs (keptX s 3)) ∧ Below w.heap.size w w' := by
  obtain ⟨i0, hi, hz0, hz1, hz2⟩ := info_parts Tryz.info9
  have HH := hid h
  clear h
  go_enter Tryz.func26, Tryz.ntmps26
  go_wp2
  go_loopw [5, 6, 7, 8] (fun v i _ _ wr => ∃ (k : Nat) (O : List ByteArray), k ≤ 3 ∧ i = .int .i64 k ∧ Hid (O = keptX s k) ∧ Hid (O.length = k) ∧ wr.ownsRow w.heap.size 9 1 v O.length (strs O) ∧ Below w.heap.size w wr) (fun _ i _ _ _ => 3 - (intOf i).toNat)
  case atStart => exact ⟨0, [], Nat.zero_le _, rfl, rfl, rfl, World.ownsRow_nil _ _ _ _, Below.refl _ _⟩
  case round =>
    obtain ⟨k, O, hk, rfl, HO, HOl, hown, hbw⟩ := hrel
    have hw := hbw.size
    obtain ⟨va, vc, rfl⟩ := own_shape hown
    by_cases hlt : k < 3
    · by_cases ha : (s (nmAt k)).alive = true
      · obtain ⟨z, hz⟩ : ∃ z, rowText (s (nmAt k)).S = z := ⟨_, rfl⟩
        have HZ : Hid (keptL s (nmAt k) = z) := by show _ = _; rw [← hz]; unfold keptL; rw [if_pos ha]
        have hb1 : Below w.heap.size w wr.drew := hbw.trans (Below.refl _ _).drew
        have h1 := HH.out.below hb1
        have HS0 := hid h1.at_
        have HK : Hid (Calls Tryz.prog 18 #[.pointer (some ⟨pb, 0, none⟩), .int .i64 cap.r, .string (nmAt k)] wr.drew fun e w' => e = .returned (.tuple #[.string z, .int .i64 0]) ∧ Below wr.drew.heap.size wr.drew w') := by
          have := h1.uw.kept (nmAt_mem k)
          simp only [if_pos ha, hz] at this
          exact this
        have HN := hid (nmAt_call hlt wr.drew)
        have HB1 := hid hb1
        have HSB : Hid (∀ u, Below wr.drew.heap.size wr.drew u → RunS rb pb n u) := fun u hu => (h1.below hu).at_
        have HOW := hid hown
        clear h1 hb1 hown
        go_wp2_with fail
        refine wp_region_Z (RunS rb pb n) 99 (by kernel_rfl) ?_
        refine zt 0 (v := ?z1) HS0.out (fun w0 hS0 => ?hy) ?_
        case hy => obtain ⟨s1, s2⟩ := hS0; go_simp; with_reducible rfl
        simp only [Act.put, List.setIfInBounds_toArray]
        refine zt 1 (v := ?z2) HS0.out (fun w0 hS0 => ?hy) ?_
        case hy => obtain ⟨s1, s2⟩ := hS0; go_simp; with_reducible rfl
        simp only [Act.put]
        refine zt 2 (v := ?z3) HS0.out (fun w0 hS0 => ?hy) ?_
        case hy => obtain ⟨s1, s2⟩ := hS0; go_simp; with_reducible rfl
        simp only [Act.put]
        refine zt 3 (v := ?z4) HS0.out (fun w0 hS0 => ?hy) ?_
        case hy => obtain ⟨s1, s2⟩ := hS0; go_simp; with_reducible rfl
        simp only [Act.put]
        refine zt 4 (v := ?z5) HS0.out (fun w0 hS0 => ?hy) ?_
        case hy => obtain ⟨s1, s2⟩ := hS0; go_simp; with_reducible rfl
        simp only [Act.put]
        refine zt 5 (v := ?z6) HS0.out (fun w0 hS0 => ?hy) ?_
        case hy => obtain ⟨s1, s2⟩ := hS0; go_simp; with_reducible rfl
        simp only [Act.put]
        refine wpZ_one 6 _ rfl (by kernel_rfl) (fun KK hK => ?_)
        go_simp
        refine HN.out.mono ?_
        rintro e w1 ⟨rfl, rfl⟩
        dsimp only
        refine hK.out _ _ (fun _ => HS0.out) ?_
        clear hK HN
        refine wpZ_one 7 _ rfl (by kernel_rfl) (fun KK hK => ?_)
        go_simp
        refine HK.out.mono ?_
        rintro e w2 ⟨rfl, hb2⟩
        dsimp only
        have HS2 := hid (HSB.out w2 hb2)
        refine hK.out _ _ (fun _ => HS2.out) ?_
        clear hK HK HSB
        refine zt 8 (v := ?z7) HS2.out (fun w0 hS0 => ?hy) ?_
        case hy => obtain ⟨s1, s2⟩ := hS0; go_simp; with_reducible rfl
        simp only [Act.put, List.setIfInBounds_toArray]
        refine zt 9 (v := ?z8) HS2.out (fun w0 hS0 => ?hy) ?_
        case hy => obtain ⟨s1, s2⟩ := hS0; go_simp; with_reducible rfl
        simp only [Act.put]
        refine zt 10 (v := ?z9) HS2.out (fun w0 hS0 => ?hy) ?_
        case hy => obtain ⟨s1, s2⟩ := hS0; go_simp; with_reducible rfl
        simp only [Act.put]
        refine zt 11 (v := ?z10) HS2.out (fun w0 hS0 => ?hy) ?_
        case hy => obtain ⟨s1, s2⟩ := hS0; go_simp; with_reducible rfl
        simp only [Act.put]
        refine zt 12 (v := ?z11) HS2.out (fun w0 hS0 => ?hy) ?_
        case hy => obtain ⟨s1, s2⟩ := hS0; go_simp; with_reducible rfl
        simp only [Act.put]
        refine wpZ_done (by kernel_rfl) ?_ _
        have hbw2 : Below w.heap.size w w2 := HB1.out.trans (hb2.mono HB1.out.size)
        have hown2 : w2.ownsRow w.heap.size 9 1 (.slice va O.length vc) O.length (strs O) := own_below (HOW.out.drew) hb2 (Nat.le_refl _)
        have hw2 := hbw2.size
        clear hb2 HB1 HOW HS2 HS0 hbw
        go_wp2_with (at_builtin; refine wpList_append_own _ rfl _ _ 35 rfl w.heap.size 9 i0 (.string ⟨#[]⟩) 1 16 Tryz.underlying35 hi hz0 hz1 hz2 rfl (by decide) _ _ _ rfl (hown2.alloc _) ⟨w2.heap.size, 0, none⟩ 1 1 [.string z] rfl rfl ?c1 ?c2 ?c3 ?c4 ?c5 ?_)
        case c1 => exact new_one _ _ _
        case c2 => exact strs_one [_]
        case c3 => have := HOl.out; unfold maxLen; omega
        case c4 => have := HOl.out; omega
        case c5 => simp; omega
        intro v' w3 hown' hg _
        have R := step_own (Nat.le_refl _) hown2 hbw2 hw2 hown' hg
        clear hown' hg hown2 hbw2
        go_wp2
        go_roundw
        case rel => exact ⟨k + 1, O ++ [z], by omega, by go_num, by show _ = _; rw [keptX_succ, HO.out, HZ.out], by show _ = _; rw [List.length_append, HOl.out]; rfl, R.1, R.2.1⟩
        case measure => simp [intOf]; omega
      · have HZ : Hid (keptL s (nmAt k) = ⟨#[45]⟩) := by show _ = _; unfold keptL; rw [if_neg ha]; rfl
        have hb1 : Below w.heap.size w wr.drew := hbw.trans (Below.refl _ _).drew
        have h1 := HH.out.below hb1
        have HS0 := hid h1.at_
        have HK : Hid (Calls Tryz.prog 18 #[.pointer (some ⟨pb, 0, none⟩), .int .i64 cap.r, .string (nmAt k)] wr.drew fun e w' => e = .returned (.tuple #[.string ⟨#[]⟩, .int .i64 5]) ∧ Below wr.drew.heap.size wr.drew w') := by
          have := h1.uw.kept (nmAt_mem k)
          simp only [if_neg ha] at this
          exact this
        have HN := hid (nmAt_call hlt wr.drew)
        have HB1 := hid hb1
        have HSB : Hid (∀ u, Below wr.drew.heap.size wr.drew u → RunS rb pb n u) := fun u hu => (h1.below hu).at_
        have HOW := hid hown
        clear h1 hb1 hown
        go_wp2_with fail
        refine wp_region_Z (RunS rb pb n) 99 (by kernel_rfl) ?_
        refine zt 0 (v := ?z12) HS0.out (fun w0 hS0 => ?hy) ?_
        case hy => obtain ⟨s1, s2⟩ := hS0; go_simp; with_reducible rfl
        simp only [Act.put, List.setIfInBounds_toArray]
        refine zt 1 (v := ?z13) HS0.out (fun w0 hS0 => ?hy) ?_
        case hy => obtain ⟨s1, s2⟩ := hS0; go_simp; with_reducible rfl
        simp only [Act.put]
        refine zt 2 (v := ?z14) HS0.out (fun w0 hS0 => ?hy) ?_
        case hy => obtain ⟨s1, s2⟩ := hS0; go_simp; with_reducible rfl
        simp only [Act.put]
        refine zt 3 (v := ?z15) HS0.out (fun w0 hS0 => ?hy) ?_
        case hy => obtain ⟨s1, s2⟩ := hS0; go_simp; with_reducible rfl
        simp only [Act.put]
        refine zt 4 (v := ?z16) HS0.out (fun w0 hS0 => ?hy) ?_
        case hy => obtain ⟨s1, s2⟩ := hS0; go_simp; with_reducible rfl
        simp only [Act.put]
        refine zt 5 (v := ?z17) HS0.out (fun w0 hS0 => ?hy) ?_
        case hy => obtain ⟨s1, s2⟩ := hS0; go_simp; with_reducible rfl
        simp only [Act.put]
        refine wpZ_one 6 _ rfl (by kernel_rfl) (fun KK hK => ?_)
        go_simp
        refine HN.out.mono ?_
        rintro e w1 ⟨rfl, rfl⟩
        dsimp only
        refine hK.out _ _ (fun _ => HS0.out) ?_
        clear hK HN
        refine wpZ_one 7 _ rfl (by kernel_rfl) (fun KK hK => ?_)
        go_simp
        refine HK.out.mono ?_
        rintro e w2 ⟨rfl, hb2⟩
        dsimp only
        have HS2 := hid (HSB.out w2 hb2)
        refine hK.out _ _ (fun _ => HS2.out) ?_
        clear hK HK HSB
        refine zt 8 (v := ?z18) HS2.out (fun w0 hS0 => ?hy) ?_
        case hy => obtain ⟨s1, s2⟩ := hS0; go_simp; with_reducible rfl
        simp only [Act.put, List.setIfInBounds_toArray]
        refine zt 9 (v := ?z19) HS2.out (fun w0 hS0 => ?hy) ?_
        case hy => obtain ⟨s1, s2⟩ := hS0; go_simp; with_reducible rfl
        simp only [Act.put]
        refine zt 10 (v := ?z20) HS2.out (fun w0 hS0 => ?hy) ?_
        case hy => obtain ⟨s1, s2⟩ := hS0; go_simp; with_reducible rfl
        simp only [Act.put]
        refine zt 11 (v := ?z21) HS2.out (fun w0 hS0 => ?hy) ?_
        case hy => obtain ⟨s1, s2⟩ := hS0; go_simp; with_reducible rfl
        simp only [Act.put]
        refine zt 12 (v := ?z22) HS2.out (fun w0 hS0 => ?hy) ?_
        case hy => obtain ⟨s1, s2⟩ := hS0; go_simp; with_reducible rfl
        simp only [Act.put]
        refine wpZ_done (by kernel_rfl) ?_ _
        have hbw2 : Below w.heap.size w w2 := HB1.out.trans (hb2.mono HB1.out.size)
        have hown2 : w2.ownsRow w.heap.size 9 1 (.slice va O.length vc) O.length (strs O) := own_below (HOW.out.drew) hb2 (Nat.le_refl _)
        have hw2 := hbw2.size
        clear hb2 HB1 HOW HS2 HS0 hbw
        go_wp2_with (at_builtin; refine wpList_append_own _ rfl _ _ 35 rfl w.heap.size 9 i0 (.string ⟨#[]⟩) 1 16 Tryz.underlying35 hi hz0 hz1 hz2 rfl (by decide) _ _ _ rfl (hown2.alloc _) ⟨w2.heap.size, 0, none⟩ 1 1 [.string ⟨#[45]⟩] rfl rfl ?c1 ?c2 ?c3 ?c4 ?c5 ?_)
        case c1 => exact new_one _ _ _
        case c2 => exact strs_one [_]
        case c3 => have := HOl.out; unfold maxLen; omega
        case c4 => have := HOl.out; omega
        case c5 => simp; omega
        intro v' w3 hown' hg _
        have R := step_own (Nat.le_refl _) hown2 hbw2 hw2 hown' hg
        clear hown' hg hown2 hbw2
        go_wp2
        go_roundw
        case rel => exact ⟨k + 1, O ++ [⟨#[45]⟩], by omega, by go_num, by show _ = _; rw [keptX_succ, HO.out, HZ.out], by show _ = _; rw [List.length_append, HOl.out]; rfl, R.1, R.2.1⟩
        case measure => simp [intOf]; omega
    · have : k = 3 := by omega
      subst this
      go_wp2
      go_ret
      have e := HO.out
      subst e
      exact ⟨_, rfl, hown, hbw⟩
end
end Go.Proofs.YtgdfipmdmgkidaaGreatDoor
