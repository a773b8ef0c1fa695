/- How many of the patches each patch needs. -/
import Derived.Test.YtgdfipmdmgkidaaGreatDoorUrvs
import Derived.Test.YtgdfipmdmgkidaaGreatDoorPrecw
import Derived.Deep.CutRange
namespace Go.Proofs.YtgdfipmdmgkidaaGreatDoor
open Go.RowKit

theorem cntN_take_yes {S : List PM} {N : PM → PM → Prop} {Q P : PM} {t : Nat} (ht : S[t]? = some P) (hn : N Q P) : cntN (S.take (t + 1)) N [] Q = cntN (S.take t) N [] Q + 1 := by
  classical
  unfold cntN
  rw [List.take_add_one, ht, List.filter_append, List.length_append]
  simp [hn]
theorem cntN_take_no {S : List PM} {N : PM → PM → Prop} {Q P : PM} {t : Nat} (ht : S[t]? = some P) (hn : ¬ N Q P) : cntN (S.take (t + 1)) N [] Q = cntN (S.take t) N [] Q := by
  classical
  unfold cntN
  rw [List.take_add_one, ht, List.filter_append, List.length_append]
  simp [hn]
theorem id_inj {Ps : List PM} (hnd : (Ps.map (·.id)).Nodup) {j k : Nat} {P Q : PM} (hj : Ps[j]? = some P) (hk : Ps[k]? = some Q) (e : P.id = Q.id) : j = k := by
  have h1 : (Ps.map (·.id))[j]? = some P.id := by rw [List.getElem?_map, hj]; rfl
  have h2 : (Ps.map (·.id))[k]? = some Q.id := by rw [List.getElem?_map, hk]; rfl
  exact (List.getElem?_inj (List.getElem?_eq_some_iff.1 h1).1 hnd).1 (by rw [h1, h2, e])
/-- What the counting of one need reads. -/
structure CntS (qb mb : Nat) (i : Pid) (n : Int) (w : World) : Prop where
  a : w.cell? ⟨qb, 0, none⟩ = some (.int .u8 i.a)
  b : w.cell? ⟨qb, 1, none⟩ = some (.int .u8 i.b)
  c : w.cell? ⟨qb, 2, none⟩ = some (.int .u8 i.c)
  d : w.cell? ⟨qb, 3, none⟩ = some (.int .u8 i.d)
  look : (Instr.lookup 163 (.map (some mb)) (.agg #[.int .u8 i.a, .int .u8 i.b, .int .u8 i.c, .int .u8 i.d]) false).run Tryz.prog w = .ok (.int .i64 n) w
theorem CntS.of {w : World} {qb mb N : Nat} {i : Pid} {W : Pid → Int} {cv : Value} (hq : w.heap[qb]? = some (.cells #[.int .u8 i.a, .int .u8 i.b, .int .u8 i.c, .int .u8 i.d, cv] 149 (0, 0))) (h : WAt w mb N W) (hi : IdOK i) : CntS qb mb i (W i) w := by
  refine ⟨?_, ?_, ?_, ?_, h.look hi⟩ <;> simp [World.cell?, hq]

set_option maxRecDepth 100000 in
set_option maxHeartbeats 6400000 in
theorem cnt117_any (Ps : List PM) (pv : Value) (w : World) (hp : PV w pv Ps) (hl : Ps.length ≤ 100) (hok : ∀ P ∈ Ps, IdOK P.id) (hsm : ∀ P ∈ Ps, P.Cs.length ≤ 1000 ∧ ∀ d ∈ P.Cs, ChSmall d.2) (hnd : (Ps.map (·.id)).Nodup) :
    Calls Tryz.prog 117 #[pv] w fun e w' => ∃ W N, e = .returned (.map (some w.heap.size)) ∧ N ≤ 10000 ∧ WAt w' w.heap.size N W ∧ (∀ Q ∈ Ps, W Q.id = (cntN Ps NeedsP [] Q : Nat)) ∧ Below w.heap.size w w' := by
  obtain ⟨wm, hwm⟩ : ∃ wm, wm = w.alloc (.map #[] 0) := ⟨_, rfl⟩
  have hbm : Below w.heap.size w wm := by rw [hwm]; exact (Below.refl _ _).alloc (Nat.le_refl _) _
  have HW0 : Hid (WAt wm w.heap.size 0 (fun _ => 0)) := by rw [hwm]; exact WAt.made w
  have HPV := hid hp
  obtain ⟨pa, pc, rfl, hcc⟩ := hp
  clear hcc
  have HOK := hid hok
  have HSM := hid hsm
  have HND := hid hnd
  clear hok hsm hnd
  obtain ⟨mb, hmb⟩ : ∃ mb, w.heap.size = mb := ⟨_, rfl⟩
  have mk : ∀ u : World, (Instr.makeMap 163 none).run Tryz.prog u = .ok (.map (some u.heap.size)) (u.alloc (.map #[] 0)) := fun u => by kernel_rfl
  go_enter Tryz.func117, Tryz.ntmps117
  go_wp2_with fail
  rw [← hwm]
  clear hwm
  rw [hmb] at HW0
  go_loopw [11] (fun x wr => ∃ (k N : Nat) (W : Pid → Int), k ≤ Ps.length ∧ x = .int .i64 k ∧ N ≤ k * 100 ∧ Hid (WAt wr mb N W) ∧ Hid (∀ j Q, Ps[j]? = some Q → W Q.id = if j < k then ((cntN Ps NeedsP [] Q : Nat) : Int) else 0) ∧ Below mb w wr) (fun x _ => Ps.length - (intOf x).toNat)
  case atStart => exact ⟨0, 0, fun _ => 0, Nat.zero_le _, rfl, Nat.zero_le _, HW0, fun j Q _ => by simp, by rw [← hmb]; exact hbm⟩
  case round =>
    clear HW0
    obtain ⟨k, N, W, hk, rfl, hN, HW, HWS, hbw⟩ := hrel
    have hbw0 : Below w.heap.size w wr := by rw [hmb]; exact hbw
    have hmlt : mb < wr.heap.size := HW.out.lt
    by_cases hlt : k < Ps.length
    · obtain ⟨Q, hQe⟩ : ∃ Q, Ps[k] = Q := ⟨_, rfl⟩
      have hQ : Ps[k]? = some Q := by rw [List.getElem?_eq_getElem hlt, hQe]
      have HQ := hid hQ
      have hQm := List.mem_of_getElem? hQ
      obtain ⟨_, _, e1, hcc⟩ := HPV.out.below hbw0 (Nat.le_refl _)
      cases e1
      obtain ⟨b, o, rfl, hb, d0, d1, d2, d3, d4, hcvQ⟩ := hcc k _ hQ
      obtain ⟨qa, qn, qc, hqv⟩ := hcvQ.cvS
      rw [hqv] at d4
      clear hcc
      obtain ⟨w4, hw4⟩ : ∃ w4, w4 = wr.alloc (.cells #[.int .u8 Q.id.a, .int .u8 Q.id.b, .int .u8 Q.id.c, .int .u8 Q.id.d, .slice qa qn qc] 149) := ⟨_, rfl⟩
      have hb4 : Below wr.heap.size wr w4 := by rw [hw4]; exact (Below.refl _ _).alloc (Nat.le_refl _) _
      have hk4 := (MapKept.heap_alloc wr (.cells #[.int .u8 Q.id.a, .int .u8 Q.id.b, .int .u8 Q.id.c, .int .u8 Q.id.d, .slice qa qn qc] 149)).1
      rw [← hw4] at hk4
      have HK4 := hid hk4
      have HW4 : Hid (WAt w4 mb N W) := HW.out.same (hb4.block mb hmlt)
      have HQV := hid hqv
      have hb04 : Below mb w w4 := hbw.trans (hb4.mono (by omega))
      obtain ⟨qb, hqb⟩ : ∃ qb, wr.heap.size = qb := ⟨_, rfl⟩
      clear hk4 hQe hcvQ hqv hb HW hbw hbw0 hb4
      go_wp2_with fail
      rw [← hw4]
      clear hw4 d0 d1 d2 d3 d4
      rw [hqb] at HK4
      go_loopw [17] (fun x wi => ∃ t : Nat, t ≤ Ps.length ∧ x = .int .i64 t ∧ Hid (WAt wi mb (N + t) (updW W Q.id ((cntN (Ps.take t) NeedsP [] Q : Nat) : Int))) ∧ Hid (wi.heap[qb]? = some (.cells #[.int .u8 Q.id.a, .int .u8 Q.id.b, .int .u8 Q.id.c, .int .u8 Q.id.d, .slice qa qn qc] 149 (0, 0))) ∧ Below mb w wi) (fun x _ => Ps.length - (intOf x).toNat)
      case atStart =>
        refine ⟨0, Nat.zero_le _, rfl, HW4.out.ext (fun i hi => ?_), HK4, hb04⟩
        by_cases e : i = Q.id
        · rw [e, updW_same, HWS.out k Q HQ.out, if_neg (by omega)]
          rfl
        · rw [updW_other e]
      case round =>
        clear HW4 HK4 hb04
        obtain ⟨t, ht, rfl, HWI, HKI, hbi⟩ := hrel
        have hbi0 : Below w.heap.size w wr := by rw [hmb]; exact hbi
        have hmli : mb < wr.heap.size := HWI.out.lt
        have hqli : qb < wr.heap.size := (Array.getElem?_eq_some_iff.1 HKI.out).1
        by_cases htl : t < Ps.length
        · obtain ⟨P, hPe⟩ : ∃ P, Ps[t] = P := ⟨_, rfl⟩
          have hP : Ps[t]? = some P := by rw [List.getElem?_eq_getElem htl, hPe]
          have HP := hid hP
          have hPm := List.mem_of_getElem? hP
          obtain ⟨_, _, e1, hcc⟩ := HPV.out.below hbi0 (Nat.le_refl _)
          cases e1
          obtain ⟨b2, o2, e2, hb, d0, d1, d2, d3, d4, hcvP⟩ := hcc t _ hP
          cases e2
          obtain ⟨_, _, e3, -, -, -, -, -, -, hcvQ⟩ := hcc k _ HQ.out
          clear e3
          obtain ⟨pa, pn, pc', hpv⟩ := hcvP.cvS
          rw [hpv] at d4
          obtain ⟨w5, hw5⟩ : ∃ w5, w5 = wr.alloc (.cells #[.int .u8 P.id.a, .int .u8 P.id.b, .int .u8 P.id.c, .int .u8 P.id.d, .slice pa pn pc'] 149) := ⟨_, rfl⟩
          have hb5 : Below wr.heap.size wr w5 := by rw [hw5]; exact (Below.refl _ _).alloc (Nat.le_refl _) _
          have hk5 := (MapKept.heap_alloc wr (.cells #[.int .u8 P.id.a, .int .u8 P.id.b, .int .u8 P.id.c, .int .u8 P.id.d, .slice pa pn pc'] 149)).1
          rw [← hw5] at hk5
          have HKP := hid hk5
          have hq5 := (hb5.block qb hqli).trans HKI.out
          obtain ⟨hlQ, hsQ⟩ := HSM.out Q hQm
          obtain ⟨hlP, hsP⟩ := HSM.out P hPm
          have HNC : Hid (Calls Tryz.prog 121 #[.agg #[.int .u8 Q.id.a, .int .u8 Q.id.b, .int .u8 Q.id.c, .int .u8 Q.id.d, .slice qa qn qc], .agg #[.int .u8 P.id.a, .int .u8 P.id.b, .int .u8 P.id.c, .int .u8 P.id.d, .slice pa pn pc']] w5 fun e w' => e = .returned (.bool (needsP Q P)) ∧ Below w5.heap.size w5 w') := by
            have := needs121_any Q P w5 (hcvQ.below hb5 (Nat.le_refl _)) hsQ (hcvP.below hb5 (Nat.le_refl _)) hsP hlQ hlP
            unfold pmV at this
            rw [HQV.out, hpv] at this
            exact this
          have HW5 : Hid (WAt w5 mb (N + t) (updW W Q.id ((cntN (Ps.take t) NeedsP [] Q : Nat) : Int))) := HWI.out.same (hb5.block mb hmli)
          have HK5 := hid hq5
          have hb05 : Below mb w w5 := hbi.trans (hb5.mono (by omega))
          have hcn : cntN (Ps.take t) NeedsP [] Q ≤ 100 := by
            have := cntN_le (Ps.take t) NeedsP [] Q
            rw [List.length_take] at this
            omega
          have HIQ := hid (HOK.out Q hQm)
          clear hcc hPe hP hcvP hcvQ hpv hb hq5 HWI HKI hk5 hbi0 hb5 hlQ hsQ hlP hsP hQm hPm hbi hmli hqli
          cases hn : needsP Q P with
          | false =>
            rw [hn] at HNC
            have HN2 : Hid (¬ NeedsP Q P) := fun hh => by
              rw [(needs_iff Q P).2 hh] at hn
              cases hn
            clear hn
            go_upto_region 8 with fail
            rw [← hw5]
            clear hw5
            obtain ⟨q0, q1, q2, q3, q4⟩ := cells5_of HKP.out
            obtain ⟨z0, z1, z2, z3, z4⟩ := cells5_of HK5.out
            go_wp2_with fail
            refine HNC.out.mono ?_
            rintro e w6 ⟨rfl, hb6⟩
            clear HNC
            have hs5 : mb < w5.heap.size := HW5.out.lt
            have hq5l : qb < w5.heap.size := (Array.getElem?_eq_some_iff.1 HK5.out).1
            have HW6 : Hid (WAt w6 mb (N + t) (updW W Q.id ((cntN (Ps.take t) NeedsP [] Q : Nat) : Int))) := HW5.out.same (hb6.block mb hs5)
            have HK6 : Hid (w6.heap[qb]? = some (.cells #[.int .u8 Q.id.a, .int .u8 Q.id.b, .int .u8 Q.id.c, .int .u8 Q.id.d, .slice qa qn qc] 149 (0, 0))) := (hb6.block qb hq5l).trans HK5.out
            have hb06 : Below mb w w6 := hb05.trans (hb6.mono (by omega))
            clear HW5 HK5 hb05 hb6
            go_wp2
            go_roundw
            case rel =>
              refine ⟨t + 1, by omega, by go_num, ?_, HK6, hb06⟩
              rw [cntN_take_no HP.out HN2.out]
              exact HW6.out.more (by omega)
            case measure => simp [intOf]; omega
          | true =>
            rw [hn] at HNC
            have HN2 : Hid (NeedsP Q P) := (needs_iff Q P).1 hn
            clear hn
            go_upto_region 8 with fail
            rw [← hw5]
            clear hw5
            obtain ⟨q0, q1, q2, q3, q4⟩ := cells5_of HKP.out
            obtain ⟨z0, z1, z2, z3, z4⟩ := cells5_of HK5.out
            go_wp2_with fail
            refine HNC.out.mono ?_
            rintro e w6 ⟨rfl, hb6⟩
            clear HNC
            have hs5 : mb < w5.heap.size := HW5.out.lt
            have hq5l : qb < w5.heap.size := (Array.getElem?_eq_some_iff.1 HK5.out).1
            obtain ⟨c, hce⟩ : ∃ c, cntN (Ps.take t) NeedsP [] Q = c := ⟨_, rfl⟩
            rw [hce] at HW5 hcn
            have hc2 : cntN (Ps.take (t + 1)) NeedsP [] Q = c + 1 := by rw [cntN_take_yes HP.out HN2.out, hce]
            have HC2 := hid hc2
            have h6 := HW5.out.same (hb6.block mb hs5)
            have hk6 := (hb6.block qb hq5l).trans HK5.out
            have hb06 : Below mb w w6.drew := (hb05.trans (hb6.mono (by omega))).drew
            have hS := CntS.of (w := w6.drew) hk6 (h6.same rfl) HIQ.out
            rw [updW_same] at hS
            obtain ⟨v0, st, w7, hr7, hg7, hw7, hst⟩ := WAt.entry (w := w6.drew) (h6.same rfl) HIQ.out (by omega)
            have hk7 : w7.heap[qb]? = some (.cells #[.int .u8 Q.id.a, .int .u8 Q.id.b, .int .u8 Q.id.c, .int .u8 Q.id.d, .slice qa qn qc] 149 (0, 0)) := (hg7.block qb (Array.getElem?_eq_some_iff.1 hk6).1 (fun e => by
              injection e with e
              obtain ⟨es, cl, hm⟩ := h6.map
              rw [← e, hk6] at hm
              cases hm)).trans hk6
            have hS7 := CntS.of hk7 hw7 HIQ.out
            rw [updW_same] at hS7
            obtain ⟨w8, hr8, hw8, hg8⟩ := hst w7 ((c + 1 : Nat) : Int) rfl
            have hk8 : w8.heap[qb]? = some (.cells #[.int .u8 Q.id.a, .int .u8 Q.id.b, .int .u8 Q.id.c, .int .u8 Q.id.d, .slice qa qn qc] 149 (0, 0)) := (hg8.block qb (Array.getElem?_eq_some_iff.1 hk7).1 (fun e => by
              injection e with e
              obtain ⟨es, cl, hm⟩ := hw7.map
              rw [← e, hk7] at hm
              cases hm)).trans hk7
            have HS6 := hid hS
            have HS7 := hid hS7
            have HW8 := hid hw8
            have HK8 := hid hk8
            have hb08 : Below mb w w8 := hb06.trans ⟨hg8.os.trans hg7.os, hg8.tape.trans hg7.tape, hg8.output.trans hg7.output, Nat.le_trans hg7.size hg8.size, fun x hx => (hg8.block x (by have := hg7.size; have := HW5.out.lt; have := hb6.size; have e : w6.drew.heap.size = w6.heap.size := rfl; omega) (by simp; omega)).trans (hg7.block x (by have := HW5.out.lt; have := hb6.size; have e : w6.drew.heap.size = w6.heap.size := rfl; omega) (by simp; omega))⟩
            have hr7' : (Instr.mapEntry 163 (.map (some mb)) (.agg #[.int .u8 Q.id.a, .int .u8 Q.id.b, .int .u8 Q.id.c, .int .u8 Q.id.d])).run Tryz.prog w6.drew = .ok (.tuple #[v0, .int .i64 st]) w7 := hr7
            have hr8' : (Instr.entryStore 163 (.map (some mb)) (.int .i64 st) (.int .i64 ((c : Int) + 1))).run Tryz.prog w7 = .ok () w8 := hr8
            clear hS hS7 hk6 hk7 hk8 hw7 hw8 hr7 hr8 hst h6 HK5 HW5 hb05 hb6 hg7 hg8 hce hc2
            go_wp2_with fail
            refine wp_region_Z (CntS qb mb Q.id c) 7 (by kernel_rfl) ?_
            have hwr : IntKind.i64.wrap ((c : Int) + 1) = (c : Int) + 1 := by simp (disch := omega) only [IntWalk.i64_in]
            refine zt 0 (v := ?a0) HS6.out (fun w0 hS0 => ?hy) ?_
            case hy => obtain ⟨s1, s2, s3, s4, s5⟩ := hS0; go_simp; with_reducible rfl
            simp only [Act.put, List.setIfInBounds_toArray]
            refine zt 1 (v := ?a1) HS6.out (fun w0 hS0 => ?hy) ?_
            case hy => obtain ⟨s1, s2, s3, s4, s5⟩ := hS0; go_simp; with_reducible rfl
            simp only [Act.put]
            refine zt 2 (v := ?a2) HS6.out (fun w0 hS0 => ?hy) ?_
            case hy => obtain ⟨s1, s2, s3, s4, s5⟩ := hS0; go_simp; with_reducible rfl
            simp only [Act.put]
            refine zt 3 (v := ?a3) HS6.out (fun w0 hS0 => ?hy) ?_
            case hy => obtain ⟨s1, s2, s3, s4, s5⟩ := hS0; go_simp; with_reducible rfl
            simp only [Act.put]
            refine zt 4 (v := ?a4) HS6.out (fun w0 hS0 => ?hy) ?_
            case hy => obtain ⟨s1, s2, s3, s4, s5⟩ := hS0; go_simp; with_reducible rfl
            simp only [Act.put]
            refine wpZ_one 5 _ rfl (by kernel_rfl) (fun KK hK => ?_)
            go_simp
            refine hK.out _ _ (fun _ => HS7.out) ?_
            clear hK
            refine zt 6 (v := ?b6) HS7.out (fun w0 hS0 => ?hy) ?_
            case hy => obtain ⟨s1, s2, s3, s4, s5⟩ := hS0; go_simp; with_reducible rfl
            simp only [Act.put, List.setIfInBounds_toArray]
            refine wpZ_one 7 _ rfl (by kernel_rfl) (fun KK hK => ?_)
            go_simp
            refine hK.out _ _ (fun h => absurd rfl h) ?_
            clear hK
            refine wpZ_done (by kernel_rfl) ?_ _
            clear hr7' hr8' HS6 HS7 hwr
            go_wp2
            go_roundw
            case rel =>
              refine ⟨t + 1, by omega, by go_num, ?_, HK8, hb08⟩
              rw [HC2.out]
              refine HW8.out.ext (fun i hi => ?_)
              by_cases e : i = Q.id
              · rw [e, updW_same, updW_same]
              · rw [updW_other e, updW_other e, updW_other e]
            case measure => simp [intOf]; omega
        · have e : t = Ps.length := by omega
          subst e
          rw [List.take_length] at HWI
          clear htl
          go_wp2
          go_roundw
          case rel =>
            refine ⟨k + 1, N + Ps.length, _, by omega, by go_num, by omega, HWI, fun j R hR => ?_, hbi⟩
            by_cases e : j = k
            · subst e
              have e2 : R = Q := by
                have := hR.symm.trans HQ.out
                simpa using this
              rw [e2, updW_same, if_pos (by omega)]
            · rw [updW_other (fun q => e (id_inj HND.out hR HQ.out q)), HWS.out j R hR]
              by_cases h1 : j < k
              · rw [if_pos h1, if_pos (by omega)]
              · rw [if_neg h1, if_neg (by omega)]
          case measure => simp [intOf]; omega
    · have e : k = Ps.length := by omega
      subst e
      clear hlt
      go_wp2
      go_ret
      refine ⟨W, N, by rw [hmb]; rfl, by omega, by rw [hmb]; exact HW.out, fun Q hQ => ?_, hbw0⟩
      obtain ⟨j, hj⟩ := List.mem_iff_getElem?.1 hQ
      rw [HWS.out j Q hj, if_pos (List.getElem?_eq_some_iff.1 hj).1]
end Go.Proofs.YtgdfipmdmgkidaaGreatDoor

/- What Order keeps in memory: the heap, the map of numbers, the list that it tells. -/
namespace Go.Proofs.YtgdfipmdmgkidaaGreatDoor
open Go.RowKit

/-- The heap L behind hb and the numbers W in mb, in a world that is w below its size. -/
structure OrdS (w wr : World) (mb hb N : Nat) (W : Pid → Int) (v : Value) (L : List PM) : Prop where
  wat : WAt wr mb N W
  least : LeastAt wr w.heap.size hb v L
  heap : HeapN L L.length
  below : Below w.heap.size w wr
  hi : w.heap.size ≤ mb
/-- A patch in a block of its own. -/
def BoxAt (w : World) (b : Nat) (P : PM) : Prop := w.heap[b]? = some (.cells #[.int .u8 P.id.a, .int .u8 P.id.b, .int .u8 P.id.c, .int .u8 P.id.d, P.cv] 149 (0, 0))
theorem BoxAt.lt {w : World} {b : Nat} {P : PM} (h : BoxAt w b P) : b < w.heap.size := (Array.getElem?_eq_some_iff.1 h).1
theorem BoxAt.below {w w' : World} {b B : Nat} {P : PM} (h : BoxAt w b P) (hb : Below B w w') (hB : w.heap.size ≤ B) : BoxAt w' b P := (hb.block b (Nat.lt_of_lt_of_le h.lt hB)).trans h
section
variable {w wr wr' : World} {mb hb N : Nat} {W : Pid → Int} {v v' : Value} {L : List PM}
theorem OrdS.mbhb (h : OrdS w wr mb hb N W v L) : mb ≠ hb := fun e => by
  obtain ⟨es, c, hm⟩ := h.wat.map
  rw [e, h.least.blk] at hm
  cases hm
theorem OrdS.mbv (h : OrdS w wr mb hb N W v L) : v.ownBlock ≠ some mb := fun e => by
  obtain ⟨A, fz, hq⟩ := own_TB h.least.own e
  obtain ⟨es, c, hm⟩ := h.wat.map
  rw [hm] at hq
  cases hq
theorem OrdS.to (h : OrdS w wr mb hb N W v L) (hb' : Below wr.heap.size wr wr') : OrdS w wr' mb hb N W v L :=
  ⟨h.wat.same (hb'.block mb h.wat.lt), h.least.below hb', h.heap, h.below.trans (hb'.mono h.below.size), h.hi⟩
theorem OrdS.step {L' : List PM} (h : OrdS w wr mb hb N W v L) (hs : LStep wr wr' hb v v') (hl : LeastAt wr' w.heap.size hb v' L') (hh : HeapN L' L'.length) : OrdS w wr' mb hb N W v' L' :=
  ⟨h.wat.same (hs.keep mb h.wat.lt h.mbhb h.mbv), hl, hh, h.below.trans (hs.below h.least.lo h.below.size h.least.above), h.hi⟩
theorem OrdS.put {N' : Nat} {W' : Pid → Int} (h : OrdS w wr mb hb N W v L) (hw : WAt wr' mb N' W') (hg : wr.grownBy wr' (some mb)) : OrdS w wr' mb hb N' W' v L := by
  refine ⟨hw, h.least.same fun k hk => ?_, h.heap, h.below.trans ⟨hg.os, hg.tape, hg.output, hg.size, fun k hk => hg.block k (Nat.lt_of_lt_of_le hk h.below.size) (by have := h.hi; simp; omega)⟩, h.hi⟩
  rcases hk with rfl | hk
  · exact hg.block _ h.least.lt (by simpa using h.mbhb.symm)
  · exact hg.block _ (h.least.own.lt k hk).2 (fun e => h.mbv (hk.trans e))
theorem OrdS.ext {W' : Pid → Int} (h : OrdS w wr mb hb N W v L) (hW : ∀ i, IdOK i → W' i = W i) : OrdS w wr mb hb N W' v L := ⟨h.wat.ext hW, h.least, h.heap, h.below, h.hi⟩
theorem OrdS.push (h : OrdS w wr mb hb N W v L) (ok : ∀ P ∈ L, PmOK P) (hl : L.length ≤ 900) (P : PM) (hP : PmOK P) :
    Calls Tryz.prog 118 #[.iface 167 (.pointer (some ⟨hb, 0, none⟩)), .iface 149 (pmV P)] wr fun e w' => e = .returned (.tuple #[]) ∧ ∃ v' L', L'.Perm (L ++ [P]) ∧ OrdS w w' mb hb N W v' L' ∧ LStep wr w' hb v v' := by
  refine (hpush118_any h.least h.heap ok hl P hP).mono ?_
  rintro e w' ⟨rfl, v', L', k1, k2, k3, k4⟩
  exact ⟨rfl, v', L', k1, h.step k4 k3 k2, k4⟩
theorem OrdS.pop (h : OrdS w wr mb hb N W v L) (ok : ∀ P ∈ L, PmOK P) (hl : L.length ≤ 900) (h0 : 0 < L.length) :
    Calls Tryz.prog 120 #[.iface 167 (.pointer (some ⟨hb, 0, none⟩))] wr fun e w' => ∃ P v' L', e = .returned (.iface 149 (pmV P)) ∧ (P :: L').Perm L ∧ (∀ Q ∈ L, pkey P.id ≤ pkey Q.id) ∧ OrdS w w' mb hb N W v' L' ∧ LStep wr w' hb v v' := by
  refine (hpop120_any h.least h.heap ok hl h0).mono ?_
  rintro e w' ⟨P, v', L', rfl, k1, k2, k3, k4, k5⟩
  exact ⟨P, v', L', rfl, k1, k2, h.step k5 k4 k3, k5⟩
theorem OrdS.box {b : Nat} {P : PM} (h : OrdS w wr mb hb N W v L) (hB : BoxAt wr b P) : b ≠ hb ∧ b ≠ mb := by
  refine ⟨fun e => ?_, fun e => ?_⟩
  · unfold BoxAt at hB
    rw [e, h.least.blk] at hB
    cases hB
  · obtain ⟨es, c, hm⟩ := h.wat.map
    unfold BoxAt at hB
    rw [e, hm] at hB
    cases hB
theorem OrdS.boxStep {b : Nat} {P : PM} (h : OrdS w wr mb hb N W v L) (hs : LStep wr wr' hb v v') (hB : BoxAt wr b P) (hv : v.ownBlock ≠ some b) : BoxAt wr' b P ∧ v'.ownBlock ≠ some b := by
  refine ⟨(hs.keep b hB.lt (h.box hB).1 hv).trans hB, fun e => ?_⟩
  rcases hs.own b e with q | q
  · exact hv q
  · have := hB.lt
    omega
theorem OrdS.boxPut {b : Nat} {P : PM} (h : OrdS w wr mb hb N W v L) (hg : wr.grownBy wr' (some mb)) (hB : BoxAt wr b P) : BoxAt wr' b P := (hg.block b hB.lt (by simpa using (h.box hB).2)).trans hB
/-- The list that is told, apart from the heap. -/
structure OutAt (wr : World) (B : Nat) (v ov : Value) (O : List PM) : Prop where
  own : wr.ownsRow B 149 5 ov O.length (pmCells O)
  far : ∀ k, ov.ownBlock = some k → v.ownBlock ≠ some k
theorem OutAt.to {B : Nat} {ov : Value} {O : List PM} (h : OutAt wr B v ov O) (hb' : Below wr.heap.size wr wr') : OutAt wr' B v ov O := ⟨own_below h.own hb' (Nat.le_refl _), h.far⟩
theorem OutAt.step {B : Nat} {ov : Value} {O : List PM} (h : OutAt wr B v ov O) (ho : OrdS w wr mb hb N W v L) (hs : LStep wr wr' hb v v') : OutAt wr' B v' ov O := by
  refine ⟨⟨h.own.1, ?_⟩, fun k hk e => ?_⟩
  · rcases h.own.2 with q | ⟨g, cap, cur, rfl, hbb, hgg, rest⟩
    · exact .inl q
    · refine .inr ⟨g, cap, cur, rfl, hbb, (hs.keep g (Array.getElem?_eq_some_iff.1 hgg).1 (fun e => ?_) (h.far g rfl)).trans hgg, rest⟩
      rw [e, ho.least.blk] at hgg
      cases hgg
  · rcases hs.own k e with q | q
    · exact h.far k hk q
    · have := (h.own.lt k hk).2
      omega
theorem OutAt.put {B : Nat} {ov : Value} {O : List PM} (h : OutAt wr B v ov O) (ho : OrdS w wr mb hb N W v L) (hg : wr.grownBy wr' (some mb)) : OutAt wr' B v ov O := by
  refine ⟨⟨h.own.1, ?_⟩, h.far⟩
  rcases h.own.2 with q | ⟨g, cap, cur, rfl, hbb, hgg, rest⟩
  · exact .inl q
  · refine .inr ⟨g, cap, cur, rfl, hbb, (hg.block g (Array.getElem?_eq_some_iff.1 hgg).1 (fun e => ?_)).trans hgg, rest⟩
    injection e with e
    obtain ⟨es, c, hm⟩ := ho.wat.map
    rw [e, hm] at hgg
    cases hgg
/-- The list grows: the heap, the map and the boxes lie apart. -/
theorem OrdS.grow {ov : Value} {O : List PM} (h : OrdS w wr mb hb N W v L) (ho : OutAt wr w.heap.size v ov O) (hg : wr.grownBy wr' ov.ownBlock) : OrdS w wr' mb hb N W v L := by
  have own_ne : ∀ k, ov.ownBlock = some k → w.heap.size ≤ k ∧ k ≠ hb ∧ k ≠ mb := fun k hk => by
    obtain ⟨A, fz, hq⟩ := own_TB ho.own hk
    refine ⟨(ho.own.lt k hk).1, fun e => ?_, fun e => ?_⟩
    · rw [e, h.least.blk] at hq
      cases hq
    · obtain ⟨es, c, hm⟩ := h.wat.map
      rw [e, hm] at hq
      cases hq
  refine ⟨h.wat.same (hg.block mb h.wat.lt (fun e => (own_ne mb e.symm).2.2 rfl)), h.least.same fun k hk => ?_, h.heap, h.below.trans ⟨hg.os, hg.tape, hg.output, hg.size, fun k hk => hg.block k (Nat.lt_of_lt_of_le hk h.below.size) (fun e => by have := (own_ne k e.symm).1; omega)⟩, h.hi⟩
  rcases hk with rfl | hk
  · exact hg.block _ h.least.lt (fun e => (own_ne _ e.symm).2.1 rfl)
  · exact hg.block _ (h.least.own.lt k hk).2 (fun e => ho.far k e.symm hk)
end
/-- A patch's block as it is made. -/
theorem box_new (w : World) (P : PM) {a : Option Addr} {n c : Nat} (h : P.cv = .slice a n c) {w' : World} (hw : w' = w.alloc (.cells #[.int .u8 P.id.a, .int .u8 P.id.b, .int .u8 P.id.c, .int .u8 P.id.d, .slice a n c] 149)) : BoxAt w' w.heap.size P ∧ Below w.heap.size w w' := by
  subst hw
  refine ⟨?_, (Below.refl _ _).alloc (Nat.le_refl _) _⟩
  unfold BoxAt
  rw [h]
  exact (MapKept.heap_alloc w _).1
theorem BoxAt.cells {w : World} {b : Nat} {P : PM} {a : Option Addr} {n c : Nat} (h : BoxAt w b P) (hc : P.cv = .slice a n c) : w.cell? ⟨b, 0, none⟩ = some (.int .u8 P.id.a) ∧ w.cell? ⟨b, 1, none⟩ = some (.int .u8 P.id.b) ∧ w.cell? ⟨b, 2, none⟩ = some (.int .u8 P.id.c) ∧ w.cell? ⟨b, 3, none⟩ = some (.int .u8 P.id.d) ∧ w.cell? ⟨b, 4, none⟩ = some (.slice a n c) := by
  unfold BoxAt at h
  rw [hc] at h
  exact cells5_of h
end Go.Proofs.YtgdfipmdmgkidaaGreatDoor
