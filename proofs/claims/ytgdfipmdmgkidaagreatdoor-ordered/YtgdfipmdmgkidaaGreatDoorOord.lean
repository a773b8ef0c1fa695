/- Order: each patch once, the least first, but behind what it needs. -/
import Derived.Test.YtgdfipmdmgkidaaGreatDoorOcnt
import Derived.Test.YtgdfipmdmgkidaaGreatDoorNneed
namespace Go.Proofs.YtgdfipmdmgkidaaGreatDoor
open Go.RowKit

theorem nodup_of_ids {Ps : List PM} (h : (Ps.map (·.id)).Nodup) : Ps.Nodup := by
  have h1 := List.pairwise_map.1 h
  exact h1.imp fun {a b} k e => k (by rw [e])
theorem few_of {L S : List PM} (hn : L.Nodup) (hs : ∀ Q ∈ L, Q ∈ S) (hl : S.length ≤ 100) : L.length ≤ 100 := Nat.le_trans (hn.length_le_of_subset hs) hl
theorem free_push {S L L' : List PM} {c : PM → Prop} {k : Nat} {Q : PM} (hS : S.Nodup) (h : ∀ R, R ∈ L ↔ R ∈ S.take k ∧ c R) (hn : L.Nodup) (hQ : S[k]? = some Q) (hc : c Q) (hp : L'.Perm (L ++ [Q])) : (∀ R, R ∈ L' ↔ R ∈ S.take (k + 1) ∧ c R) ∧ L'.Nodup := by
  refine ⟨fun R => ?_, hp.nodup_iff.2 ?_⟩
  · rw [hp.mem_iff, List.mem_append, List.mem_singleton, h R, take_succ_mem hQ]
    constructor
    · rintro (⟨a, b⟩ | rfl)
      · exact ⟨.inl a, b⟩
      · exact ⟨.inr rfl, hc⟩
    · rintro ⟨a | a, b⟩
      · exact .inl ⟨a, b⟩
      · exact .inr a
  · rw [List.nodup_append]
    refine ⟨hn, by simp, fun a ha b hb e => ?_⟩
    rw [List.mem_singleton.1 hb] at e
    rw [e] at ha
    exact nin_take hS hQ ((h Q).1 ha).1
theorem free_skip {S L : List PM} {c : PM → Prop} {k : Nat} {Q : PM} (h : ∀ R, R ∈ L ↔ R ∈ S.take k ∧ c R) (hQ : S[k]? = some Q) (hc : ¬ c Q) : ∀ R, R ∈ L ↔ R ∈ S.take (k + 1) ∧ c R := fun R => by
  rw [h R, take_succ_mem hQ]
  constructor
  · rintro ⟨a, b⟩
    exact ⟨.inl a, b⟩
  · rintro ⟨a | a, b⟩
    · exact ⟨a, b⟩
    · rw [a] at b
      exact absurd b hc
theorem pkey_inj {i j : Pid} (hi : IdOK i) (hj : IdOK j) (h : pkey i = pkey j) : i = j := by
  obtain ⟨a1, a2, a3, a4⟩ := hi
  obtain ⟨b1, b2, b3, b4⟩ := hj
  unfold pkey at h
  cases i
  cases j
  simp only [Pid.mk.injEq] at *
  omega
def lenOf : Value → Nat | .slice _ n _ => n | _ => 0

set_option maxRecDepth 100000 in
set_option maxHeartbeats 12800000 in
theorem order68_any (Ps : List PM) (pv : Value) (w : World) (hp : PV w pv Ps) (hl : Ps.length ≤ 100) (hok : ∀ P ∈ Ps, IdOK P.id) (hsm : ∀ P ∈ Ps, P.Cs.length ≤ 1000 ∧ ∀ d ∈ P.Cs, ChSmall d.2) (hnd : (Ps.map (·.id)).Nodup) (hE : Early Ps NeedsP) (O0 : List PM) (hO : O0.Perm Ps) (hL : Least Ps NeedsP O0) :
    Calls Tryz.prog 68 #[pv] w fun e w' => ∃ ov, e = .returned ov ∧ PV w' ov O0 ∧ Below w.heap.size w w' := by
  obtain ⟨i0, hi0, hz0, hz1, hz2⟩ := info_parts Tryz.info149
  have HPV := hid hp
  have HCT := hid (cnt117_any Ps pv w hp hl hok hsm hnd)
  obtain ⟨pa, pc, rfl, hcc⟩ := hp
  have HCV : Hid (∀ P ∈ Ps, CV w P.cv P.Cs) := fun P hP => by
    obtain ⟨k, hk⟩ := List.mem_iff_getElem?.1 hP
    obtain ⟨_, _, _, _, _, _, _, _, _, h⟩ := hcc k P hk
    exact h
  have HPO : Hid (∀ P ∈ Ps, PmOK P) := fun P hP => ⟨hok P hP, (HCV.out P hP).cvS⟩
  have HSM := hid hsm
  have HND := hid hnd
  have HNP := hid (nodup_of_ids hnd)
  have HEA := hid hE
  have HOP := hid hO
  have HOL := hid hL
  clear hcc hok hsm hnd hE hO hL
  obtain ⟨mb, hmb⟩ : ∃ mb, w.heap.size = mb := ⟨_, rfl⟩
  rw [hmb] at HCT
  go_enter Tryz.func68, Tryz.ntmps68
  go_wp2_with fail
  refine HCT.out.mono ?_
  rintro e w1 ⟨W, N, rfl, hN, hW, hWS, hb1⟩
  clear HCT
  obtain ⟨hb, hhb⟩ : ∃ hb, w1.heap.size = hb := ⟨_, rfl⟩
  obtain ⟨w2, hw2⟩ : ∃ w2, w2 = w1.alloc (.cells #[.slice none 0 0] 165) := ⟨_, rfl⟩
  have hb2 : Below w1.heap.size w1 w2 := by rw [hw2]; exact (Below.refl _ _).alloc (Nat.le_refl _) _
  have HS2 : Hid (OrdS w w2 mb hb N W (.slice none 0 0) []) := by
    refine ⟨hW.same (hb2.block mb hW.lt), ⟨?_, ?_, World.ownsRow_nil _ _ _ _⟩, HeapN.nil _, ?_, by omega⟩
    · have := hb1.size
      omega
    · rw [hw2, ← hhb]
      exact (MapKept.heap_alloc w1 _).1
    · rw [hmb]
      exact hb1.trans (hb2.mono (by have := hb1.size; omega))
  have HWS := hid hWS
  clear hW hWS hb1 hb2
  go_wp2_with fail
  rw [← hw2]
  clear hw2 hhb
  go_loopw [15] (fun x wr => ∃ (k : Nat) (v : Value) (L : List PM), k ≤ Ps.length ∧ x = .int .i64 k ∧ Hid (OrdS w wr mb hb N W v L) ∧ Hid (∀ Q, Q ∈ L ↔ Q ∈ Ps.take k ∧ cntN Ps NeedsP [] Q = 0) ∧ Hid L.Nodup) (fun x _ => Ps.length - (intOf x).toNat)
  case atStart => exact ⟨0, _, [], Nat.zero_le _, rfl, HS2, (fun Q => by simp), (by show List.Nodup _; simp)⟩
  case round =>
    clear HS2
    obtain ⟨k, v, L, hk, rfl, HS, HF, HLN⟩ := hrel
    by_cases hlt : k < Ps.length
    · obtain ⟨Q, hQe⟩ : ∃ Q, Ps[k] = Q := ⟨_, rfl⟩
      have hQ : Ps[k]? = some Q := by rw [List.getElem?_eq_getElem hlt, hQe]
      have HQ := hid hQ
      have hQm := List.mem_of_getElem? hQ
      obtain ⟨_, _, e1, hcc⟩ := HPV.out.below HS.out.below (Nat.le_refl _)
      cases e1
      obtain ⟨b, o, rfl, hb', d0, d1, d2, d3, d4, hcvQ⟩ := hcc k _ hQ
      obtain ⟨qa, qn, qc, hqv⟩ := (HPO.out Q hQm).cv
      rw [hqv] at d4
      obtain ⟨w4, hw4⟩ : ∃ w4, w4 = wr.alloc (.cells #[.int .u8 Q.id.a, .int .u8 Q.id.b, .int .u8 Q.id.c, .int .u8 Q.id.d, .slice qa qn qc] 149) := ⟨_, rfl⟩
      obtain ⟨hbx, hb4⟩ := box_new wr Q hqv hw4
      have HS4 := hid (HS.out.to hb4)
      have HBX := hid hbx
      have HQV := hid hqv
      have HQP := hid (HPO.out Q hQm)
      have HLO : Hid (∀ P ∈ L, PmOK P) := fun P hP => HPO.out P (List.mem_of_mem_take ((HF.out P).1 hP).1)
      have HPU := HS4.out.push HLO.out (Nat.le_trans (few_of HLN.out (fun P hP => List.mem_of_mem_take ((HF.out P).1 hP).1) hl) (by omega)) Q HQP.out
      unfold pmV at HPU
      rw [hqv] at HPU
      have HPU2 := hid HPU
      have hlk := HS4.out.wat.look HQP.out.id
      rw [HWS.out Q hQm] at hlk
      have HLK := hid hlk
      clear hcc hQe hcvQ hqv hb' HS hbx hb4 HPU hlk hQ hQm
      go_upto_region 6 with fail
      rw [← hw4]
      clear hw4 d0 d1 d2 d3 d4
      obtain ⟨q0, q1, q2, q3, q4⟩ := HBX.out.cells HQV.out
      cases hcz : cntN Ps NeedsP [] Q with
      | zero =>
        have hlk := HLK.out
        rw [hcz] at hlk
        have hlk2 : (Instr.lookup 163 (.map (some mb)) (.agg #[.int .u8 Q.id.a, .int .u8 Q.id.b, .int .u8 Q.id.c, .int .u8 Q.id.d]) false).run Tryz.prog w4 = .ok (.int .i64 0) w4 := hlk
        have HCZ := hid hcz
        clear hlk hcz
        go_wp2_with fail
        refine HPU2.out.mono ?_
        rintro e w5 ⟨rfl, v5, L5, k1, k2, k3⟩
        have HS5 := hid k2
        have HP5 := hid k1
        clear HPU2 k1 k2 k3 hlk2 q0 q1 q2 q3 q4
        go_wp2
        go_roundw
        case rel =>
          obtain ⟨f1, f2⟩ := free_push (c := fun R => cntN Ps NeedsP [] R = 0) HNP.out HF.out HLN.out HQ.out HCZ.out HP5.out
          exact ⟨k + 1, v5, L5, by omega, by go_num, HS5, f1, f2⟩
        case measure => simp [intOf]; omega
      | succ c =>
        have hlk := HLK.out
        rw [hcz] at hlk
        have hlk2 : (Instr.lookup 163 (.map (some mb)) (.agg #[.int .u8 Q.id.a, .int .u8 Q.id.b, .int .u8 Q.id.c, .int .u8 Q.id.d]) false).run Tryz.prog w4 = .ok (.int .i64 ((c : Int) + 1)) w4 := hlk
        have HCZ : Hid (¬ cntN Ps NeedsP [] Q = 0) := by show ¬ _; omega
        have hc0 : ¬ ((c : Int) + 1 = 0) := by omega
        clear hlk hcz HPU2
        go_wp2
        go_roundw
        case rel => exact ⟨k + 1, v, L, by omega, by go_num, HS4, free_skip (c := fun R => cntN Ps NeedsP [] R = 0) HF.out HQ.out HCZ.out, HLN⟩
        case measure => simp [intOf]; omega
    · have e : k = Ps.length := by omega
      subst e
      rw [List.take_length] at HF
      have HI0 := hid (OInv.start HLN.out HF.out)
      have HS0 := hid HS
      obtain ⟨w3, hw3⟩ : ∃ w3, w3 = wr := ⟨_, rfl⟩
      subst hw3
      clear HS HF HLN hlt
      go_wp2_with fail
      go_loopw [7] (fun ov wr => ∃ (O : List PM) (v : Value) (L : List PM) (N : Nat) (W : Pid → Int), Hid (OrdS w wr mb hb N W v L) ∧ Hid (OutAt wr w.heap.size v ov O) ∧ Hid (OInv Ps NeedsP O L) ∧ Hid (∀ Q ∈ Ps, W Q.id = (cntN Ps NeedsP O Q : Nat)) ∧ N ≤ 10000 + O.length * 200) (fun ov _ => Ps.length - lenOf ov)
      case atStart => exact ⟨[], v, L, N, W, HS0, ⟨World.ownsRow_nil _ _ _ _, fun k hk => by cases hk⟩, HI0, HWS, by omega⟩
      case round =>
        clear HS0 HI0 HWS hN hk
        obtain ⟨O, v, L, N, W, HS, HU, HI, HWS, hN⟩ := hrel
        obtain ⟨oa, oc, rfl⟩ := own_shape HU.out.own
        have hOl : O.length ≤ 100 := Nat.le_trans HI.out.len hl
        have hcell := HS.out.least.cell
        have hlen := HS.out.least.len
        by_cases h0 : L.length = 0
        · rw [h0] at hlen
          have HLEN := hid hlen
          have hL0 : L = [] := List.length_eq_zero_iff.1 h0
          subst hL0
          have hOP := HI.out.end_ HNP.out HEA.out
          have hOe : O = O0 := HI.out.least.same HOL.out hOP HOP.out (List.Perm.refl _) HI.out.nd (HOP.out.nodup_iff.2 HNP.out) (fun P hP Q hQ e => by
            have h1 := pkey_inj (HPO.out P hP).id (HPO.out Q hQ).id e
            obtain ⟨j, hj⟩ := List.mem_iff_getElem?.1 hP
            obtain ⟨k, hk⟩ := List.mem_iff_getElem?.1 hQ
            have h2 := id_inj HND.out hj hk h1
            subst h2
            rw [hj] at hk
            simpa using hk)
          have HOE := hid hOe
          clear hlen h0 hOP hOe
          go_wp2_with fail
          refine HLEN.out.mono ?_
          rintro e w4 ⟨rfl, hw4⟩
          have hw5 := hw4.symm
          subst hw5
          clear hw4 HLEN
          go_wp2
          go_ret
          refine ⟨_, rfl, ?_, HS.out.below⟩
          rw [← HOE.out]
          exact pm_view HU.out.own (fun P hP => (HCV.out P (HI.out.sub P hP)).below HS.out.below (Nat.le_refl _))
        · have h0' : 0 < L.length := by omega
          have g0 : (0 : Int) < (L.length : Int) := by omega
          have HLEN := hid hlen
          have HLS : Hid (∀ P ∈ L, P ∈ Ps) := fun P hP => ((HI.out.free P).1 hP).1
          have HPOP := HS.out.pop (fun P hP => HPO.out P (HLS.out P hP)) (Nat.le_trans (few_of HI.out.ndl HLS.out hl) (by omega)) h0'
          have HPOP2 := hid HPOP
          clear hlen h0 HPOP
          go_wp2_with fail
          refine HLEN.out.mono ?_
          rintro e w4 ⟨rfl, hw4⟩
          have hw5 := hw4.symm
          subst hw5
          clear hw4 HLEN
          go_wp2_with fail
          refine HPOP2.out.mono ?_
          rintro e w4 ⟨P, v4, L4, he, k1, k2, k3, k4⟩
          have hPm : P ∈ Ps := HLS.out P (k1.mem_iff.1 List.mem_cons_self)
          obtain ⟨pa, pn, pc', hpv⟩ := (HPO.out P hPm).cv
          unfold pmV at he
          rw [hpv] at he
          subst he
          obtain ⟨w5, hw5⟩ : ∃ w5, w5 = w4.alloc (.cells #[.int .u8 P.id.a, .int .u8 P.id.b, .int .u8 P.id.c, .int .u8 P.id.d, .slice pa pn pc'] 149) := ⟨_, rfl⟩
          obtain ⟨hbx, hb5⟩ := box_new w4 P hpv hw5
          obtain ⟨pb, hpb⟩ : ∃ pb, w4.heap.size = pb := ⟨_, rfl⟩
          have HU4 := HU.out.step HS.out k4
          have HS5 := hid (k3.to hb5)
          have HU5 := hid (HU4.to hb5)
          have HBX : Hid (BoxAt w5 pb P) := by rw [← hpb]; exact hbx
          have HVB : Hid (v4.ownBlock ≠ some pb) := fun e => by
            have := (k3.least.own.lt pb e).2
            omega
          have HOB : Hid (∀ q, (Value.slice oa O.length oc).ownBlock = some q → q ≠ pb) := fun q hq e => by
            have := (HU4.own.lt q hq).2
            omega
          have HMI := hid (HI.out.pop k1 k2)
          have HPV2 := hid hpv
          have HPM := hid hPm
          have HPN : Hid (P ∉ O) := ((HI.out.free P).1 (k1.mem_iff.1 List.mem_cons_self)).2.1
          have a149 := assert149
          clear HPOP2 k1 k2 k3 k4 hbx hb5 HU4 HS HU HI hpv hPm hcell g0 h0'
          go_upto_region 12 with fail
          rw [← hw5]
          clear hw5 a149
          obtain ⟨q0, q1, q2, q3, q4⟩ := HBX.out.cells HPV2.out
          have hs5 : w.heap.size ≤ w5.heap.size := HS5.out.below.size
          have HOW := hid HU5.out.own
          go_upto_region 13 with (at_builtin; refine wpList_append_lies _ rfl _ _ _ rfl w.heap.size 149 i0 _ 5 32 Tryz.underlying84 hi0 hz0 hz1 hz2 rfl (by omega) (.slice oa O.length oc) O.length (pmCells O) rfl (HOW.out.alloc _) ⟨w5.heap.size, 0, none⟩ 1 1 [.int .u8 P.id.a, .int .u8 P.id.b, .int .u8 P.id.c, .int .u8 P.id.d, .slice pa pn pc'] rfl rfl (World.news_of_block (cs := #[.int .u8 P.id.a, .int .u8 P.id.b, .int .u8 P.id.c, .int .u8 P.id.d, .slice pa pn pc']) (t := 149) (fr := (0, 0)) (heap_alloc_new w5 _)) (by simp [Value.oneCell']) (by omega) (by unfold maxLen; omega) (by omega) (by simp; omega) (w5.heap.size + 1) (by simp) ?_; intro g cp wa hownA hgrA hatA hltA)
          obtain ⟨w6, hw6⟩ : ∃ w6, w6 = w5.alloc (.cells #[.int .u8 P.id.a, .int .u8 P.id.b, .int .u8 P.id.c, .int .u8 P.id.d, .slice pa pn pc'] 149) := ⟨_, rfl⟩
          have hb6 : Below w5.heap.size w5 w6 := by rw [hw6]; exact (Below.refl _ _).alloc (Nat.le_refl _) _
          have hs6 : w6.heap.size = w5.heap.size + 1 := by rw [hw6]; simp
          rw [← hw6] at hgrA
          have hU6 := HU5.out.to hb6
          have HSA : Hid (OrdS w wa mb hb N W v4 L4) := (HS5.out.to hb6).grow hU6 hgrA
          have HUA : Hid (OutAt wa w.heap.size v4 (.slice (some ⟨g, 0, none⟩) (O.length + 1) cp) (O ++ [P])) := by
            refine ⟨?_, fun q hq e => ?_⟩
            · have e1 : (O ++ [P]).length = O.length + 1 := by simp
              have e2 : pmCells (O ++ [P]) = pmCells O ++ [.int .u8 P.id.a, .int .u8 P.id.b, .int .u8 P.id.c, .int .u8 P.id.d, .slice pa pn pc'] := by
                rw [pm_app, ← HPV2.out]
                rfl
              rw [e1, e2]
              exact hownA
            · have eg : g = q := by simpa [Value.ownBlock] using hq
              subst eg
              rcases hatA with k | k
              · exact HU5.out.far g k e
              · have := (HS5.out.least.own.lt g e).2
                omega
          have HBA : Hid (BoxAt wa pb P) := (hgrA.block pb (by have := HBX.out.lt; omega) (fun e => HOB.out pb e.symm rfl)).trans (HBX.out.below hb6 (Nat.le_refl _))
          clear hU6 hb6 hs6 hw6 hgrA hownA hatA hltA HS5 HU5 HBX HOW HOB q0 q1 q2 q3 q4 hs5
          go_wp2_with fail
          go_loopw [41] (fun x wr => ∃ (t : Nat) (v : Value) (L : List PM) (M : Nat) (V : Pid → Int), t ≤ Ps.length ∧ x = .int .i64 t ∧ M ≤ N + t ∧ Hid (OrdS w wr mb hb M V v L) ∧ Hid (OutAt wr w.heap.size v (.slice (some ⟨g, 0, none⟩) (O.length + 1) cp) (O ++ [P])) ∧ Hid (OMid Ps NeedsP O P t L) ∧ Hid (∀ j R, Ps[j]? = some R → V R.id = if j < t then ((cntN Ps NeedsP (O ++ [P]) R : Nat) : Int) else ((cntN Ps NeedsP O R : Nat) : Int)) ∧ Hid (BoxAt wr pb P) ∧ Hid (v.ownBlock ≠ some pb)) (fun x _ => Ps.length - (intOf x).toNat)
          case atStart =>
            refine ⟨0, v4, L4, N, W, Nat.zero_le _, rfl, Nat.le_refl _, HSA, HUA, HMI, fun j R hR => ?_, HBA, HVB⟩
            rw [if_neg (by omega)]
            exact HWS.out R (List.mem_of_getElem? hR)
          case round =>
            clear HSA HUA HMI HBA HVB
            obtain ⟨t, v, L, M, V, ht, rfl, hM, HS, HU, HMI, HV, HB, HVB⟩ := hrel
            by_cases htl : t < Ps.length
            · obtain ⟨Q, hQe⟩ : ∃ Q, Ps[t] = Q := ⟨_, rfl⟩
              have hQ : Ps[t]? = some Q := by rw [List.getElem?_eq_getElem htl, hQe]
              have HQ := hid hQ
              have hQm := List.mem_of_getElem? hQ
              obtain ⟨_, _, e1, hcc⟩ := HPV.out.below HS.out.below (Nat.le_refl _)
              cases e1
              obtain ⟨b, o, rfl, hb', d0, d1, d2, d3, d4, hcvQ⟩ := hcc t _ hQ
              obtain ⟨qa, qn, qc, hqv⟩ := (HPO.out Q hQm).cv
              rw [hqv] at d4
              obtain ⟨w6, hw6⟩ : ∃ w6, w6 = wr.alloc (.cells #[.int .u8 Q.id.a, .int .u8 Q.id.b, .int .u8 Q.id.c, .int .u8 Q.id.d, .slice qa qn qc] 149) := ⟨_, rfl⟩
              obtain ⟨hbx, hb6⟩ := box_new wr Q hqv hw6
              obtain ⟨qb, hqb⟩ : ∃ qb, wr.heap.size = qb := ⟨_, rfl⟩
              have HS6 := hid (HS.out.to hb6)
              have HU6 := hid (HU.out.to hb6)
              have HB6 : Hid (BoxAt w6 pb P) := HB.out.below hb6 (Nat.le_refl _)
              have HQB : Hid (BoxAt w6 qb Q) := by rw [← hqb]; exact hbx
              have HVQ : Hid (v.ownBlock ≠ some qb) := fun e => by
                have := (HS.out.least.own.lt qb e).2
                omega
              have HQV := hid hqv
              have HQP := hid (HPO.out Q hQm)
              have HQM := hid hQm
              have hb06 := HS6.out.below
              obtain ⟨hlQ, hsQ⟩ := HSM.out Q hQm
              obtain ⟨hlP, hsP⟩ := HSM.out P HPM.out
              have HNC : Hid (Calls Tryz.prog 121 #[.agg #[.int .u8 Q.id.a, .int .u8 Q.id.b, .int .u8 Q.id.c, .int .u8 Q.id.d, .slice qa qn qc], .agg #[.int .u8 P.id.a, .int .u8 P.id.b, .int .u8 P.id.c, .int .u8 P.id.d, .slice pa pn pc']] w6 fun e w' => e = .returned (.bool (needsP Q P)) ∧ Below w6.heap.size w6 w') := by
                have := needs121_any Q P w6 ((HCV.out Q hQm).below hb06 (Nat.le_refl _)) hsQ ((HCV.out P HPM.out).below hb06 (Nat.le_refl _)) hsP hlQ hlP
                unfold pmV at this
                rw [hqv, HPV2.out] at this
                exact this
              clear hcc hQe hcvQ hqv hb' HS hbx hb6 hQ hQm hlQ hsQ hlP hsP HU HB hb06
              go_upto_region 16 with fail
              rw [← hw6]
              clear hw6 d0 d1 d2 d3 d4 hqb
              obtain ⟨p0, p1, p2, p3, p4⟩ := HB6.out.cells HPV2.out
              obtain ⟨q0, q1, q2, q3, q4⟩ := HQB.out.cells HQV.out
              cases hn : needsP Q P with
              | false =>
                rw [hn] at HNC
                have HN2 : Hid (¬ NeedsP Q P) := fun hh => by
                  rw [(needs_iff Q P).2 hh] at hn
                  cases hn
                clear hn
                go_wp2_with fail
                refine HNC.out.mono ?_
                rintro e w7 ⟨rfl, hb7⟩
                have HS7 := hid (HS6.out.to hb7)
                have HU7 := hid (HU6.out.to hb7)
                have HB7 : Hid (BoxAt w7 pb P) := HB6.out.below hb7 (Nat.le_refl _)
                clear HNC HS6 HU6 HB6 hb7 p0 p1 p2 p3 p4 q0 q1 q2 q3 q4
                go_wp2
                go_roundw
                case rel =>
                  refine ⟨t + 1, v, L, M, V, by omega, by go_num, by omega, HS7, HU7, HMI.out.skip HQ.out (.inl HN2.out), fun j R hR => ?_, HB7, HVB⟩
                  rw [HV.out j R hR]
                  by_cases e : j = t
                  · subst e
                    have e2 : R = Q := by
                      have := hR.symm.trans HQ.out
                      simpa using this
                    rw [if_neg (by omega), if_pos (by omega), e2, cntN_no HN2.out]
                  · by_cases h1 : j < t
                    · rw [if_pos h1, if_pos (by omega)]
                    · rw [if_neg h1, if_neg (by omega)]
                case measure => simp [intOf]; omega
              | true =>
                rw [hn] at HNC
                have HN2 : Hid (NeedsP Q P) := (needs_iff Q P).1 hn
                clear hn
                go_wp2_with fail
                refine HNC.out.mono ?_
                rintro e w7 ⟨rfl, hb7⟩
                have HS7 := HS6.out.to hb7
                have HU7 := HU6.out.to hb7
                have HB7 := HB6.out.below hb7 (Nat.le_refl _)
                have HQB7 := HQB.out.below hb7 (Nat.le_refl _)
                obtain ⟨c, hc⟩ : ∃ c, cntN Ps NeedsP (O ++ [P]) Q = c := ⟨_, rfl⟩
                have hcy := cntN_yes HNP.out HPM.out HPN.out HN2.out
                rw [hc] at hcy
                have hcl : c ≤ 100 := by
                  rw [← hc]
                  exact Nat.le_trans (cntN_le _ _ _ _) hl
                have hVQ : V Q.id = ((c + 1 : Nat) : Int) := by rw [HV.out t Q HQ.out, if_neg (by omega), hcy]
                have hS := CntS.of (w := w7.drew) (show w7.drew.heap[qb]? = _ from HQB7) (HS7.wat.same rfl) HQP.out.id
                rw [hVQ] at hS
                obtain ⟨v0, st, w8, hr8, hg8, hw8, hst⟩ := WAt.entry (w := w7.drew) (HS7.wat.same rfl) HQP.out.id (by omega)
                have HS7d : OrdS w w7.drew mb hb M V v L := HS7.to (Below.refl _ _).drew
                have HS8 := HS7d.put hw8 hg8
                have HQB8 := HS7d.boxPut hg8 (show BoxAt w7.drew qb Q from HQB7)
                have HB8 := HS7d.boxPut hg8 (show BoxAt w7.drew pb P from HB7)
                have HU8 := (HU7.to (Below.refl _ _).drew).put HS7d hg8
                have hS8 := CntS.of HQB8 hw8 HQP.out.id
                rw [hVQ] at hS8
                obtain ⟨w9, hr9, hw9, hg9⟩ := hst w8 (c : Int) rfl
                have HS9 := hid (HS8.put hw9 hg9)
                have HQB9 := hid (HS8.boxPut hg9 HQB8)
                have HB9 := hid (HS8.boxPut hg9 HB8)
                have HU9 := hid (HU8.put HS8 hg9)
                have HC7 := hid hS
                have HC8 := hid hS8
                have hr8' : (Instr.mapEntry 163 (.map (some mb)) (.agg #[.int .u8 Q.id.a, .int .u8 Q.id.b, .int .u8 Q.id.c, .int .u8 Q.id.d])).run Tryz.prog w7.drew = .ok (.tuple #[v0, .int .i64 st]) w8 := hr8
                have hr9' : (Instr.entryStore 163 (.map (some mb)) (.int .i64 st) (.int .i64 (c : Int))).run Tryz.prog w8 = .ok () w9 := hr9
                have HCE := hid hc
                have HVV : Hid (∀ j R, Ps[j]? = some R → updW V Q.id c R.id = if j < t + 1 then ((cntN Ps NeedsP (O ++ [P]) R : Nat) : Int) else ((cntN Ps NeedsP O R : Nat) : Int)) := fun j R hR => by
                  by_cases e : j = t
                  · subst e
                    have e2 : R = Q := by
                      have := hR.symm.trans HQ.out
                      simpa using this
                    rw [if_pos (by omega), e2, updW_same, hc]
                  · rw [updW_other (fun q => e (id_inj HND.out hR HQ.out q)), HV.out j R hR]
                    by_cases h1 : j < t
                    · rw [if_pos h1, if_pos (by omega)]
                    · rw [if_neg h1, if_neg (by omega)]
                clear HNC HS6 HU6 HB6 HQB hb7 HS7 HU7 HB7 HQB7 hcy hVQ hS hr8 hg8 hw8 hst HS7d HS8 HQB8 HB8 HU8 hS8 hr9 hw9 hg9 hc p0 p1 p2 p3 p4 q0 q1 q2 q3 q4 HV
                go_wp2_with fail
                refine wp_region_Z (CntS qb mb Q.id ((c + 1 : Nat) : Int)) 7 (by kernel_rfl) ?_
                have hwr : IntKind.i64.wrap (c : Int) = (c : Int) := by simp (disch := omega) only [IntWalk.i64_in]
                refine zt 0 (v := ?a0) HC7.out (fun w0 hS0 => ?hy) ?_
                case hy => obtain ⟨s1, s2, s3, s4, s5⟩ := hS0; go_simp; with_reducible rfl
                simp only [Act.put, List.setIfInBounds_toArray]
                refine zt 1 (v := ?a1) HC7.out (fun w0 hS0 => ?hy) ?_
                case hy => obtain ⟨s1, s2, s3, s4, s5⟩ := hS0; go_simp; with_reducible rfl
                simp only [Act.put]
                refine zt 2 (v := ?a2) HC7.out (fun w0 hS0 => ?hy) ?_
                case hy => obtain ⟨s1, s2, s3, s4, s5⟩ := hS0; go_simp; with_reducible rfl
                simp only [Act.put]
                refine zt 3 (v := ?a3) HC7.out (fun w0 hS0 => ?hy) ?_
                case hy => obtain ⟨s1, s2, s3, s4, s5⟩ := hS0; go_simp; with_reducible rfl
                simp only [Act.put]
                refine zt 4 (v := ?a4) HC7.out (fun w0 hS0 => ?hy) ?_
                case hy => obtain ⟨s1, s2, s3, s4, s5⟩ := hS0; go_simp; with_reducible rfl
                simp only [Act.put]
                refine wpZ_one 5 _ rfl (by kernel_rfl) (fun KK hK => ?_)
                go_simp
                refine hK.out _ _ (fun _ => HC8.out) ?_
                clear hK
                refine zt 6 (v := ?b6) HC8.out (fun w0 hS0 => ?hy) ?_
                case hy => obtain ⟨s1, s2, s3, s4, s5⟩ := hS0; go_simp; with_reducible rfl
                simp only [Act.put, List.setIfInBounds_toArray]
                refine wpZ_one 7 _ rfl (by kernel_rfl) (fun KK hK => ?_)
                go_simp
                refine hK.out _ _ (fun h => absurd rfl h) ?_
                clear hK
                refine wpZ_done (by kernel_rfl) ?_ _
                clear hr8' hr9' HC7 HC8 hwr
                obtain ⟨q0, q1, q2, q3, q4⟩ := HQB9.out.cells HQV.out
                have hlk := HS9.out.wat.look HQP.out.id
                rw [updW_same] at hlk
                have HLK := hid hlk
                clear hlk
                cases c with
                | succ c =>
                  have hlk : (Instr.lookup 163 (.map (some mb)) (.agg #[.int .u8 Q.id.a, .int .u8 Q.id.b, .int .u8 Q.id.c, .int .u8 Q.id.d]) false).run Tryz.prog w9 = .ok (.int .i64 ((c : Int) + 1)) w9 := HLK.out
                  have hc0 : ¬ ((c : Int) + 1 = 0) := by omega
                  go_wp2
                  go_roundw
                  case rel => exact ⟨t + 1, v, L, M + 1, _, by omega, by go_num, by omega, HS9, HU9, HMI.out.skip HQ.out (.inr (by rw [HCE.out]; omega)), HVV, HB9, HVB⟩
                  case measure => simp [intOf]; omega
                | zero =>
                  have hlk : (Instr.lookup 163 (.map (some mb)) (.agg #[.int .u8 Q.id.a, .int .u8 Q.id.b, .int .u8 Q.id.c, .int .u8 Q.id.d]) false).run Tryz.prog w9 = .ok (.int .i64 0) w9 := HLK.out
                  have HLS : Hid (∀ R ∈ L, R ∈ Ps) := fun R hR => ((HMI.out.free R).1 hR).1
                  have hpu := HS9.out.push (fun R hR => HPO.out R (HLS.out R hR)) (Nat.le_trans (few_of HMI.out.ndl HLS.out hl) (by omega)) Q HQP.out
                  unfold pmV at hpu
                  rw [HQV.out] at hpu
                  have HPU : Hid (Calls Tryz.prog 118 #[.iface 167 (.pointer (some ⟨hb, 0, none⟩)), .iface 149 (.agg #[.int .u8 Q.id.a, .int .u8 Q.id.b, .int .u8 Q.id.c, .int .u8 Q.id.d, .slice qa qn qc])] w9 fun e w' => ∃ v' L', e = .returned (.tuple #[]) ∧ L'.Perm (L ++ [Q]) ∧ OrdS w w' mb hb (M + 1) (updW V Q.id (0 : Nat)) v' L' ∧ LStep w9 w' hb v v') := hpu.mono fun e w' ⟨k0, v', L', k1, k2, k3⟩ => ⟨v', L', k0, k1, k2, k3⟩
                  clear hpu
                  go_wp2_with fail
                  refine HPU.out.mono ?_
                  rintro e wb ⟨v', L', rfl, k1, k2, k3⟩
                  obtain ⟨hbb, hvb⟩ := HS9.out.boxStep k3 HB9.out HVB.out
                  have HSB := hid k2
                  have HUB := hid (HU9.out.step HS9.out k3)
                  have HBB := hid hbb
                  have HVX := hid hvb
                  have HMB := hid (HMI.out.push HNP.out HQ.out HN2.out HCE.out HMI.out.early k1)
                  clear HPU k1 k2 k3 hbb hvb hlk HLK HS9 HU9 HB9 HVB q0 q1 q2 q3 q4
                  go_wp2
                  go_roundw
                  case rel => exact ⟨t + 1, v', L', M + 1, _, by omega, by go_num, by omega, HSB, HUB, HMB, HVV, HBB, HVX⟩
                  case measure => simp [intOf]; omega
            · have e : t = Ps.length := by omega
              subst e
              have HIE := hid HMI.out.done
              have hlO := HIE.out.len
              have hlO2 : (O ++ [P]).length = O.length + 1 := by simp
              clear htl HMI
              go_wp2
              go_roundw
              case rel =>
                refine ⟨O ++ [P], v, L, M, V, HS, HU, HIE, fun Q hQ => ?_, by omega⟩
                obtain ⟨j, hj⟩ := List.mem_iff_getElem?.1 hQ
                rw [HV.out j Q hj, if_pos (List.getElem?_eq_some_iff.1 hj).1]
              case measure => simp [lenOf]; omega
end Go.Proofs.YtgdfipmdmgkidaaGreatDoor

/- A patch leaves the repository: drop, unrecord. -/
namespace Go.Proofs.YtgdfipmdmgkidaaGreatDoor
open Go.RowKit

section
variable {w : World} {B pb rg cap gb : Nat} {pv : Value} {Ps : List PM} {fb fn : Nat} {f : ByteArray → Option ByteArray} {G : List Pid}
/-- The list of patches became another one of its own patches, and was stored. -/
theorem OneAt.shrink {w1 w2 : World} (h1 : OneAt w1 B pb rg cap gb pv Ps fb fn f G) {v : Value} {Qs : List PM} (hg : w1.grownBy w2 pv.ownBlock) (hown : w2.ownsRow B 149 5 v Qs.length (pmCells Qs)) (hsub : ∀ P ∈ Qs, P ∈ Ps) :
    OneAt (w2.setCell ⟨rg, 0, none⟩ v) B pb rg cap gb v Qs fb fn f G ∧ (∀ T : TypeId → Prop, ¬ T 149 → ¬ T 87 → HeldT T w1 (w2.setCell ⟨rg, 0, none⟩ v)) ∧ ∀ k, k < w1.heap.size → k ≠ rg → (∀ q, pv.ownBlock = some q → k ≠ q) → (w2.setCell ⟨rg, 0, none⟩ v).heap[k]? = w1.heap[k]? := by
  obtain ⟨l1, l2, l3, l4⟩ := h1.lts
  obtain ⟨A, hA, hA0, hA1⟩ := h1.row
  have tb : ∀ q, pv.ownBlock = some q → TB w1 q 149 := fun q hq => own_TB h1.own hq
  have ne : ∀ {k : Nat} {o : Obj}, w1.heap[k]? = some o → (∀ cs fz, o ≠ .cells cs 149 fz) → ∀ q, pv.ownBlock = some q → k ≠ q := fun hk ho q hq e => by
    subst e
    obtain ⟨cs, fz, hq2⟩ := tb _ hq
    rw [hk] at hq2
    injection hq2 with e
    exact ho cs fz e
  have far : ∀ k, k < w1.heap.size → (∀ q, pv.ownBlock = some q → k ≠ q) → w2.heap[k]? = w1.heap[k]? := fun k hk hq => hg.block k hk (fun e => hq k e.symm rfl)
  have far2 : ∀ k, k < w1.heap.size → k ≠ rg → (∀ q, pv.ownBlock = some q → k ≠ q) → (w2.setCell ⟨rg, 0, none⟩ v).heap[k]? = w1.heap[k]? := fun k hk hr hq => (Below.heap_setCell _ _ _ _ hr).trans (far k hk hq)
  have hA2 : w2.heap[rg]? = some (.cells A 87 (0, 0)) := (far rg l2 (ne hA (fun cs fz e => by simp at e))).trans hA
  have heldT : ∀ T : TypeId → Prop, ¬ T 149 → ¬ T 87 → HeldT T w1 (w2.setCell ⟨rg, 0, none⟩ v) := fun T t1 t2 => (HeldT.of_grown hg (fun q hq => ⟨149, tb q hq, t1⟩)).trans (HeldT.set ⟨A, _, hA2⟩ t2 _)
  have held := heldT stuff (by simp [stuff]) (by simp [stuff])
  obtain ⟨es1, c1, m1⟩ := h1.given.map
  obtain ⟨es2, c2, m2⟩ := h1.files.map
  refine ⟨⟨h1.lo, (far2 pb l1 (fun e => ?_) (ne h1.wb (fun cs fz e => by simp at e))).trans h1.wb, ⟨_, heap_setCell_same w2 rg 0 A 87 _ hA2, ?_, ?_⟩, h1.given.same (far2 gb l3 (fun e => ?_) (ne m1 (fun cs fz e => by cases e))), ?_, fun Q hQ => (h1.chs Q (hsub Q hQ)).held held, h1.files.same (far2 fb l4 (fun e => ?_) (ne m2 (fun cs fz e => by cases e))), h1.ne, h1.cap1⟩, heldT, far2⟩
  · have := h1.wb
    rw [e, hA] at this
    simp at this
  · have : 0 < A.size := (Array.getElem?_eq_some_iff.1 hA0).1
    simp [this]
  · rw [Array.getElem?_setIfInBounds_ne (by omega)]
    exact hA1
  · rw [e, hA] at m1
    cases m1
  · refine hown.kept (w' := w2.setCell ⟨rg, 0, none⟩ _) (row := some rg) ⟨rfl, rfl, rfl, by simp [World.setCell], fun k _ hne => Below.heap_setCell _ _ _ _ (fun e => hne (by rw [e]))⟩ (Or.inr ?_)
    intro e
    obtain ⟨cs, fz, hq⟩ := own_TB hown e
    rw [hA2] at hq
    simp at hq
  · rw [e, hA] at m2
    cases m2

set_option maxRecDepth 100000 in
set_option maxHeartbeats 1600000 in
theorem OneAt.drop (h : OneAt w B pb rg cap gb pv Ps fb fn f G) (hB : B ≤ w.heap.size) (i : Pid) (hl : Ps.length ≤ 10000) :
    Calls Tryz.prog 127 #[.pointer (some ⟨rg, 0, none⟩), .agg #[.int .u8 i.a, .int .u8 i.b, .int .u8 i.c, .int .u8 i.d]] w fun e w' => e = .returned (.tuple #[]) ∧ ∃ pv', OneAt w' B pb rg cap gb pv' (Ps.filter fun P => !decide (P.id = i)) fb fn f G ∧ Below B w w' ∧ HeldT (fun t => t = 9 ∨ t = 53) w w' := by
  obtain ⟨w1, hw1⟩ : ∃ w1, w1 = w.alloc (.cells #[.int .u8 i.a, .int .u8 i.b, .int .u8 i.c, .int .u8 i.d] 113) := ⟨_, rfl⟩
  have hb1 : Below w.heap.size w w1 := by rw [hw1]; exact (Below.refl _ _).alloc (Nat.le_refl _) _
  have hk1 := (MapKept.heap_alloc w (.cells #[.int .u8 i.a, .int .u8 i.b, .int .u8 i.c, .int .u8 i.d] 113)).1
  rw [← hw1] at hk1
  have h1 := h.below hb1
  have HD : Hid (Calls Tryz.prog 191 #[pv, .func (.func 192) #[] #[.pointer (some ⟨w.heap.size, 0, none⟩)]] w1 fun e w' => ∃ v, e = .returned v ∧ w'.ownsRow B 149 5 v (Ps.filter fun P => !decide (P.id = i)).length (pmCells (Ps.filter fun P => !decide (P.id = i))) ∧ w1.grownBy w' pv.ownBlock) := del191_any Ps (fun P => decide (P.id = i)) 192 w.heap.size _ (fun _ _ => by kernel_rfl) pv B w1 h1.own h1.chs (by omega) hk1 (fun A fz e => by simp at e) (fun P hP u hu => drop192_any P i w.heap.size u (h1.chs P hP).cvS hu)
  have r1 := h1.r0
  have HH1 := hid h1
  have hBq : ∀ q, pv.ownBlock = some q → B ≤ q := fun q hq => (h.own.lt q hq).1
  have HBQ := hid hBq
  have hBr := h.lo.2.1
  clear hk1 h1 h hBq
  obtain ⟨pa, pn, pc, rfl⟩ : ∃ a n c, pv = .slice a n c := by
    rcases HH1.out.own.2 with ⟨rfl, _⟩ | ⟨g, cap, cur, rfl, _⟩
    · exact ⟨_, _, _, rfl⟩
    · exact ⟨_, _, _, rfl⟩
  subst hw1
  go_enter Tryz.func127, Tryz.ntmps127
  go_wp2_with fail
  refine HD.out.mono ?_
  rintro e w2 ⟨v2, rfl, ho2, hg2⟩
  clear HD r1
  obtain ⟨hO, hH, hF⟩ := HH1.out.shrink hg2 ho2 (fun P hP => (List.mem_filter.1 hP).1)
  have hne : rg < w.heap.size + 1 := by have := HH1.out.lts.2.1; simpa using this
  have hA2 : ∃ A, w2.heap[rg]? = some (.cells A 87 (0, 0)) ∧ 0 < A.size := by
    obtain ⟨A, hA, hA0, _⟩ := HH1.out.row
    refine ⟨A, (hg2.block rg HH1.out.lts.2.1 (fun e => ?_)).trans hA, (Array.getElem?_eq_some_iff.1 hA0).1⟩
    obtain ⟨cs, fz, hq⟩ := own_TB HH1.out.own e.symm
    rw [hA] at hq
    simp at hq
  obtain ⟨A, hA, hAs⟩ := hA2
  have c2 : ∃ u, w2.cell? ⟨rg, 0, none⟩ = some u := ⟨A[0], by simp [World.cell?, hA, hAs]⟩
  obtain ⟨u, c2⟩ := c2
  have fz2 : w2.frozen? ⟨rg, 0, none⟩ = false := free3 hA 0
  obtain ⟨va, vn, vc, rfl⟩ : ∃ a n c, v2 = .slice a n c := by
    rcases ho2.2 with ⟨rfl, _⟩ | ⟨g, cap, cur, rfl, _⟩
    · exact ⟨_, _, _, rfl⟩
    · exact ⟨_, _, _, rfl⟩
  have hsz : w.heap.size ≤ w2.heap.size := Nat.le_trans hb1.size hg2.size
  have hbB : Below B w (w2.setCell ⟨rg, 0, none⟩ (.slice va vn vc)) :=
    ⟨hg2.os.trans hb1.os, hg2.tape.trans hb1.tape, hg2.output.trans hb1.output, by simpa [World.setCell] using hsz, fun k hk => (hF k (by have := hb1.size; omega) (by omega) (fun q hq => by have := HBQ.out q hq; omega)).trans (hb1.block k (by omega))⟩
  have hH9 : HeldT (fun t => t = 9 ∨ t = 53) w (w2.setCell ⟨rg, 0, none⟩ (.slice va vn vc)) := (HeldT.of_below hb1).trans (hH _ (by decide) (by decide))
  have HO := hid hO
  clear hO hH hF ho2 hg2 hA hAs
  go_wp2
  refine bodyPost_end (results_none rfl _ _ _) rfl ?_
  exact ⟨rfl, _, HO.out, hbB, hH9⟩

end
end Go.Proofs.YtgdfipmdmgkidaaGreatDoor
