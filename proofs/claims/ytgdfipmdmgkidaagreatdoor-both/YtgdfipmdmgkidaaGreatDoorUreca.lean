/- The contract of record of all names, with what is left alone. -/
import Derived.Test.YtgdfipmdmgkidaaGreatDoorUfk
import Derived.Test.YtgdfipmdmgkidaaGreatDoorPstand
import Derived.Test.YtgdfipmdmgkidaaGreatDoorPwords
import Derived.Test.YtgdfipmdmgkidaaGreatDoorUrecn
namespace Go.Proofs.YtgdfipmdmgkidaaGreatDoor
open Go.RowKit
set_option maxRecDepth 100000 in
set_option maxHeartbeats 12800000 in
theorem record72_all (B pb rg : Nat) (cap : Cfg) (gb : Nat) (pv : Value) (Ps : List PM) (fb fn : Nat) (f : ByteArray → Option ByteArray) (G : List Pid) (st : Nat → Nat → ByteArray → PL) (cnt : Nat → Nat) (i : Pid) (na : Option Addr) (nc : Nat) (w : World)
    (h : OneAt w B pb rg cap gb pv Ps fb fn f G) (hs : Stands Ps st cnt) (hB : B ≤ w.heap.size) (hPs : Ps.length ≤ 40) (hfn : fn ≤ 1000) (hi : IdOK i) (hiG : i ∉ G) (hG : G.length < 40) (hok : RecOK f (st Ps.length 0))
    (hne : ∀ K, AllOf f (st Ps.length 0) K → chgOf f (st Ps.length 0) K ≠ [])
    (htl : ∀ K Cs m, AllOf f (st Ps.length 0) K → MadeAll (st Ps.length 0) i (chgOf f (st Ps.length 0) K) Cs m → ∃ t : Nat → ByteArray, (∀ k c, Cs[k]? = some c → TellsP c.2 c.1 (st Ps.length 0 c.1) (t k)) ∧ ∀ k, (t k).size ≤ 1000000) :
    Calls Tryz.prog 72 #[.pointer (some ⟨pb, 0, none⟩), .pointer (some ⟨rg, cap.r * 2, none⟩), .agg #[.int .u8 i.a, .int .u8 i.b, .int .u8 i.c, .int .u8 i.d], .slice na 0 nc] w fun e w' =>
      ∃ K Cs m t pv' cv, e = .returned (.tuple #[.string ⟨(toldTo t Cs.length).toArray⟩, .int .i64 0]) ∧ AllOf f (st Ps.length 0) K ∧ MadeAll (st Ps.length 0) i (chgOf f (st Ps.length 0) K) Cs m ∧ (∀ k c, Cs[k]? = some c → TellsP c.2 c.1 (st Ps.length 0 c.1) (t k)) ∧ OneAt w' B pb rg cap gb pv' (Ps ++ [⟨i, cv, Cs⟩]) fb fn f (G ++ [i]) ∧ Below B w w' ∧ HeldT (fun t => t = 9 ∨ t = 53) w w' := by
  obtain ⟨i0, hi0, hz0, hz1, hz2⟩ := info_parts Tryz.info149
  obtain ⟨s, hse⟩ : ∃ s, st Ps.length 0 = s := ⟨_, rfl⟩
  obtain ⟨w1, hw1⟩ : ∃ w1, w1 = w.alloc (.cells #[.int .u8 i.a, .int .u8 i.b, .int .u8 i.c, .int .u8 i.d] 113) := ⟨_, rfl⟩
  have hb1 : Below w.heap.size w w1 := by rw [hw1]; exact (Below.refl _ _).alloc (Nat.le_refl _) _
  have hk1 : w1.heap[w.heap.size]? = some (.cells #[.int .u8 i.a, .int .u8 i.b, .int .u8 i.c, .int .u8 i.d] 113 (0, 0)) := by rw [hw1]; exact (MapKept.heap_alloc w _).1
  have hs1 : w.heap.size < w1.heap.size := by rw [hw1]; simp
  have h1 := h.below hb1
  have HQ : ∀ q, pv.ownBlock = some q → q < w.heap.size := fun q hq => (h.own.lt q hq).2
  have HK : Hid (Calls Tryz.prog 77 #[.pointer (some ⟨rg, cap.r * 2, none⟩)] w1 fun e w' => ∃ mb n, e = .returned (.agg #[.map (some mb)]) ∧ TreeAt w' mb s n ∧ n ≤ 100000 ∧ w1.heap.size ≤ mb ∧ Below w1.heap.size w1 w') := by
    have := kept_any hs h1.view (by omega) h1.r0 h1.lts.2.1
    rw [hse] at this
    exact this
  rw [hse] at hok hne htl
  have HH := hid h1
  have HK1 := hid hk1
  have HB1 := hid hb1
  have HSE := hid hse
  have HOK := hid hok
  have HNE := hid hne
  have HTL := hid htl
  clear h h1 hk1 hb1 hs hse hok hne htl
  go_enter Tryz.func72, Tryz.ntmps72
  go_wp2_with fail
  rw [← hw1]
  clear hw1
  refine HK.out.mono ?_
  rintro e w2 ⟨mb, n, rfl, hT2, hn, hmb, hb2⟩
  clear HK
  obtain ⟨w3, hw3⟩ : ∃ w3, w3 = w2.alloc (.cells #[.map (some mb)] 121) := ⟨_, rfl⟩
  have hb23 : Below w2.heap.size w2 w3 := by rw [hw3]; exact (Below.refl _ _).alloc (Nat.le_refl _) _
  have hb13 : Below w1.heap.size w1 w3 := hb2.trans (hb23.mono hb2.size)
  have hk3 : w3.heap[w2.heap.size]? = some (.cells #[.map (some mb)] 121 (0, 0)) := by rw [hw3]; exact (MapKept.heap_alloc w2 _).1
  have hs3 : w2.heap.size < w3.heap.size := by rw [hw3]; simp
  have h3 := HH.out.below hb13
  have hgb1 : gb < w1.heap.size := HH.out.given.lt
  have hrg1 : rg < w1.heap.size := HH.out.lts.2.1
  have hpb1 : pb < w1.heap.size := HH.out.lts.1
  have HQ1 := hid HQ
  have hT3 := hT2.below hb23 (Nat.le_refl _)
  have HM : Hid (Calls Tryz.prog 125 #[.pointer (some ⟨pb, 0, none⟩), .pointer (some ⟨rg, cap.r * 2, none⟩), .agg #[.map (some mb)], .agg #[.int .u8 i.a, .int .u8 i.b, .int .u8 i.c, .int .u8 i.d], .slice na 0 nc] w3 fun e w' => e = .returned (.int .i64 0) ∧ Below w3.heap.size w3 w') := by
    refine (may97_any G gb pb f fb fn rg (cap.r * 2) s mb n i na 0 nc [] w3 h3.given hi h3.c1 h3.lts.1 h3.files h3.r1 h3.lts.2.1 hT3 hn (.inl rfl) rfl (by simp) (by simp)).mono ?_
    rintro e w' ⟨c, rfl, hR, hb⟩
    rcases hR with ⟨hh, _⟩ | ⟨_, hh, _⟩ | ⟨_, _, ⟨x, hx, _⟩, _⟩ | ⟨_, _, _, rfl⟩
    · exact absurd hh hiG
    · omega
    · cases hx
    · exact ⟨rfl, hb⟩
  have m0 : w3.cell? ⟨w2.heap.size, 0, none⟩ = some (.map (some mb)) := by simp [World.cell?, hk3]
  obtain ⟨q0, q1, q2, q3⟩ := cells4_at ((hb2.block _ hs1).trans HK1.out)
  have hs12 := hb2.size
  obtain ⟨qa0, qa1, qa2, qa3⟩ := cells4_at ((hb13.block _ hs1).trans HK1.out)
  rw [hw3] at qa0 qa1 qa2 qa3
  clear q0 q1 q2 q3
  have HK3 := hid hk3
  have HT3 := hid hT3
  have HH3 := hid h3
  have HB13 := hid hb13
  have hs13 := hb13.size
  clear hT2 hT3 h3 hk3 hb23 hb2 hb13 HH
  go_wp2_with fail
  rw [← hw3]
  clear hw3
  refine HM.out.mono ?_
  rintro e w4 ⟨rfl, hb4⟩
  clear HM
  have hk4 := (hb4.block _ hs3).trans HK3.out
  have m4 : w4.cell? ⟨w2.heap.size, 0, none⟩ = some (.map (some mb)) := by simp [World.cell?, hk4]
  have hs4 := hb4.size
  have HH4 := hid (HH3.out.below hb4)
  have HT4 : Hid (TreeAt w4 mb s n) := HT3.out.below hb4 (Nat.le_refl _)
  have HA := hid (HH4.out.allNames hfn HT4.out hn)
  clear qa0 qa1 qa2 qa3 m0
  go_wp2_with fail
  refine HA.out.mono ?_
  rintro e w5 ⟨va, vn, vc, L, rfl, hL5, hm5, hl5, hb5⟩
  clear HA
  have hk5 := (hb5.block _ (by omega)).trans hk4
  have m5 : w5.cell? ⟨w2.heap.size, 0, none⟩ = some (.map (some mb)) := by simp [World.cell?, hk5]
  have hs5 := hb5.size
  have HH5 := hid (HH4.out.below hb5)
  have HT5 : Hid (TreeAt w5 mb s n) := HT4.out.below hb5 (Nat.le_refl _)
  have HC := hid (HH5.out.changed HT5.out hn hfn HOK.out hL5 hm5 hl5)
  clear hL5 hm5 hl5 HH4 HT4 m4
  go_wp2_with fail
  refine HC.out.mono ?_
  rintro e w6 ⟨xa, xc, K, rfl, hF6, hK6, hb6⟩
  clear HC
  obtain ⟨c50, cok⟩ := chg_ok HOK.out hK6
  have hne6 := HNE.out K hK6
  have hnz : ((chgOf f s K).length : Int) ≠ 0 := by
    intro e
    exact hne6 (List.eq_nil_of_length_eq_zero (by omega))
  have hnb : (((chgOf f s K).length : Int) == 0) = false := by simpa using hnz
  have hk6 := (hb6.block _ (by omega)).trans hk5
  have m6 : w6.cell? ⟨w2.heap.size, 0, none⟩ = some (.map (some mb)) := by simp [World.cell?, hk6]
  have hs6 := hb6.size
  have HH6 := hid (HH5.out.below hb6)
  have HT6 : Hid (TreeAt w6 mb s n) := HT5.out.below hb6 (Nat.le_refl _)
  have HB36 : Hid (Below w3.heap.size w3 w6) := (hb4.trans (hb5.mono hs4)).trans (hb6.mono (by omega))
  obtain ⟨q0, q1, q2, q3⟩ := cells4_at ((HB36.out.block _ (by omega)).trans ((HB13.out.block _ hs1).trans HK1.out))
  have HMK : Hid (Calls Tryz.prog 110 #[.agg #[.int .u8 i.a, .int .u8 i.b, .int .u8 i.c, .int .u8 i.d], .agg #[.map (some mb)], .slice xa (chgOf f s K).length xc] w6 fun e w' => ∃ ca cn cc Cs m, e = .returned (.agg #[.int .u8 i.a, .int .u8 i.b, .int .u8 i.c, .int .u8 i.d, .slice ca cn cc]) ∧ CV w' (.slice ca cn cc) Cs ∧ MadeAll s i (chgOf f s K) Cs m ∧ Below w6.heap.size w6 w') := by
    refine (make87_any i mb n s (chgOf f s K) _ w6 HT6.out hn hF6 c50 cok).mono ?_
    rintro e w' ⟨cv, Cs, m, rfl, g1, g2, g3⟩
    obtain ⟨ca, cc, rfl, g4⟩ := g1
    exact ⟨ca, _, cc, Cs, m, rfl, ⟨ca, cc, rfl, g4⟩, g2, g3⟩
  have HK6 := hid hK6
  obtain ⟨cl, hcl⟩ : ∃ cl, (chgOf f s K).length = cl := ⟨_, rfl⟩
  rw [hcl] at hnz hnb HMK c50 ⊢
  have HCL := hid hcl
  clear hF6 hK6 cok hne6 HH5 HT5 m5 hcl
  go_wp2_with fail
  refine HMK.out.mono ?_
  rintro e w7 ⟨ca, cn, cc, Cs, m, rfl, hcv7, hma7, hb7⟩
  clear HMK
  dsimp only
  obtain ⟨w8, hw8⟩ : ∃ w8, w8 = w7.alloc (.cells #[.int .u8 i.a, .int .u8 i.b, .int .u8 i.c, .int .u8 i.d, .slice ca cn cc] 149) := ⟨_, rfl⟩
  have hb78 : Below w7.heap.size w7 w8 := by rw [hw8]; exact (Below.refl _ _).alloc (Nat.le_refl _) _
  have hk8 : w8.heap[w7.heap.size]? = some (.cells #[.int .u8 i.a, .int .u8 i.b, .int .u8 i.c, .int .u8 i.d, .slice ca cn cc] 149 (0, 0)) := by rw [hw8]; exact (MapKept.heap_alloc w7 _).1
  have hs8 : w7.heap.size < w8.heap.size := by rw [hw8]; simp
  have hs7 := hb7.size
  have hb68 : Below w6.heap.size w6 w8 := hb7.trans (hb78.mono hs7)
  have h8 := HH6.out.below hb68
  have hi8 := (hb68.block w.heap.size (by omega)).trans ((HB36.out.block _ (by omega)).trans ((HB13.out.block _ hs1).trans HK1.out))
  have HS8 := hid (RecS.of h8.drew hi8 hk8)
  have HH8 := hid h8
  have HK8 := hid hk8
  have HI8 := hid hi8
  have HX8 : Hid (w8.heap[w2.heap.size]? = some (.cells #[.map (some mb)] 121 (0, 0))) := (hb68.block _ (by omega)).trans hk6
  have HT8 : Hid (TreeAt w8 mb s n) := HT6.out.below hb68 (Nat.le_refl _)
  have HCV8 : Hid (CV w8 (.slice ca cn cc) Cs) := hcv7.below hb78 (Nat.le_refl _)
  have HMA := hid hma7
  obtain ⟨w9, hup, hG9, hg9⟩ := h8.drew.given.put hi (by omega) hiG
  have HG9 := hid hG9
  have HGR : Hid (w8.grownBy w9 (some gb)) := ⟨hg9.os, hg9.tape, hg9.output, hg9.size, hg9.block⟩
  have HB8 : Hid (Below B w w8) := (HB1.out.mono hB).trans ((HB13.out.mono (by omega)).trans ((HB36.out.mono (by omega)).trans (hb68.mono (by omega))))
  have HB08 : Hid (Below w.heap.size w w8) := HB1.out.trans ((HB13.out.mono (by omega)).trans ((HB36.out.mono (by omega)).trans (hb68.mono (by omega))))
  unfold idV unitV at hup
  clear hcv7 hma7 hG9 hg9 h8 hi8 hk8 hb68 hb78 hk6 hk5 hk4 HH6 HT6 m6 q0 q1 q2 q3
  go_wp2_with fail
  rw [← hw8]
  clear hw8
  refine wp_region_Z (RecS pb rg (cap.r * 2) gb w.heap.size w7.heap.size i pv (.slice ca cn cc)) 6 (by kernel_rfl) ?_
  refine zt 0 (v := ?vHS80) HS8.out (fun w0 hS0 => ?hy) ?_
  case hy => obtain ⟨s1, s2, s3, s4, s5, s6, s7, s8, s9, s10, s11⟩ := hS0; go_simp; with_reducible rfl
  simp only [Act.put, List.setIfInBounds_toArray]
  refine zt 1 (v := ?vHS81) HS8.out (fun w0 hS0 => ?hy) ?_
  case hy => obtain ⟨s1, s2, s3, s4, s5, s6, s7, s8, s9, s10, s11⟩ := hS0; go_simp; with_reducible rfl
  simp only [Act.put]
  refine zt 2 (v := ?vHS82) HS8.out (fun w0 hS0 => ?hy) ?_
  case hy => obtain ⟨s1, s2, s3, s4, s5, s6, s7, s8, s9, s10, s11⟩ := hS0; go_simp; with_reducible rfl
  simp only [Act.put]
  refine zt 3 (v := ?vHS83) HS8.out (fun w0 hS0 => ?hy) ?_
  case hy => obtain ⟨s1, s2, s3, s4, s5, s6, s7, s8, s9, s10, s11⟩ := hS0; go_simp; with_reducible rfl
  simp only [Act.put]
  refine zt 4 (v := ?vHS84) HS8.out (fun w0 hS0 => ?hy) ?_
  case hy => obtain ⟨s1, s2, s3, s4, s5, s6, s7, s8, s9, s10, s11⟩ := hS0; go_simp; with_reducible rfl
  simp only [Act.put]
  refine zt 5 (v := ?vHS85) HS8.out (fun w0 hS0 => ?hy) ?_
  case hy => obtain ⟨s1, s2, s3, s4, s5, s6, s7, s8, s9, s10, s11⟩ := hS0; go_simp; with_reducible rfl
  simp only [Act.put]
  refine wpZ_one 6 _ rfl (by kernel_rfl) (fun KK hK => ?_)
  go_simp
  refine hK.out _ _ (fun h => absurd rfl h) ?_
  clear hK hup
  refine wpZ_done (by kernel_rfl) ?_ _
  have hm8 := HH8.out.given.map
  have h9 : OneAt w9 B pb rg cap gb pv Ps fb fn f (G ++ [i]) := HH8.out.map_put HGR.out hm8 (.inl rfl) HG9.out (HH8.out.files.same (HGR.out.block fb HH8.out.lts.2.2.2 (by simp; exact fun e => HH8.out.ne e.symm)))
  have held9 : Held w8 w9 := HeldT.of_map HGR.out hm8
  have HN89 : Hid (HeldT (fun t => t = 9 ∨ t = 53) w8 w9) := HeldT.of_map HGR.out hm8
  have cell9 : ∀ {k : Nat} {cs : Array Value} {t : TypeId} {fz : Nat × Nat}, w8.heap[k]? = some (.cells cs t fz) → w9.heap[k]? = some (.cells cs t fz) := fun {k cs t fz} hk => by
    refine (HGR.out.block k (Array.getElem?_eq_some_iff.1 hk).1 (fun e => ?_)).trans hk
    injection e with e
    obtain ⟨es, c, hm⟩ := hm8
    rw [e, hm] at hk
    cases hk
  have hk9 := cell9 HK8.out
  have hi9 := cell9 HI8.out
  have hx9 := cell9 HX8.out
  have hsz9 : w8.heap.size ≤ w9.heap.size := HGR.out.size
  have hmbne : mb ≠ gb := fun e => by omega
  have HT9 : Hid (TreeAt w9 mb s n) := HT8.out.held held9.rows (HGR.out.block mb HT8.out.lt (by simpa using hmbne))
  have HCV9 := hid (HCV8.out.held held9)
  have HB9 : Hid (Below B w w9) := HB8.out.trans ⟨HGR.out.os, HGR.out.tape, HGR.out.output, HGR.out.size, fun k hk => HGR.out.block k (by have := HB8.out.size; show k < w8.heap.size; omega) (by have := HH8.out.lo; simp; omega)⟩
  have HS9 := hid (RecS.of h9.drew hi9 hk9)
  have HH9 := hid h9
  have HK9 := hid hk9
  have HX9 := hid hx9
  have HSA : Hid (∀ o, RecS pb rg (cap.r * 2) gb w.heap.size w7.heap.size i pv (.slice ca cn cc) (w9.alloc o).drew) := fun o => by
    have hbo : Below w9.heap.size w9 (w9.alloc o) := (Below.refl _ _).alloc (Nat.le_refl _) _
    exact RecS.of (h9.below hbo).drew ((hbo.block _ (by omega)).trans hi9) ((hbo.block _ (by omega)).trans hk9)
  clear hm8 h9 held9 cell9 hk9 hi9 hx9 HGR HG9 HH8 HT8 HCV8 HK8 HI8 HX8 HS8
  go_wp2_with fail
  refine wp_region_Z (RecS pb rg (cap.r * 2) gb w.heap.size w7.heap.size i pv (.slice ca cn cc)) 10 (by kernel_rfl) ?_
  refine zt 0 (v := ?vHS90) HS9.out (fun w0 hS0 => ?hy) ?_
  case hy => obtain ⟨s1, s2, s3, s4, s5, s6, s7, s8, s9, s10, s11⟩ := hS0; go_simp; with_reducible rfl
  simp only [Act.put, List.setIfInBounds_toArray]
  refine zt 1 (v := ?vHS91) HS9.out (fun w0 hS0 => ?hy) ?_
  case hy => obtain ⟨s1, s2, s3, s4, s5, s6, s7, s8, s9, s10, s11⟩ := hS0; go_simp; with_reducible rfl
  simp only [Act.put]
  refine zt 2 (v := ?vHS92) HS9.out (fun w0 hS0 => ?hy) ?_
  case hy => obtain ⟨s1, s2, s3, s4, s5, s6, s7, s8, s9, s10, s11⟩ := hS0; go_simp; with_reducible rfl
  simp only [Act.put]
  refine zt 3 (v := ?vHS93) HS9.out (fun w0 hS0 => ?hy) ?_
  case hy => obtain ⟨s1, s2, s3, s4, s5, s6, s7, s8, s9, s10, s11⟩ := hS0; go_simp; with_reducible rfl
  simp only [Act.put]
  refine zt 4 (v := ?vHS94) HS9.out (fun w0 hS0 => ?hy) ?_
  case hy => obtain ⟨s1, s2, s3, s4, s5, s6, s7, s8, s9, s10, s11⟩ := hS0; go_simp; with_reducible rfl
  simp only [Act.put]
  refine zt 5 (v := ?vHS95) HS9.out (fun w0 hS0 => ?hy) ?_
  case hy => obtain ⟨s1, s2, s3, s4, s5, s6, s7, s8, s9, s10, s11⟩ := hS0; go_simp; with_reducible rfl
  simp only [Act.put]
  refine wpZ_one 6 _ rfl (by kernel_rfl) (fun KK hK => ?_)
  go_simp
  refine hK.out _ _ (fun _ => HSA.out _) ?_
  clear hK
  refine wpZ_one 7 _ rfl (by kernel_rfl) (fun KK hK => ?_)
  refine step_append_lies _ (by rfl) _ _ _ (by rfl) B 149 i0 _ 5 32 Tryz.underlying84 hi0 hz0 hz1 hz2 rfl (by omega) pv Ps.length (pmCells Ps) (by rfl) (HH9.out.own.alloc _).drew ⟨w9.heap.size, 0, none⟩ 1 1 [.int .u8 i.a, .int .u8 i.b, .int .u8 i.c, .int .u8 i.d, .slice ca cn cc] (by rfl) (by rfl) (World.news_of_block (cs := #[.int .u8 i.a, .int .u8 i.b, .int .u8 i.c, .int .u8 i.d, .slice ca cn cc]) (t := 149) (fr := (0, 0)) (heap_alloc_new w9.drew _)) (by simp [Value.oneCell']) (by omega) (by unfold maxLen; omega) (by omega) (by have := HB9.out.size; simp; omega) (w9.heap.size + 1) (by simp) ?_
  intro g cp wa hownA hgrA hatA hltA
  have hbA : Below w9.heap.size w9 (w9.alloc (.cells #[.int .u8 i.a, .int .u8 i.b, .int .u8 i.c, .int .u8 i.d, .slice ca cn cc] 149)).drew := ((Below.refl _ _).alloc (Nat.le_refl _) _).drew
  obtain ⟨P1, P2, P3⟩ := HH9.out.push (P := ⟨i, .slice ca cn cc, Cs⟩) hbA hgrA (hatA.imp id fun e => by rw [e]; simp) hownA (HCV9.out.below hbA (Nat.le_refl _))
  have hsA : w9.heap.size + 1 ≤ wa.heap.size := by have := hgrA.size; simpa using this
  have farA : ∀ k, w.heap.size ≤ k → k < w9.heap.size → wa.heap[k]? = w9.heap[k]? := fun k hk hk2 => (hgrA.block k (by simp; omega) (fun e => by have := HQ1.out k e.symm; omega)).trans (hbA.block k hk2)
  have typA : ∀ {k : Nat} {cs : Array Value} {t : TypeId} {fz : Nat × Nat}, w9.heap[k]? = some (.cells cs t fz) → t ≠ 149 → wa.heap[k]? = some (.cells cs t fz) := fun {k cs t fz} hk ht => by
    have hkl := (Array.getElem?_eq_some_iff.1 hk).1
    refine (hgrA.block k (by simp; omega) (fun e => ?_)).trans ((hbA.block k hkl).trans hk)
    obtain ⟨A, fz2, hq⟩ := own_TB HH9.out.own e.symm
    rw [hk] at hq
    simp only [Option.some.injEq, Obj.cells.injEq] at hq
    exact ht hq.2.1
  have HSW : Hid (RecS pb rg (cap.r * 2) gb w.heap.size w7.heap.size i pv (.slice ca cn cc) wa) := by
    obtain ⟨A, hA, hA0, hA1⟩ := HH9.out.row
    have e1 := typA HH9.out.wb (by decide)
    have e2 := typA hA (by decide)
    obtain ⟨t1, t2, t3, t4, t5, t6, t7, t8, t9, t10, t11⟩ := HS9.out
    have cN : ∀ o, wa.cell? ⟨w.heap.size, o, none⟩ = w9.cell? ⟨w.heap.size, o, none⟩ := fun o => cell_same (farA _ (Nat.le_refl _) (by omega)) o
    have cM : ∀ o, wa.cell? ⟨w7.heap.size, o, none⟩ = w9.cell? ⟨w7.heap.size, o, none⟩ := fun o => cell_same (farA _ (by omega) (by omega)) o
    exact ⟨by simp [World.cell?, e1], by simp [World.cell?, e2, hA0], (cN 0).trans t3, (cN 1).trans t4, (cN 2).trans t5, (cN 3).trans t6, (cM 0).trans t7, (cM 1).trans t8, (cM 2).trans t9, (cM 3).trans t10, (cM 4).trans t11⟩
  have r0 := HSW.out.r
  have z0 : wa.frozen? ⟨rg, cap.r * 2, none⟩ = false := by
    obtain ⟨A, hA, hA0, hA1⟩ := HH9.out.row
    exact free3 (typA hA (by decide)) _
  obtain ⟨wf, hwf⟩ : ∃ wf, wf = wa.setCell ⟨rg, cap.r * 2, none⟩ (.slice (some ⟨g, 0, none⟩) (Ps.length + 1) cp) := ⟨_, rfl⟩
  rw [← hwf] at P1 P2 P3
  have farF : ∀ k, w1.heap.size ≤ k → k < w9.heap.size → wf.heap[k]? = w9.heap[k]? := fun k hk hk2 => (P3 k (by simp; omega) (by omega) (fun q hq => by have := HQ1.out q hq; omega)).trans (hbA.block k hk2)
  have hkF := (farF w7.heap.size (by omega) (by omega)).trans HK9.out
  have hxF := (farF w2.heap.size (by omega) (by omega)).trans HX9.out
  obtain ⟨d0, d1, d2, d3, d4⟩ := cells5_at hkF
  have mF : wf.cell? ⟨w2.heap.size, 0, none⟩ = some (.map (some mb)) := by simp [World.cell?, hxF]
  have heldF : Held w9 wf := (HeldT.of_below hbA).trans (P2 stuff (by simp [stuff]) (by simp [stuff]))
  have HN9 : Hid (HeldT (fun t => t = 9 ∨ t = 53) w wf) := (HeldT.of_below HB08.out).trans (HN89.out.trans ((HeldT.of_below hbA).trans (P2 _ (by decide) (by decide))))
  have HTF : Hid (TreeAt wf mb s n) := HT9.out.held heldF.rows (farF mb hmb HT9.out.lt)
  have HCF := hid (HCV9.out.held heldF)
  have hszF : wa.heap.size = wf.heap.size := by rw [hwf]; simp [World.setCell]
  have HBF : Hid (Below B w wf) := by
    have h0 := HB9.out
    have h9s := h0.size
    refine h0.trans ⟨?_, ?_, ?_, by omega, fun k hk => ?_⟩
    · rw [hwf]; exact hgrA.os
    · rw [hwf]; exact hgrA.tape
    · rw [hwf]; exact hgrA.output
    · refine (P3 k (by simp; omega) (by have := HH9.out.lo; omega) (fun q hq => ?_)).trans (hbA.block k (by omega))
      have := (HH9.out.own.lt q hq).1
      omega
  have HH1 := hid P1
  obtain ⟨t, ht1, ht2⟩ := HTL.out K Cs m HK6.out HMA.out
  have HTE := hid ht1
  have hCl : Cs.length ≤ 50 := by rw [HMA.out.len, HCL.out]; exact c50
  have HTO : Hid (Calls Tryz.prog 113 #[.agg #[.int .u8 i.a, .int .u8 i.b, .int .u8 i.c, .int .u8 i.d, .slice ca cn cc], .agg #[.map (some mb)]] wf fun e w' => e = .returned (.string ⟨(toldTo t Cs.length).toArray⟩) ∧ Below wf.heap.size wf w') := by
    refine told_any i HCF.out HTF.out (by omega) (by omega) (fun c hc => ?_) t ht1 ht2
    obtain ⟨k, hk⟩ := List.mem_iff_getElem?.1 hc
    have hkl : k < (chgOf f s K).length := by rw [← HMA.out.len]; exact (List.getElem?_eq_some_iff.1 hk).1
    have hf := List.getElem?_eq_getElem hkl
    rw [(HMA.out.at_ k _ c hf hk).1]
    exact ((chg_ok HOK.out HK6.out).2 _ (List.getElem_mem hkl)).name
  obtain ⟨T, hTe⟩ : ∃ T, (⟨(toldTo t Cs.length).toArray⟩ : ByteArray) = T := ⟨_, rfl⟩
  rw [hTe] at HTO
  have HTT := hid hTe
  refine hK.out _ _ (fun _ => HSW.out) ?_
  clear hK P1 P2 P3 hownA hgrA hatA hltA farA typA heldF HT9 HCV9 HK9 HX9 HH9 HSA hkF hxF ht1 ht2 hTe hbA
  simp only [Act.put, List.setIfInBounds_toArray]
  refine wpZ_one 8 _ rfl (by kernel_rfl) (fun KK hK => ?_)
  go_simp
  refine hK.out _ _ (fun _ => HSW.out) ?_
  clear hK
  refine wpZ_one 9 _ rfl (by kernel_rfl) (fun KK hK => ?_)
  go_simp
  refine hK.out _ _ (fun _ => HSW.out) ?_
  clear hK
  refine wpZ_one 10 _ rfl (by kernel_rfl) (fun KK hK => ?_)
  go_simp
  rw [← hwf]
  refine hK.out _ _ (fun h => absurd rfl h) ?_
  clear hK hwf HSW r0 z0
  refine wpZ_done (by kernel_rfl) ?_ _
  go_wp2_with fail
  refine HTO.out.mono ?_
  rintro e wz ⟨rfl, hbz⟩
  clear HTO
  have HNZ : Hid (HeldT (fun t => t = 9 ∨ t = 53) w wz) := HN9.out.trans (HeldT.of_below hbz)
  have HBZ : Hid (Below B w wz) := HBF.out.trans (hbz.mono (by have := HBF.out.size; omega))
  have HHZ := hid (HH1.out.below hbz)
  go_wp2
  go_ret2
  rw [HSE.out]
  exact ⟨K, Cs, m, t, _, .slice ca cn cc, by rw [HTT.out]; rfl, HK6.out, HMA.out, HTE.out, HHZ.out, HBZ.out, HNZ.out⟩
end Go.Proofs.YtgdfipmdmgkidaaGreatDoor

/- Mathematics: the texts of the statements of one repository. -/
namespace Go.Proofs.YtgdfipmdmgkidaaGreatDoor
open Go.RowKit
def eightLines : List ByteArray := fiveLines ++ [⟨#[120, 10]⟩, ⟨#[121, 10]⟩, ⟨#[122, 10]⟩]
abbrev nlB : ByteArray := ⟨#[10]⟩
theorem eight_facts : ∀ l ∈ eightLines, 1 ≤ l.size ∧ l.size ≤ 13 ∧ gb l (l.size - 1) = 10 ∧ ((List.range (l.size - 1)).all fun i => decide (gb l i ≠ 10)) = true ∧ decide (12 < lineRunes l) = false ∧ decide (12 < lineRunes (l.extract 0 (l.size - 1))) = false ∧ l.extract 0 (l.size - 1) ++ nlB = l := by decide +kernel
theorem eight_line {l : ByteArray} (h : l ∈ eightLines) : LineB l := by
  obtain ⟨h1, _, h2, h3, _⟩ := eight_facts l h
  refine ⟨h1, h2, fun i hi => ?_⟩
  have := List.all_eq_true.1 h3 i (List.mem_range.2 (by omega))
  simpa using this
theorem eight_size {l : ByteArray} (h : l ∈ eightLines) : l.size ≤ 13 := (eight_facts l h).2.1
structure OpenL (m : ByteArray) : Prop where
  mem : m ++ nlB ∈ eightLines
  pos : 1 ≤ m.size
  no : ∀ i, i < m.size → gb m i ≠ 10
  runes : decide (12 < lineRunes m) = false
theorem OpenL.size {m : ByteArray} (h : OpenL m) : m.size ≤ 12 := by
  have := eight_size h.mem
  rw [ByteArray.size_append] at this
  have e : nlB.size = 1 := rfl
  omega
theorem OpenL.last {m : ByteArray} (h : OpenL m) : gb m (m.size - 1) ≠ 10 := h.no _ (by have := h.pos; omega)
structure LinesT (t : ByteArray) (C : List ByteArray) : Prop where
  cut : cutAll t = C
  cat : catB C = t
  len : C.length ≤ 16
  parts : (∀ l ∈ C, l ∈ eightLines) ∨ ∃ A m, C = A ++ [m] ∧ (∀ l ∈ A, l ∈ eightLines) ∧ OpenL m
def TX (t : ByteArray) : Prop := t.size ≤ 240 ∧ ∃ C, LinesT t C
theorem LinesT.each {t : ByteArray} {C : List ByteArray} (h : LinesT t C) : ∀ l ∈ C, l.size ≤ 13 ∧ decide (12 < lineRunes l) = false := fun l hl => by
  rcases h.parts with h8 | ⟨A, m, rfl, hA, hm⟩
  · obtain ⟨_, h2, _, _, h5, _⟩ := eight_facts l (h8 l hl)
    exact ⟨h2, h5⟩
  · rcases List.mem_append.1 hl with hl | hl
    · obtain ⟨_, h2, _, _, h5, _⟩ := eight_facts l (hA l hl)
      exact ⟨h2, h5⟩
    · rw [List.mem_singleton] at hl
      subst hl
      exact ⟨by have := hm.size; omega, hm.runes⟩
theorem TX.ok {t : ByteArray} (h : TX t) : linesOk t = true := by
  obtain ⟨hs, C, hC⟩ := h
  have h1 : anyLong (cutAll t) = false := by
    rw [hC.cut]
    unfold anyLong
    rw [List.any_eq_false]
    intro l hl
    rw [(hC.each l hl).2]
    simp
  unfold linesOk
  rw [h1, hC.cut]
  have := hC.len
  simp
  omega
theorem TX.lines {t : ByteArray} (h : TX t) : (cutAll t).length ≤ 16 ∧ (∀ l ∈ cutAll t, l.size ≤ 1000) ∧ catB (cutAll t) = t := by
  obtain ⟨hs, C, hC⟩ := h
  rw [hC.cut]
  exact ⟨hC.len, fun l hl => by have := (hC.each l hl).1; omega, hC.cat⟩
theorem joined_lines (L : List ByteArray) (op : Bool) (hL : ∀ l ∈ L, l ∈ eightLines) (h16 : L.length ≤ 16) : ∃ C, LinesT (joinedB L op) C := by
  have hLB : ∀ l ∈ L, LineB l := fun l hl => eight_line (hL l hl)
  have hplain : ∃ C, LinesT (catB L) C := ⟨L, cut_lines L hLB, rfl, h16, .inl hL⟩
  unfold joinedB
  rw [joinTo_all]
  split
  · rename_i hop
    have hne : L ≠ [] := by
      rintro rfl
      simp [catB, ByteArray.size] at hop
    obtain ⟨A, l, rfl⟩ : ∃ A l, L = A ++ [l] := ⟨_, _, (List.dropLast_concat_getLast hne).symm⟩
    have hA : ∀ x ∈ A, x ∈ eightLines := fun x hx => hL x (by simp [hx])
    have hAB : ∀ x ∈ A, LineB x := fun x hx => eight_line (hA x hx)
    have hl5 := hL l (by simp)
    have hls : 1 ≤ l.size := (eight_line hl5).1
    have hcut : (catB (A ++ [l])).extract 0 ((catB (A ++ [l])).size - 1) = catB A ++ l.extract 0 (l.size - 1) := by
      rw [catB_app, catB_one, ByteArray.size_append]
      have h1 : (catB A).size + l.size - 1 ≤ (catB A ++ l).size := by rw [ByteArray.size_append]; omega
      refine ext_gb (by rw [size_ex _ _ _ h1, ByteArray.size_append, size_ex _ _ _ (by omega)]; omega) fun i hi => ?_
      rw [size_ex _ _ _ h1] at hi
      rw [gb_ex _ _ _ _ h1 hi, Nat.zero_add]
      by_cases hlt : i < (catB A).size
      · rw [gb_left hlt, gb_left hlt]
      · obtain ⟨j, rfl⟩ : ∃ j, i = (catB A).size + j := ⟨i - (catB A).size, by omega⟩
        rw [gb_right, gb_right, gb_ex _ _ _ _ (by omega) (by omega), Nat.zero_add]
    rw [hcut]
    have ht : ∀ i, i < (l.extract 0 (l.size - 1)).size → gb (l.extract 0 (l.size - 1)) i ≠ 10 := fun i hi => by
      rw [size_ex _ _ _ (by omega)] at hi
      rw [gb_ex _ _ _ _ (by omega) hi, Nat.zero_add]
      exact (eight_line hl5).2.2 i (by omega)
    have hc := cut_cat A _ hAB ht
    have hAl : A.length + 1 ≤ 16 := by simpa using h16
    by_cases h0 : (l.extract 0 (l.size - 1)).size = 0
    · rw [if_pos h0] at hc
      refine ⟨A, hc, ?_, by omega, .inl hA⟩
      refine ext_gb (by rw [ByteArray.size_append, h0]; rfl) fun i hi => by rw [gb_left hi]
    · rw [if_neg h0] at hc
      obtain ⟨_, _, _, _, _, h6, h7⟩ := eight_facts l hl5
      exact ⟨A ++ [l.extract 0 (l.size - 1)], hc, by rw [catB_app, catB_one], by simpa using hAl, .inr ⟨A, _, rfl, hA, ⟨by rw [h7]; exact hl5, by omega, ht, h6⟩⟩⟩
  · exact hplain
theorem TX.joined {L : List ByteArray} {op : Bool} (hL : ∀ l ∈ L, l ∈ eightLines) (h16 : L.length ≤ 16) (hs : (joinedB L op).size ≤ 240) : TX (joinedB L op) := ⟨hs, joined_lines L op hL h16⟩
theorem TX.cat {L : List ByteArray} (hL : ∀ l ∈ L, l ∈ eightLines) (h16 : L.length ≤ 16) (hs : (catB L).size ≤ 240) : TX (catB L) := ⟨hs, L, cut_lines L (fun l hl => eight_line (hL l hl)), rfl, h16, .inl hL⟩
abbrev nmB : ByteArray := ⟨#[98]⟩
abbrev nmG : ByteArray := ⟨#[206, 179, 207, 137]⟩
def names3 : List ByteArray := [nmA, nmB, nmG]
theorem names3_ok : ∀ x ∈ names3, nameB x = true ∧ x.size ≤ 4 := by decide +kernel
theorem names3_srt : Srt names3 := by
  unfold Srt names3
  simp only [List.pairwise_cons, List.mem_cons, List.not_mem_nil, or_false]
  refine ⟨?_, ?_, ?_, List.Pairwise.nil⟩
  · rintro b (rfl | rfl) <;> decide
  · rintro b rfl; decide
  · rintro b hb; cases hb
end Go.Proofs.YtgdfipmdmgkidaaGreatDoor

/- Mathematics: a repository's files and what is kept, as the statement's scripts make them. -/
namespace Go.Proofs.YtgdfipmdmgkidaaGreatDoor
open Go.RowKit
theorem Stands.pre {A C : List PM} {st : Nat → Nat → ByteArray → PL} {cnt : Nat → Nat} (h : Stands (A ++ C) st cnt) : Stands A st cnt := by
  have up : ∀ {p : Nat} {P : PM}, A[p]? = some P → (A ++ C)[p]? = some P := fun {p P} hp => by
    rw [List.getElem?_append_left (List.getElem?_eq_some_iff.1 hp).1]
    exact hp
  exact ⟨h.start, fun p P hP => h.next p P (up hP), fun p P k c hP hc => h.other p P k c (up hP) hc, fun p P k c hP hc => h.app p P k c (up hP) hc, fun P hP => h.names P (List.mem_append.2 (.inl hP)), fun P hP => h.few P (List.mem_append.2 (.inl hP)), fun p P hP => h.count p P (up hP), h.small⟩
theorem Stands.det {Ps : List PM} {st st' : Nat → Nat → ByteArray → PL} {cnt cnt' : Nat → Nat} (h : Stands Ps st cnt) (h' : Stands Ps st' cnt') : ∀ p, p ≤ Ps.length → st' p 0 = st p 0
  | 0, _ => by rw [h.start, h'.start]
  | p + 1, hp => by
    have hP : Ps[p]? = some Ps[p] := List.getElem?_eq_getElem (by omega)
    rw [h.next p _ hP, h'.next p _ hP]
    have : ∀ k, k ≤ Ps[p].Cs.length → st' p k = st p k := by
      intro k
      induction k with
      | zero => intro _; exact Stands.det h h' p (by omega)
      | succ k ih =>
        intro hk
        have hc : Ps[p].Cs[k]? = some Ps[p].Cs[k] := List.getElem?_eq_getElem (by omega)
        have e := ih (by omega)
        funext x
        by_cases hx : x = Ps[p].Cs[k].1
        · subst hx
          have a1 := h.app p _ k _ hP hc
          have a2 := h'.app p _ k _ hP hc
          rw [e] at a2
          exact a1.det a2
        · rw [h.other p _ k _ hP hc x hx, h'.other p _ k _ hP hc x hx, e]
    exact this _ (Nat.le_refl _)
def ToldAll (Ps : List PM) : Prop := ∀ st cnt, Stands Ps st cnt → ∀ (p : Nat) (P : PM), Ps[p]? = some P → ∀ c ∈ P.Cs, ∃ t : ByteArray, TellsP c.2 c.1 (st p 0 c.1) t ∧ t.size ≤ 1000000
structure FS (Ps : List PM) (f : ByteArray → Option ByteArray) (s : ByteArray → PL) : Prop where
  rep : RepoG Ps s
  fnm : ∀ x t, f x = some t → x ∈ names3 ∧ TX t
  snm : ∀ x, (s x).alive = true → x ∈ names3 ∧ TX (rowText (s x).S)
  pnm : ∀ P ∈ Ps, ∀ c ∈ P.Cs, c.1 ∈ names3
section
variable {Ps : List PM} {f : ByteArray → Option ByteArray} {s : ByteArray → PL}
theorem FS.good (h : FS Ps f s) : GoodT Ps s ∧ Ps.length ≤ 40 := by
  obtain ⟨_, _, _, _, _, h1, h2, _⟩ := h.rep
  exact ⟨h1, h2⟩
theorem FS.sizes (h : FS Ps f s) (x : ByteArray) : (s x).S.length ≤ 800 ∧ (rowLines (s x).S).length ≤ 20 ∧ (rowText (s x).S).size ≤ 20000 ∧ ∀ l ∈ rowLines (s x).S, l.size ≤ 1000 := by
  obtain ⟨hg, hl⟩ := h.good
  have h1 := hg.len x
  have h2 := hg.lines x
  have h3 := cat_size _ 1000 (hg.lsz x)
  have h4 : (rowLines (s x).S).length * 1000 ≤ 20 * 1000 := Nat.mul_le_mul_right _ h2
  refine ⟨by omega, h2, ?_, hg.lsz x⟩
  show (catB (rowLines (s x).S)).size ≤ 20000
  omega
theorem FS.some_ (h : FS Ps f s) {x : ByteArray} (hx : (f x).isSome = true) : ∃ t, f x = some t ∧ x ∈ names3 ∧ TX t := by
  obtain ⟨t, ht⟩ := Option.isSome_iff_exists.1 hx
  exact ⟨t, ht, h.fnm x t ht⟩
theorem empty_cut : cutAll ⟨#[]⟩ = [] := by decide +kernel
theorem FS.fl (h : FS Ps f s) (x : ByteArray) : ((f x).getD ⟨#[]⟩).size ≤ 240 ∧ (cutAll ((f x).getD ⟨#[]⟩)).length ≤ 16 ∧ ∀ l ∈ cutAll ((f x).getD ⟨#[]⟩), l.size ≤ 1000 := by
  cases hf : f x with
  | none =>
    show ((⟨#[]⟩ : ByteArray)).size ≤ 240 ∧ (cutAll ⟨#[]⟩).length ≤ 16 ∧ ∀ l ∈ cutAll ⟨#[]⟩, l.size ≤ 1000
    rw [empty_cut]
    exact ⟨by decide, by simp, by simp⟩
  | some t =>
    have ht := (h.fnm x t hf).2
    exact ⟨ht.1, ht.lines.1, ht.lines.2.1⟩
theorem FS.name (h : FS Ps f s) {x : ByteArray} (hx : x ∈ names3) : NameOK f s x := by
  obtain ⟨h1, h2, h3, h4⟩ := h.sizes x
  obtain ⟨k1, k2, k3⟩ := h.fl x
  have hs := (names3_ok x hx).2
  refine ⟨by omega, by omega, by omega, ?_⟩
  exact { name := by show x.size ≤ 1000; omega, text := by show ((f x).getD ⟨#[]⟩).size ≤ 10000; omega, lines := by show (cutAll ((f x).getD ⟨#[]⟩)).length ≤ 20; omega, row := by show (s x).S.length ≤ 9000; omega, living := by show (rowLines (s x).S).length ≤ 900; omega }
theorem FS.mem (h : FS Ps f s) {x : ByteArray} (hx : (f x).isSome = true ∨ (s x).alive = true) : x ∈ names3 := by
  rcases hx with hx | hx
  · obtain ⟨_, _, h1, _⟩ := h.some_ hx
    exact h1
  · exact (h.snm x hx).1
def K0 (f : ByteArray → Option ByteArray) (s : ByteArray → PL) : List ByteArray := names3.filter fun x => (f x).isSome || (s x).alive
theorem FS.all (h : FS Ps f s) : AllOf f s (K0 f s) := by
  refine ⟨names3_srt.filter _, fun x => ?_⟩
  unfold K0
  rw [List.mem_filter, Bool.or_eq_true]
  exact ⟨fun a => a.2, fun a => ⟨h.mem a, a⟩⟩
theorem FS.all_eq (h : FS Ps f s) {K : List ByteArray} (hK : AllOf f s K) : K = K0 f s := Srt.ext hK.1 h.all.1 (fun x => by rw [hK.2, h.all.2])
theorem FS.recs (h : FS Ps f s) : RecOK f s := by
  refine ⟨fun x hx => h.name (h.mem hx), fun K h1 h2 => ?_⟩
  rw [h.all_eq ⟨h1, h2⟩]
  unfold K0
  exact Nat.le_trans (List.length_filter_le _ _) (by decide)
structure FsOK (f : ByteArray → Option ByteArray) (s : ByteArray → PL) (Fs : List Fl) : Prop where
  each : ∀ g ∈ Fs, g = flOf f g.name ∧ g.name ∈ names3 ∧ ((f g.name).isSome = true ∨ (s g.name).alive = true)
  nd : (Fs.map (·.name)).Nodup
  few : Fs.length ≤ 3
  diff : ∀ g ∈ Fs, differs f s g.name = true
theorem chg_fs (h : FS Ps f s) {K : List ByteArray} (hs : Srt K) (hK : ∀ x ∈ K, (f x).isSome = true ∨ (s x).alive = true) (hl : K.length ≤ 3) : FsOK f s (chgOf f s K) := by
  refine ⟨fun g hg => ?_, ?_, ?_, fun g hg => ?_⟩
  · unfold chgOf at hg
    obtain ⟨x, hx, rfl⟩ := List.mem_map.1 hg
    have := hK x (List.mem_filter.1 hx).1
    exact ⟨rfl, h.mem this, this⟩
  · unfold chgOf
    rw [List.map_map]
    have e : ((fun g : Fl => g.name) ∘ flOf f) = id := rfl
    rw [e, List.map_id]
    have := hs.filter (differs f s)
    exact this.imp (fun {a b} hab e => by subst e; exact List.lt_irrefl _ hab)
  · unfold chgOf
    rw [List.length_map]
    exact Nat.le_trans (List.length_filter_le _ _) hl
  · unfold chgOf at hg
    obtain ⟨x, hx, rfl⟩ := List.mem_map.1 hg
    exact (List.mem_filter.1 hx).2
theorem FS.chg0 (h : FS Ps f s) : FsOK f s (chgOf f s (K0 f s)) := chg_fs h h.all.1 (fun x hx => (h.all.2 x).1 hx) (by unfold K0; exact Nat.le_trans (List.length_filter_le _ _) (by decide))
theorem FS.chg1 (h : FS Ps f s) {x : ByteArray} (hx : (f x).isSome = true ∨ (s x).alive = true) : FsOK f s (chgOf f s [x]) := chg_fs h (List.pairwise_singleton _ _) (fun y hy => by rw [List.mem_singleton] at hy; subst hy; exact hx) (by simp)
theorem FsOK.good {Fs : List Fl} (hF : FsOK f s Fs) (h : FS Ps f s) : ∀ g ∈ Fs, FlGood s g := fun g hg => by
  obtain ⟨e, h1, h2⟩ := hF.each g hg
  obtain ⟨_, k2, k3⟩ := h.fl g.name
  refine ⟨?_, fun ha => ?_, ?_⟩
  · rw [e]; show (cutAll ((f g.name).getD ⟨#[]⟩)).length ≤ 20; omega
  · rw [e]
    show (f g.name).isSome = true
    exact h2.resolve_right (by rw [ha]; simp)
  · rw [e]; exact k3
theorem FsOK.apart {Fs : List Fl} (hF : FsOK f s Fs) (h : FS Ps f s) : ∀ g ∈ Fs, (s g.name).alive = true → g.there = true → rowLines (s g.name).S ≠ cutAll g.text := fun g hg ha ht e => by
  obtain ⟨e1, _, _⟩ := hF.each g hg
  have hd := hF.diff g hg
  have hs : (f g.name).isSome = true := by rw [e1] at ht; exact ht
  obtain ⟨t, e2, _, hT⟩ := h.some_ hs
  have e3 : g.text = t := by rw [e1]; show (f g.name).getD ⟨#[]⟩ = t; rw [e2]; rfl
  have e4 : rowText (s g.name).S = t := by
    unfold rowText
    rw [e, e3]
    exact hT.lines.2.2
  have : differs f s g.name = false := by
    unfold differs flOf keptFl
    simp [ha, e2, e4]
  rw [this] at hd
  cases hd
theorem FS.record (h : FS Ps f s) (hl : Ps.length < 40) {i : Pid} (hi : i ∉ Ps.map (·.id)) (hiz : i ≠ zid) {Fs : List Fl} {Cs : List (ByteArray × ChM)} {m : Nat → Int} (hF : FsOK f s Fs) (hM : MadeAll s i Fs Cs m) (cv : Value) :
    ∃ s', FS (Ps ++ [⟨i, cv, Cs⟩]) f s' ∧ (∀ g ∈ Fs, (s' g.name).alive = g.there ∧ (g.there = true → rowText (s' g.name).S = g.text)) ∧ (∀ x, (∀ g ∈ Fs, g.name ≠ x) → s' x = s x) ∧ leaveR (Ps ++ [⟨i, cv, Cs⟩]) i = (⟨#[]⟩, 0) ∧ ((Ps ++ [(⟨i, cv, Cs⟩ : PM)]).filter fun P => !decide (P.id = i)) = Ps := by
  obtain ⟨s', h1, h2, h3, h4, h5⟩ := h.rep.record hl hi hiz (hF.good h) (fun g hg => by have := (names3_ok _ (hF.each g hg).2.1).2; omega) hM hF.nd hF.few (hF.apart h) cv
  have hg2 : ∀ g ∈ Fs, (s' g.name).alive = g.there ∧ (g.there = true → rowText (s' g.name).S = g.text ∧ TX g.text) := fun g hg => by
    obtain ⟨a, b⟩ := h2 g hg
    refine ⟨a, fun ht => ?_⟩
    obtain ⟨e, _, _⟩ := hF.each g hg
    have hs : (f g.name).isSome = true := by rw [e] at ht; exact ht
    obtain ⟨t, e2, _, hT⟩ := h.some_ hs
    have e3 : g.text = t := by rw [e]; show (f g.name).getD ⟨#[]⟩ = t; rw [e2]; rfl
    refine ⟨?_, by rw [e3]; exact hT⟩
    show catB (rowLines (s' g.name).S) = g.text
    rw [b ht, e3]
    exact hT.lines.2.2
  refine ⟨s', ⟨h1, h.fnm, fun x hx => ?_, fun P hP c hc => ?_⟩, fun g hg => ⟨(hg2 g hg).1, fun ht => ((hg2 g hg).2 ht).1⟩, h3, h4, h5⟩
  · by_cases hm : ∃ g ∈ Fs, g.name = x
    · obtain ⟨g, hg, rfl⟩ := hm
      obtain ⟨a, b⟩ := hg2 g hg
      rw [a] at hx
      obtain ⟨b1, b2⟩ := b hx
      exact ⟨(hF.each g hg).2.1, by rw [b1]; exact b2⟩
    · rw [h3 x (fun g hg e => hm ⟨g, hg, e⟩)] at hx ⊢
      exact h.snm x hx
  · rcases List.mem_append.1 hP with hP | hP
    · exact h.pnm P hP c hc
    · rw [List.mem_singleton.1 hP] at hc
      obtain ⟨k, hk⟩ := List.mem_iff_getElem?.1 hc
      have hkF : k < Fs.length := by rw [← hM.len]; exact (List.getElem?_eq_some_iff.1 hk).1
      rw [(hM.at_ k _ c (List.getElem?_eq_getElem hkF) hk).1]
      exact (hF.each _ (List.getElem_mem hkF)).2.1
theorem FS.told_next (h : FS Ps f s) (hT : ToldAll Ps) {i : Pid} {Fs : List Fl} {Cs : List (ByteArray × ChM)} {m : Nat → Int} (hF : FsOK f s Fs) (hM : MadeAll s i Fs Cs m) (cv : Value) : ToldAll (Ps ++ [⟨i, cv, Cs⟩]) := by
  intro st' cnt' hS' p P hP c hc
  by_cases hp : p < Ps.length
  · rw [List.getElem?_append_left hp] at hP
    exact hT st' cnt' hS'.pre p P hP c hc
  · have e2 : p = Ps.length := by
      have := (List.getElem?_eq_some_iff.1 hP).1
      simp at this
      omega
    subst e2
    rw [List.getElem?_append_right (Nat.le_refl _), Nat.sub_self] at hP
    cases hP
    obtain ⟨st, cnt, hS, hse, _⟩ := h.rep
    have e3 := hS.det hS'.pre Ps.length (Nat.le_refl _)
    rw [hse] at e3
    rw [e3]
    obtain ⟨k, hk⟩ := List.mem_iff_getElem?.1 hc
    have hkF : k < Fs.length := by rw [← hM.len]; exact (List.getElem?_eq_some_iff.1 hk).1
    obtain ⟨e1, hcm⟩ := hM.at_ k _ c (List.getElem?_eq_getElem hkF) hk
    have hG := hF.good h _ (List.getElem_mem hkF)
    obtain ⟨s1, s2, s3, s4⟩ := h.sizes Fs[k].name
    have hnm := (names3_ok _ (hF.each _ (List.getElem_mem hkF)).2.1).2
    obtain ⟨hg, _⟩ := h.good
    obtain ⟨T, t1, t2, t3, t4⟩ := made_told (hg.cells Fs[k].name) hg.noz hcm Fs[k].name (by omega) (by omega) s2 s4 hG.lines hG.lsz
    exact ⟨T, by rw [e1]; exact t1, t3⟩
theorem FS.put (h : FS Ps f s) {x t : ByteArray} (hx : x ∈ names3) (ht : TX t) : FS Ps (fun y => if y = x then some t else f y) s := by
  refine ⟨h.rep, fun y u hu => ?_, h.snm, h.pnm⟩
  by_cases e : y = x
  · subst e
    simp only [if_true, Option.some.injEq] at hu
    subst hu
    exact ⟨hx, ht⟩
  · simp only [if_neg e] at hu
    exact h.fnm y u hu
theorem FS.gone (h : FS Ps f s) (x : ByteArray) : FS Ps (fun y => if y = x then none else f y) s := by
  refine ⟨h.rep, fun y u hu => ?_, h.snm, h.pnm⟩
  by_cases e : y = x
  · simp [e] at hu
  · simp only [if_neg e] at hu
    exact h.fnm y u hu
theorem FS.revert (h : FS Ps f s) : FS Ps (keptO s) s := by
  refine ⟨h.rep, fun y u hu => ?_, h.snm, h.pnm⟩
  unfold keptO at hu
  split at hu
  · rename_i ha
    cases hu
    exact h.snm y ha
  · cases hu
theorem FS.nil : FS [] (fun _ => none) (fun _ => pl0) := ⟨RepoG.nil, fun x t h => (by cases h), fun x h => (by cases h), (by simp)⟩
end
def ToldIs (s : ByteArray → PL) (Fs : List Fl) (T : ByteArray) : Prop := ∃ t : Nat → ByteArray, T = ⟨(toldTo t Fs.length).toArray⟩ ∧ ∀ k g, Fs[k]? = some g → TellOf (s g.name) g.there g.text g.name (t k) ∧ 0 < (t k).size
theorem ToldIs.one {s : ByteArray → PL} {g : Fl} {T : ByteArray} (h : ToldIs s [g] T) : TellOf (s g.name) g.there g.text g.name T := by
  obtain ⟨t, rfl, ht⟩ := h
  have := (ht 0 g rfl).1
  have e : (⟨(toldTo t [g].length).toArray⟩ : ByteArray) = t 0 := told1 t
  rw [e]
  exact this
theorem ToldIs.ne {s : ByteArray → PL} {Fs : List Fl} {T : ByteArray} (h : ToldIs s Fs T) (hne : Fs ≠ []) : T ≠ ⟨#[]⟩ := by
  obtain ⟨t, rfl, ht⟩ := h
  intro e
  have hl : 0 < Fs.length := List.length_pos_iff.2 hne
  have h0 := (ht 0 _ (List.getElem?_eq_getElem hl)).2
  have hle : ∀ n, 0 < n → 0 < (toldTo t n).length := fun n => by
    induction n with
    | zero => intro h; omega
    | succ n ih =>
      intro _
      show 0 < (toldTo t n ++ (t n).data.toList).length
      rw [List.length_append]
      by_cases hn : n = 0
      · subst hn
        have : (t 0).data.toList.length = (t 0).size := rfl
        omega
      · have := ih (by omega)
        omega
  have h1 := hle Fs.length hl
  have h2 : (toldTo t Fs.length).toArray = #[] := congrArg ByteArray.data e
  have h3 : (toldTo t Fs.length).toArray.size = 0 := by rw [h2]; rfl
  simp at h3
  rw [h3] at h1
  exact absurd h1 (by simp)
theorem tellsP_det {c : ChM} {name : ByteArray} {p : PL} {T T' : ByteArray} (h : TellsP c name p T) (h' : TellsP c name p T') : T = T' := by
  cases c with
  | add i l rv S => rw [h.2, h'.2]
  | remove i rv S => rw [h.2, h'.2]
  | alter i hv Hs =>
    obtain ⟨g, g0, g1, g2, _⟩ := h
    obtain ⟨k, k0, k1, k2, _⟩ := h'
    have : ∀ j, j ≤ Hs.length → g j = k j := by
      intro j
      induction j with
      | zero => intro _; rw [g0, k0]
      | succ j ih =>
        intro hj
        have hh : Hs[j]? = some Hs[j] := List.getElem?_eq_getElem (by omega)
        obtain ⟨t, q, a1, a2, _, _, _, _, _, _, a3⟩ := g1.step j _ hh
        obtain ⟨t', q', b1, b2, _, _, _, _, _, _, b3⟩ := k1.step j _ hh
        rw [a1] at b1
        cases b1
        rw [a2] at b2
        cases b2
        rw [a3, b3, ih (by omega)]
    rw [g2, k2, this _ (Nat.le_refl _)]
theorem FS.tells {Ps : List PM} {f : ByteArray → Option ByteArray} {s : ByteArray → PL} (h : FS Ps f s) {i : Pid} {Fs : List Fl} {Cs : List (ByteArray × ChM)} {m : Nat → Int} (hF : FsOK f s Fs) (hM : MadeAll s i Fs Cs m) :
    (∃ t : Nat → ByteArray, (∀ k c, Cs[k]? = some c → TellsP c.2 c.1 (s c.1) (t k)) ∧ ∀ k, (t k).size ≤ 1000000) ∧ ∀ t : Nat → ByteArray, (∀ k c, Cs[k]? = some c → TellsP c.2 c.1 (s c.1) (t k)) → ToldIs s Fs ⟨(toldTo t Cs.length).toArray⟩ := by
  obtain ⟨hg, hl⟩ := h.good
  have each : ∀ (k : Nat) (c : ByteArray × ChM), Cs[k]? = some c → ∃ g T, Fs[k]? = some g ∧ c.1 = g.name ∧ TellsP c.2 c.1 (s c.1) T ∧ TellOf (s g.name) g.there g.text g.name T ∧ T.size ≤ 1000000 ∧ 0 < T.size := fun k c hk => by
    have hkF : k < Fs.length := by rw [← hM.len]; exact (List.getElem?_eq_some_iff.1 hk).1
    have hgk := List.getElem?_eq_getElem hkF
    obtain ⟨e1, hc⟩ := hM.at_ k _ c hgk hk
    have hG := hF.good h _ (List.getElem_mem hkF)
    obtain ⟨s1, s2, s3, s4⟩ := h.sizes Fs[k].name
    have hnm := (names3_ok _ (hF.each _ (List.getElem_mem hkF)).2.1).2
    obtain ⟨T, t1, t2, t3, t4⟩ := made_told (hg.cells Fs[k].name) hg.noz hc Fs[k].name (by omega) (by omega) s2 s4 hG.lines hG.lsz
    exact ⟨_, T, hgk, e1, by rw [e1]; exact t1, t2, t3, t4⟩
  constructor
  · have : ∀ k : Nat, ∃ T : ByteArray, (∀ c, Cs[k]? = some c → TellsP c.2 c.1 (s c.1) T) ∧ T.size ≤ 1000000 := fun k => by
      cases hk : Cs[k]? with
      | none => exact ⟨⟨#[]⟩, fun c hc => (by cases hc), by decide⟩
      | some c =>
        obtain ⟨_, T, _, _, h1, _, h2, _⟩ := each k c hk
        exact ⟨T, fun c' hc' => by cases hc'; exact h1, h2⟩
    exact ⟨fun k => (this k).choose, fun k c hk => (this k).choose_spec.1 c hk, fun k => (this k).choose_spec.2⟩
  · intro t ht
    refine ⟨t, by rw [hM.len], fun k g hk => ?_⟩
    have hkC : k < Cs.length := by rw [hM.len]; exact (List.getElem?_eq_some_iff.1 hk).1
    obtain ⟨g', T, hg', e1, h1, h2, _, h4⟩ := each k _ (List.getElem?_eq_getElem hkC)
    rw [hk] at hg'
    cases hg'
    have := tellsP_det (ht k _ (List.getElem?_eq_getElem hkC)) h1
    rw [this]
    exact ⟨h2, h4⟩
end Go.Proofs.YtgdfipmdmgkidaaGreatDoor

/- Mathematics: a history in another order. -/
namespace Go.Proofs.YtgdfipmdmgkidaaGreatDoor
theorem hist_nodup {Ps : List PM} {s : ByteArray → PL} (h : Hist Ps s) : Ps.Nodup := (List.pairwise_map.1 h.nd).imp fun {a b} k e => k (by rw [e])
theorem Hist.forth {s : ByteArray → PL} {A : List PM} {P : PM} {C : List PM} : ∀ (M : List PM), Hist (A ++ M ++ P :: C) s → (∀ R ∈ M, ¬ NeedsP P R) → Hist (A ++ P :: (M ++ C)) s := by
  intro M
  induction M generalizing A with
  | nil => intro h _; simpa using h
  | cons R M ih =>
    intro h hn
    have e1 : A ++ (R :: M) ++ P :: C = (A ++ [R]) ++ M ++ P :: C := by simp
    rw [e1] at h
    have h2 := ih h (fun Q hQ => hn Q (List.mem_cons_of_mem _ hQ))
    have e2 : A ++ [R] ++ P :: (M ++ C) = A ++ R :: P :: (M ++ C) := by simp
    rw [e2] at h2
    have h3 := h2.swap (hn R List.mem_cons_self)
    simpa using h3
end Go.Proofs.YtgdfipmdmgkidaaGreatDoor
