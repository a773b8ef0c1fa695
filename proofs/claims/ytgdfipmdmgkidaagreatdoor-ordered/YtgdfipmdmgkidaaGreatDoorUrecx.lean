/- The contract of record of one name that is clean; of a record that is refused. -/
import Derived.Test.YtgdfipmdmgkidaaGreatDoorUcar
import Derived.Test.YtgdfipmdmgkidaaGreatDoorPnew
namespace Go.Proofs.YtgdfipmdmgkidaaGreatDoor
open Go.RowKit

set_option maxRecDepth 100000 in
set_option maxHeartbeats 1600000 in
theorem record72_no (B pb rg cap gb : Nat) (pv : Value) (Ps : List PM) (fb fn : Nat) (f : ByteArray → Option ByteArray) (G : List Pid) (st : Nat → Nat → ByteArray → PL) (cnt : Nat → Nat) (i : Pid) (na : Option Addr) (nn nc : Nat) (L : List ByteArray) (w : World)
    (h : OneAt w B pb rg cap gb pv Ps fb fn f G) (hs : Stands Ps st cnt) (_hB : B ≤ w.heap.size) (hPs : Ps.length ≤ 40) (_hfn : fn ≤ 1000) (hi : IdOK i) (hv : View w na L) (hnn : nn = L.length) (hL : L.length ≤ 1000) (hx : ∀ x ∈ L, x.size ≤ 1000 ∧ (st Ps.length 0 x).S.length ≤ 1000000 ∧ (rowText (st Ps.length 0 x).S).size ≤ 1000000000) (hno : ∀ c, MayR G f (st Ps.length 0) i L c → c ≠ 0) :
    Calls Tryz.prog 72 #[.pointer (some ⟨pb, 0, none⟩), .pointer (some ⟨rg, 0, none⟩), .agg #[.int .u8 i.a, .int .u8 i.b, .int .u8 i.c, .int .u8 i.d], .slice na nn nc] w fun e w' =>
      ∃ c, e = .returned (.tuple #[.string ⟨#[]⟩, .int .i64 c]) ∧ MayR G f (st Ps.length 0) i L c ∧ Below w.heap.size w w' := by
  subst hnn
  obtain ⟨s, hse⟩ : ∃ s, st Ps.length 0 = s := ⟨_, rfl⟩
  obtain ⟨w1, hw1⟩ : ∃ w1, w1 = w.alloc (.cells #[.int .u8 i.a, .int .u8 i.b, .int .u8 i.c, .int .u8 i.d] 113) := ⟨_, rfl⟩
  have hb1 : Below w.heap.size w w1 := by rw [hw1]; exact (Below.refl _ _).alloc (Nat.le_refl _) _
  have hk1 : w1.heap[w.heap.size]? = some (.cells #[.int .u8 i.a, .int .u8 i.b, .int .u8 i.c, .int .u8 i.d] 113 (0, 0)) := by rw [hw1]; exact (MapKept.heap_alloc w _).1
  have hs1 : w.heap.size < w1.heap.size := by rw [hw1]; simp
  have h1 := h.below hb1
  have HK : Hid (Calls Tryz.prog 77 #[.pointer (some ⟨rg, 0, none⟩)] w1 fun e w' => ∃ mb n, e = .returned (.agg #[.map (some mb)]) ∧ TreeAt w' mb s n ∧ n ≤ 100000 ∧ w1.heap.size ≤ mb ∧ Below w1.heap.size w1 w') := by
    have := kept_any hs h1.view (by omega) h1.r0 h1.lts.2.1
    rw [hse] at this
    exact this
  rw [hse] at hx hno ⊢
  have HH := hid h1
  have HK1 := hid hk1
  have HB1 := hid hb1
  have HSE := hid hse
  have HNO := hid hno
  have HX := hid hx
  have HV1 := hid (hv.below hb1)
  clear h h1 hk1 hb1 hs hse hx hno hv
  go_enter Tryz.func72, Tryz.ntmps72
  go_wp2_with fail
  rw [← hw1]
  clear hw1
  refine HK.out.mono ?_
  rintro e w2 ⟨mb, n, rfl, hT2, hn, hmb, hb2⟩
  clear HK
  obtain ⟨w3, hw3⟩ : ∃ w3, w3 = w2.alloc (.cells #[.map (some mb)] 121) := ⟨_, rfl⟩
  have hb23 : Below w2.heap.size w2 w3 := by rw [hw3]; exact (Below.refl _ _).alloc (Nat.le_refl _) _
  have hb13 : Below w1.heap.size w1 w3 := hb2.trans (hb23.mono hb2.size)
  have hk3 : w3.heap[w2.heap.size]? = some (.cells #[.map (some mb)] 121 (0, 0)) := by rw [hw3]; exact (MapKept.heap_alloc w2 _).1
  have hs3 : w2.heap.size < w3.heap.size := by rw [hw3]; simp
  have h3 := HH.out.below hb13
  have hgb1 : gb < w1.heap.size := HH.out.given.lt
  have hrg1 : rg < w1.heap.size := HH.out.lts.2.1
  have hpb1 : pb < w1.heap.size := HH.out.lts.1
  have hT3 := hT2.below hb23 (Nat.le_refl _)
  have HM : Hid (Calls Tryz.prog 125 #[.pointer (some ⟨pb, 0, none⟩), .pointer (some ⟨rg, 0, none⟩), .agg #[.map (some mb)], .agg #[.int .u8 i.a, .int .u8 i.b, .int .u8 i.c, .int .u8 i.d], .slice na L.length nc] w3 fun e w' => ∃ c, e = .returned (.int .i64 c) ∧ MayR G f s i L c ∧ Below w3.heap.size w3 w') := may97_any G gb pb f fb fn rg 0 s mb n i na L.length nc L w3 h3.given hi h3.c1 h3.lts.1 h3.files h3.r1 h3.lts.2.1 hT3 hn (HV1.out.below hb13) rfl (by omega) HX.out
  have m0 : w3.cell? ⟨w2.heap.size, 0, none⟩ = some (.map (some mb)) := by simp [World.cell?, hk3]
  obtain ⟨q0, q1, q2, q3⟩ := cells4_at ((hb2.block _ hs1).trans HK1.out)
  have hs12 := hb2.size
  obtain ⟨qa0, qa1, qa2, qa3⟩ := cells4_at ((hb13.block _ hs1).trans HK1.out)
  rw [hw3] at qa0 qa1 qa2 qa3
  clear q0 q1 q2 q3
  have HK3 := hid hk3
  have HT3 := hid hT3
  have HH3 := hid h3
  have HB13 := hid hb13
  have hs13 := hb13.size
  clear hT2 hT3 h3 hk3 hb23 hb2 hb13 HH
  go_wp2_with fail
  rw [← hw3]
  clear hw3
  refine HM.out.mono ?_
  rintro e w4 ⟨c, rfl, hR, hb4⟩
  clear HM
  have hc0 := HNO.out c hR
  have hcb : (c != 0) = true := by rw [bne_iff_ne]; exact hc0
  clear hc0
  have HR := hid hR
  have HBZ : Hid (Below w.heap.size w w4) := HB1.out.trans ((HB13.out.mono (by omega)).trans (hb4.mono (by omega)))
  clear hR qa0 qa1 qa2 qa3 m0
  go_wp2
  go_ret2
  exact ⟨c, rfl, HR.out, HBZ.out⟩
end Go.Proofs.YtgdfipmdmgkidaaGreatDoor

/- The contract of record of all names, with what is left alone. -/
namespace Go.Proofs.YtgdfipmdmgkidaaGreatDoor
open Go.RowKit

set_option maxRecDepth 100000 in
set_option maxHeartbeats 12800000 in
theorem record72_all (B pb rg cap gb : Nat) (pv : Value) (Ps : List PM) (fb fn : Nat) (f : ByteArray → Option ByteArray) (G : List Pid) (st : Nat → Nat → ByteArray → PL) (cnt : Nat → Nat) (i : Pid) (na : Option Addr) (nc : Nat) (w : World)
    (h : OneAt w B pb rg cap gb pv Ps fb fn f G) (hs : Stands Ps st cnt) (hB : B ≤ w.heap.size) (hPs : Ps.length ≤ 40) (hfn : fn ≤ 1000) (hi : IdOK i) (hiG : i ∉ G) (hG : G.length < 40) (hok : RecOK f (st Ps.length 0))
    (hne : ∀ K, AllOf f (st Ps.length 0) K → chgOf f (st Ps.length 0) K ≠ [])
    (htl : ∀ K Cs m, AllOf f (st Ps.length 0) K → MadeAll (st Ps.length 0) i (chgOf f (st Ps.length 0) K) Cs m → ∃ t : Nat → ByteArray, (∀ k c, Cs[k]? = some c → TellsP c.2 c.1 (st Ps.length 0 c.1) (t k)) ∧ ∀ k, (t k).size ≤ 1000000) :
    Calls Tryz.prog 72 #[.pointer (some ⟨pb, 0, none⟩), .pointer (some ⟨rg, 0, none⟩), .agg #[.int .u8 i.a, .int .u8 i.b, .int .u8 i.c, .int .u8 i.d], .slice na 0 nc] w fun e w' =>
      ∃ K Cs m t pv' cv, e = .returned (.tuple #[.string ⟨(toldTo t Cs.length).toArray⟩, .int .i64 0]) ∧ AllOf f (st Ps.length 0) K ∧ MadeAll (st Ps.length 0) i (chgOf f (st Ps.length 0) K) Cs m ∧ (∀ k c, Cs[k]? = some c → TellsP c.2 c.1 (st Ps.length 0 c.1) (t k)) ∧ OneAt w' B pb rg cap gb pv' (Ps ++ [⟨i, cv, Cs⟩]) fb fn f (G ++ [i]) ∧ Below B w w' ∧ HeldT (fun t => t = 9 ∨ t = 53) w w' := by
  obtain ⟨i0, hi0, hz0, hz1, hz2⟩ := info_parts Tryz.info149
  obtain ⟨s, hse⟩ : ∃ s, st Ps.length 0 = s := ⟨_, rfl⟩
  obtain ⟨w1, hw1⟩ : ∃ w1, w1 = w.alloc (.cells #[.int .u8 i.a, .int .u8 i.b, .int .u8 i.c, .int .u8 i.d] 113) := ⟨_, rfl⟩
  have hb1 : Below w.heap.size w w1 := by rw [hw1]; exact (Below.refl _ _).alloc (Nat.le_refl _) _
  have hk1 : w1.heap[w.heap.size]? = some (.cells #[.int .u8 i.a, .int .u8 i.b, .int .u8 i.c, .int .u8 i.d] 113 (0, 0)) := by rw [hw1]; exact (MapKept.heap_alloc w _).1
  have hs1 : w.heap.size < w1.heap.size := by rw [hw1]; simp
  have h1 := h.below hb1
  have HQ : ∀ q, pv.ownBlock = some q → q < w.heap.size := fun q hq => (h.own.lt q hq).2
  have HK : Hid (Calls Tryz.prog 77 #[.pointer (some ⟨rg, 0, none⟩)] w1 fun e w' => ∃ mb n, e = .returned (.agg #[.map (some mb)]) ∧ TreeAt w' mb s n ∧ n ≤ 100000 ∧ w1.heap.size ≤ mb ∧ Below w1.heap.size w1 w') := by
    have := kept_any hs h1.view (by omega) h1.r0 h1.lts.2.1
    rw [hse] at this
    exact this
  rw [hse] at hok hne htl
  have HH := hid h1
  have HK1 := hid hk1
  have HB1 := hid hb1
  have HSE := hid hse
  have HOK := hid hok
  have HNE := hid hne
  have HTL := hid htl
  clear h h1 hk1 hb1 hs hse hok hne htl
  go_enter Tryz.func72, Tryz.ntmps72
  go_wp2_with fail
  rw [← hw1]
  clear hw1
  refine HK.out.mono ?_
  rintro e w2 ⟨mb, n, rfl, hT2, hn, hmb, hb2⟩
  clear HK
  obtain ⟨w3, hw3⟩ : ∃ w3, w3 = w2.alloc (.cells #[.map (some mb)] 121) := ⟨_, rfl⟩
  have hb23 : Below w2.heap.size w2 w3 := by rw [hw3]; exact (Below.refl _ _).alloc (Nat.le_refl _) _
  have hb13 : Below w1.heap.size w1 w3 := hb2.trans (hb23.mono hb2.size)
  have hk3 : w3.heap[w2.heap.size]? = some (.cells #[.map (some mb)] 121 (0, 0)) := by rw [hw3]; exact (MapKept.heap_alloc w2 _).1
  have hs3 : w2.heap.size < w3.heap.size := by rw [hw3]; simp
  have h3 := HH.out.below hb13
  have hgb1 : gb < w1.heap.size := HH.out.given.lt
  have hrg1 : rg < w1.heap.size := HH.out.lts.2.1
  have hpb1 : pb < w1.heap.size := HH.out.lts.1
  have HQ1 := hid HQ
  have hT3 := hT2.below hb23 (Nat.le_refl _)
  have HM : Hid (Calls Tryz.prog 125 #[.pointer (some ⟨pb, 0, none⟩), .pointer (some ⟨rg, 0, none⟩), .agg #[.map (some mb)], .agg #[.int .u8 i.a, .int .u8 i.b, .int .u8 i.c, .int .u8 i.d], .slice na 0 nc] w3 fun e w' => e = .returned (.int .i64 0) ∧ Below w3.heap.size w3 w') := by
    refine (may97_any G gb pb f fb fn rg 0 s mb n i na 0 nc [] w3 h3.given hi h3.c1 h3.lts.1 h3.files h3.r1 h3.lts.2.1 hT3 hn (.inl rfl) rfl (by simp) (by simp)).mono ?_
    rintro e w' ⟨c, rfl, hR, hb⟩
    rcases hR with ⟨hh, _⟩ | ⟨_, hh, _⟩ | ⟨_, _, ⟨x, hx, _⟩, _⟩ | ⟨_, _, _, rfl⟩
    · exact absurd hh hiG
    · omega
    · cases hx
    · exact ⟨rfl, hb⟩
  have m0 : w3.cell? ⟨w2.heap.size, 0, none⟩ = some (.map (some mb)) := by simp [World.cell?, hk3]
  obtain ⟨q0, q1, q2, q3⟩ := cells4_at ((hb2.block _ hs1).trans HK1.out)
  have hs12 := hb2.size
  obtain ⟨qa0, qa1, qa2, qa3⟩ := cells4_at ((hb13.block _ hs1).trans HK1.out)
  rw [hw3] at qa0 qa1 qa2 qa3
  clear q0 q1 q2 q3
  have HK3 := hid hk3
  have HT3 := hid hT3
  have HH3 := hid h3
  have HB13 := hid hb13
  have hs13 := hb13.size
  clear hT2 hT3 h3 hk3 hb23 hb2 hb13 HH
  go_wp2_with fail
  rw [← hw3]
  clear hw3
  refine HM.out.mono ?_
  rintro e w4 ⟨rfl, hb4⟩
  clear HM
  have hk4 := (hb4.block _ hs3).trans HK3.out
  have m4 : w4.cell? ⟨w2.heap.size, 0, none⟩ = some (.map (some mb)) := by simp [World.cell?, hk4]
  have hs4 := hb4.size
  have HH4 := hid (HH3.out.below hb4)
  have HT4 : Hid (TreeAt w4 mb s n) := HT3.out.below hb4 (Nat.le_refl _)
  have HA := hid (HH4.out.allNames hfn HT4.out hn)
  clear qa0 qa1 qa2 qa3 m0
  go_wp2_with fail
  refine HA.out.mono ?_
  rintro e w5 ⟨va, vn, vc, L, rfl, hL5, hm5, hl5, hb5⟩
  clear HA
  have hk5 := (hb5.block _ (by omega)).trans hk4
  have m5 : w5.cell? ⟨w2.heap.size, 0, none⟩ = some (.map (some mb)) := by simp [World.cell?, hk5]
  have hs5 := hb5.size
  have HH5 := hid (HH4.out.below hb5)
  have HT5 : Hid (TreeAt w5 mb s n) := HT4.out.below hb5 (Nat.le_refl _)
  have HC := hid (HH5.out.changed HT5.out hn hfn HOK.out hL5 hm5 hl5)
  clear hL5 hm5 hl5 HH4 HT4 m4
  go_wp2_with fail
  refine HC.out.mono ?_
  rintro e w6 ⟨xa, xc, K, rfl, hF6, hK6, hb6⟩
  clear HC
  obtain ⟨c50, cok⟩ := chg_ok HOK.out hK6
  have hne6 := HNE.out K hK6
  have hnz : ((chgOf f s K).length : Int) ≠ 0 := by
    intro e
    exact hne6 (List.eq_nil_of_length_eq_zero (by omega))
  have hnb : (((chgOf f s K).length : Int) == 0) = false := by simpa using hnz
  have hk6 := (hb6.block _ (by omega)).trans hk5
  have m6 : w6.cell? ⟨w2.heap.size, 0, none⟩ = some (.map (some mb)) := by simp [World.cell?, hk6]
  have hs6 := hb6.size
  have HH6 := hid (HH5.out.below hb6)
  have HT6 : Hid (TreeAt w6 mb s n) := HT5.out.below hb6 (Nat.le_refl _)
  have HB36 : Hid (Below w3.heap.size w3 w6) := (hb4.trans (hb5.mono hs4)).trans (hb6.mono (by omega))
  obtain ⟨q0, q1, q2, q3⟩ := cells4_at ((HB36.out.block _ (by omega)).trans ((HB13.out.block _ hs1).trans HK1.out))
  have HMK : Hid (Calls Tryz.prog 110 #[.agg #[.int .u8 i.a, .int .u8 i.b, .int .u8 i.c, .int .u8 i.d], .agg #[.map (some mb)], .slice xa (chgOf f s K).length xc] w6 fun e w' => ∃ ca cn cc Cs m, e = .returned (.agg #[.int .u8 i.a, .int .u8 i.b, .int .u8 i.c, .int .u8 i.d, .slice ca cn cc]) ∧ CV w' (.slice ca cn cc) Cs ∧ MadeAll s i (chgOf f s K) Cs m ∧ Below w6.heap.size w6 w') := by
    refine (make87_any i mb n s (chgOf f s K) _ w6 HT6.out hn hF6 c50 cok).mono ?_
    rintro e w' ⟨cv, Cs, m, rfl, g1, g2, g3⟩
    obtain ⟨ca, cc, rfl, g4⟩ := g1
    exact ⟨ca, _, cc, Cs, m, rfl, ⟨ca, cc, rfl, g4⟩, g2, g3⟩
  have HK6 := hid hK6
  obtain ⟨cl, hcl⟩ : ∃ cl, (chgOf f s K).length = cl := ⟨_, rfl⟩
  rw [hcl] at hnz hnb HMK c50 ⊢
  have HCL := hid hcl
  clear hF6 hK6 cok hne6 HH5 HT5 m5 hcl
  go_wp2_with fail
  refine HMK.out.mono ?_
  rintro e w7 ⟨ca, cn, cc, Cs, m, rfl, hcv7, hma7, hb7⟩
  clear HMK
  dsimp only
  obtain ⟨w8, hw8⟩ : ∃ w8, w8 = w7.alloc (.cells #[.int .u8 i.a, .int .u8 i.b, .int .u8 i.c, .int .u8 i.d, .slice ca cn cc] 149) := ⟨_, rfl⟩
  have hb78 : Below w7.heap.size w7 w8 := by rw [hw8]; exact (Below.refl _ _).alloc (Nat.le_refl _) _
  have hk8 : w8.heap[w7.heap.size]? = some (.cells #[.int .u8 i.a, .int .u8 i.b, .int .u8 i.c, .int .u8 i.d, .slice ca cn cc] 149 (0, 0)) := by rw [hw8]; exact (MapKept.heap_alloc w7 _).1
  have hs8 : w7.heap.size < w8.heap.size := by rw [hw8]; simp
  have hs7 := hb7.size
  have hb68 : Below w6.heap.size w6 w8 := hb7.trans (hb78.mono hs7)
  have h8 := HH6.out.below hb68
  have hi8 := (hb68.block w.heap.size (by omega)).trans ((HB36.out.block _ (by omega)).trans ((HB13.out.block _ hs1).trans HK1.out))
  have HS8 := hid (RecS.of h8.drew hi8 hk8)
  have HH8 := hid h8
  have HK8 := hid hk8
  have HI8 := hid hi8
  have HX8 : Hid (w8.heap[w2.heap.size]? = some (.cells #[.map (some mb)] 121 (0, 0))) := (hb68.block _ (by omega)).trans hk6
  have HT8 : Hid (TreeAt w8 mb s n) := HT6.out.below hb68 (Nat.le_refl _)
  have HCV8 : Hid (CV w8 (.slice ca cn cc) Cs) := hcv7.below hb78 (Nat.le_refl _)
  have HMA := hid hma7
  obtain ⟨w9, hup, hG9, hg9⟩ := h8.drew.given.put hi (by omega) hiG
  have HG9 := hid hG9
  have HGR : Hid (w8.grownBy w9 (some gb)) := ⟨hg9.os, hg9.tape, hg9.output, hg9.size, hg9.block⟩
  have HB8 : Hid (Below B w w8) := (HB1.out.mono hB).trans ((HB13.out.mono (by omega)).trans ((HB36.out.mono (by omega)).trans (hb68.mono (by omega))))
  have HB08 : Hid (Below w.heap.size w w8) := HB1.out.trans ((HB13.out.mono (by omega)).trans ((HB36.out.mono (by omega)).trans (hb68.mono (by omega))))
  unfold idV unitV at hup
  clear hcv7 hma7 hG9 hg9 h8 hi8 hk8 hb68 hb78 hk6 hk5 hk4 HH6 HT6 m6 q0 q1 q2 q3
  go_wp2_with fail
  rw [← hw8]
  clear hw8
  refine wp_region_Z (RecS pb rg gb w.heap.size w7.heap.size i pv (.slice ca cn cc)) 6 (by kernel_rfl) ?_
  refine zt 0 (v := ?vHS80) HS8.out (fun w0 hS0 => ?hy) ?_
  case hy => obtain ⟨s1, s2, s3, s4, s5, s6, s7, s8, s9, s10, s11⟩ := hS0; go_simp; with_reducible rfl
  simp only [Act.put, List.setIfInBounds_toArray]
  refine zt 1 (v := ?vHS81) HS8.out (fun w0 hS0 => ?hy) ?_
  case hy => obtain ⟨s1, s2, s3, s4, s5, s6, s7, s8, s9, s10, s11⟩ := hS0; go_simp; with_reducible rfl
  simp only [Act.put]
  refine zt 2 (v := ?vHS82) HS8.out (fun w0 hS0 => ?hy) ?_
  case hy => obtain ⟨s1, s2, s3, s4, s5, s6, s7, s8, s9, s10, s11⟩ := hS0; go_simp; with_reducible rfl
  simp only [Act.put]
  refine zt 3 (v := ?vHS83) HS8.out (fun w0 hS0 => ?hy) ?_
  case hy => obtain ⟨s1, s2, s3, s4, s5, s6, s7, s8, s9, s10, s11⟩ := hS0; go_simp; with_reducible rfl
  simp only [Act.put]
  refine zt 4 (v := ?vHS84) HS8.out (fun w0 hS0 => ?hy) ?_
  case hy => obtain ⟨s1, s2, s3, s4, s5, s6, s7, s8, s9, s10, s11⟩ := hS0; go_simp; with_reducible rfl
  simp only [Act.put]
  refine zt 5 (v := ?vHS85) HS8.out (fun w0 hS0 => ?hy) ?_
  case hy => obtain ⟨s1, s2, s3, s4, s5, s6, s7, s8, s9, s10, s11⟩ := hS0; go_simp; with_reducible rfl
  simp only [Act.put]
  refine wpZ_one 6 _ rfl (by kernel_rfl) (fun KK hK => ?_)
  go_simp
  refine hK.out _ _ (fun h => absurd rfl h) ?_
  clear hK hup
  refine wpZ_done (by kernel_rfl) ?_ _
  have hm8 := HH8.out.given.map
  have h9 : OneAt w9 B pb rg cap gb pv Ps fb fn f (G ++ [i]) := HH8.out.map_put HGR.out hm8 HG9.out (HH8.out.files.same (HGR.out.block fb HH8.out.lts.2.2.2 (by simp; exact fun e => HH8.out.ne e.symm)))
  have held9 : Held w8 w9 := HeldT.of_map HGR.out hm8
  have HN89 : Hid (HeldT (fun t => t = 9 ∨ t = 53) w8 w9) := HeldT.of_map HGR.out hm8
  have cell9 : ∀ {k : Nat} {cs : Array Value} {t : TypeId} {fz : Nat × Nat}, w8.heap[k]? = some (.cells cs t fz) → w9.heap[k]? = some (.cells cs t fz) := fun {k cs t fz} hk => by
    refine (HGR.out.block k (Array.getElem?_eq_some_iff.1 hk).1 (fun e => ?_)).trans hk
    injection e with e
    obtain ⟨es, c, hm⟩ := hm8
    rw [e, hm] at hk
    cases hk
  have hk9 := cell9 HK8.out
  have hi9 := cell9 HI8.out
  have hx9 := cell9 HX8.out
  have hsz9 : w8.heap.size ≤ w9.heap.size := HGR.out.size
  have hmbne : mb ≠ gb := fun e => by omega
  have HT9 : Hid (TreeAt w9 mb s n) := HT8.out.held held9.rows (HGR.out.block mb HT8.out.lt (by simpa using hmbne))
  have HCV9 := hid (HCV8.out.held held9)
  have HB9 : Hid (Below B w w9) := HB8.out.trans ⟨HGR.out.os, HGR.out.tape, HGR.out.output, HGR.out.size, fun k hk => HGR.out.block k (by have := HB8.out.size; show k < w8.heap.size; omega) (by have := HH8.out.lo; simp; omega)⟩
  have HS9 := hid (RecS.of h9.drew hi9 hk9)
  have HH9 := hid h9
  have HK9 := hid hk9
  have HX9 := hid hx9
  have HSA : Hid (∀ o, RecS pb rg gb w.heap.size w7.heap.size i pv (.slice ca cn cc) (w9.alloc o).drew) := fun o => by
    have hbo : Below w9.heap.size w9 (w9.alloc o) := (Below.refl _ _).alloc (Nat.le_refl _) _
    exact RecS.of (h9.below hbo).drew ((hbo.block _ (by omega)).trans hi9) ((hbo.block _ (by omega)).trans hk9)
  clear hm8 h9 held9 cell9 hk9 hi9 hx9 HGR HG9 HH8 HT8 HCV8 HK8 HI8 HX8 HS8
  go_wp2_with fail
  refine wp_region_Z (RecS pb rg gb w.heap.size w7.heap.size i pv (.slice ca cn cc)) 10 (by kernel_rfl) ?_
  refine zt 0 (v := ?vHS90) HS9.out (fun w0 hS0 => ?hy) ?_
  case hy => obtain ⟨s1, s2, s3, s4, s5, s6, s7, s8, s9, s10, s11⟩ := hS0; go_simp; with_reducible rfl
  simp only [Act.put, List.setIfInBounds_toArray]
  refine zt 1 (v := ?vHS91) HS9.out (fun w0 hS0 => ?hy) ?_
  case hy => obtain ⟨s1, s2, s3, s4, s5, s6, s7, s8, s9, s10, s11⟩ := hS0; go_simp; with_reducible rfl
  simp only [Act.put]
  refine zt 2 (v := ?vHS92) HS9.out (fun w0 hS0 => ?hy) ?_
  case hy => obtain ⟨s1, s2, s3, s4, s5, s6, s7, s8, s9, s10, s11⟩ := hS0; go_simp; with_reducible rfl
  simp only [Act.put]
  refine zt 3 (v := ?vHS93) HS9.out (fun w0 hS0 => ?hy) ?_
  case hy => obtain ⟨s1, s2, s3, s4, s5, s6, s7, s8, s9, s10, s11⟩ := hS0; go_simp; with_reducible rfl
  simp only [Act.put]
  refine zt 4 (v := ?vHS94) HS9.out (fun w0 hS0 => ?hy) ?_
  case hy => obtain ⟨s1, s2, s3, s4, s5, s6, s7, s8, s9, s10, s11⟩ := hS0; go_simp; with_reducible rfl
  simp only [Act.put]
  refine zt 5 (v := ?vHS95) HS9.out (fun w0 hS0 => ?hy) ?_
  case hy => obtain ⟨s1, s2, s3, s4, s5, s6, s7, s8, s9, s10, s11⟩ := hS0; go_simp; with_reducible rfl
  simp only [Act.put]
  refine wpZ_one 6 _ rfl (by kernel_rfl) (fun KK hK => ?_)
  go_simp
  refine hK.out _ _ (fun _ => HSA.out _) ?_
  clear hK
  refine wpZ_one 7 _ rfl (by kernel_rfl) (fun KK hK => ?_)
  refine step_append_lies _ (by rfl) _ _ _ (by rfl) B 149 i0 _ 5 32 Tryz.underlying84 hi0 hz0 hz1 hz2 rfl (by omega) pv Ps.length (pmCells Ps) (by rfl) (HH9.out.own.alloc _).drew ⟨w9.heap.size, 0, none⟩ 1 1 [.int .u8 i.a, .int .u8 i.b, .int .u8 i.c, .int .u8 i.d, .slice ca cn cc] (by rfl) (by rfl) (World.news_of_block (cs := #[.int .u8 i.a, .int .u8 i.b, .int .u8 i.c, .int .u8 i.d, .slice ca cn cc]) (t := 149) (fr := (0, 0)) (heap_alloc_new w9.drew _)) (by simp [Value.oneCell']) (by omega) (by unfold maxLen; omega) (by omega) (by have := HB9.out.size; simp; omega) (w9.heap.size + 1) (by simp) ?_
  intro g cp wa hownA hgrA hatA hltA
  have hbA : Below w9.heap.size w9 (w9.alloc (.cells #[.int .u8 i.a, .int .u8 i.b, .int .u8 i.c, .int .u8 i.d, .slice ca cn cc] 149)).drew := ((Below.refl _ _).alloc (Nat.le_refl _) _).drew
  obtain ⟨P1, P2, P3⟩ := HH9.out.push (P := ⟨i, .slice ca cn cc, Cs⟩) hbA hgrA hownA (HCV9.out.below hbA (Nat.le_refl _))
  have hsA : w9.heap.size + 1 ≤ wa.heap.size := by have := hgrA.size; simpa using this
  have farA : ∀ k, w.heap.size ≤ k → k < w9.heap.size → wa.heap[k]? = w9.heap[k]? := fun k hk hk2 => (hgrA.block k (by simp; omega) (fun e => by have := HQ1.out k e.symm; omega)).trans (hbA.block k hk2)
  have typA : ∀ {k : Nat} {cs : Array Value} {t : TypeId} {fz : Nat × Nat}, w9.heap[k]? = some (.cells cs t fz) → t ≠ 149 → wa.heap[k]? = some (.cells cs t fz) := fun {k cs t fz} hk ht => by
    have hkl := (Array.getElem?_eq_some_iff.1 hk).1
    refine (hgrA.block k (by simp; omega) (fun e => ?_)).trans ((hbA.block k hkl).trans hk)
    obtain ⟨A, fz2, hq⟩ := own_TB HH9.out.own e.symm
    rw [hk] at hq
    simp only [Option.some.injEq, Obj.cells.injEq] at hq
    exact ht hq.2.1
  have HSW : Hid (RecS pb rg gb w.heap.size w7.heap.size i pv (.slice ca cn cc) wa) := by
    obtain ⟨A, hA, hA0, hA1⟩ := HH9.out.row
    have e1 := typA HH9.out.wb (by decide)
    have e2 := typA hA (by decide)
    obtain ⟨t1, t2, t3, t4, t5, t6, t7, t8, t9, t10, t11⟩ := HS9.out
    have cN : ∀ o, wa.cell? ⟨w.heap.size, o, none⟩ = w9.cell? ⟨w.heap.size, o, none⟩ := fun o => cell_same (farA _ (Nat.le_refl _) (by omega)) o
    have cM : ∀ o, wa.cell? ⟨w7.heap.size, o, none⟩ = w9.cell? ⟨w7.heap.size, o, none⟩ := fun o => cell_same (farA _ (by omega) (by omega)) o
    exact ⟨by simp [World.cell?, e1], by simp [World.cell?, e2, hA0], (cN 0).trans t3, (cN 1).trans t4, (cN 2).trans t5, (cN 3).trans t6, (cM 0).trans t7, (cM 1).trans t8, (cM 2).trans t9, (cM 3).trans t10, (cM 4).trans t11⟩
  have r0 := HSW.out.r
  have z0 : wa.frozen? ⟨rg, 0, none⟩ = false := by
    obtain ⟨A, hA, hA0, hA1⟩ := HH9.out.row
    exact free3 (typA hA (by decide)) 0
  obtain ⟨wf, hwf⟩ : ∃ wf, wf = wa.setCell ⟨rg, 0, none⟩ (.slice (some ⟨g, 0, none⟩) (Ps.length + 1) cp) := ⟨_, rfl⟩
  rw [← hwf] at P1 P2 P3
  have farF : ∀ k, w1.heap.size ≤ k → k < w9.heap.size → wf.heap[k]? = w9.heap[k]? := fun k hk hk2 => (P3 k (by simp; omega) (by omega) (fun q hq => by have := HQ1.out q hq; omega)).trans (hbA.block k hk2)
  have hkF := (farF w7.heap.size (by omega) (by omega)).trans HK9.out
  have hxF := (farF w2.heap.size (by omega) (by omega)).trans HX9.out
  obtain ⟨d0, d1, d2, d3, d4⟩ := cells5_at hkF
  have mF : wf.cell? ⟨w2.heap.size, 0, none⟩ = some (.map (some mb)) := by simp [World.cell?, hxF]
  have heldF : Held w9 wf := (HeldT.of_below hbA).trans (P2 stuff (by simp [stuff]) (by simp [stuff]))
  have HN9 : Hid (HeldT (fun t => t = 9 ∨ t = 53) w wf) := (HeldT.of_below HB08.out).trans (HN89.out.trans ((HeldT.of_below hbA).trans (P2 _ (by decide) (by decide))))
  have HTF : Hid (TreeAt wf mb s n) := HT9.out.held heldF.rows (farF mb hmb HT9.out.lt)
  have HCF := hid (HCV9.out.held heldF)
  have hszF : wa.heap.size = wf.heap.size := by rw [hwf]; simp [World.setCell]
  have HBF : Hid (Below B w wf) := by
    have h0 := HB9.out
    have h9s := h0.size
    refine h0.trans ⟨?_, ?_, ?_, by omega, fun k hk => ?_⟩
    · rw [hwf]; exact hgrA.os
    · rw [hwf]; exact hgrA.tape
    · rw [hwf]; exact hgrA.output
    · refine (P3 k (by simp; omega) (by have := HH9.out.lo; omega) (fun q hq => ?_)).trans (hbA.block k (by omega))
      have := (HH9.out.own.lt q hq).1
      omega
  have HH1 := hid P1
  obtain ⟨t, ht1, ht2⟩ := HTL.out K Cs m HK6.out HMA.out
  have HTE := hid ht1
  have hCl : Cs.length ≤ 50 := by rw [HMA.out.len, HCL.out]; exact c50
  have HTO : Hid (Calls Tryz.prog 113 #[.agg #[.int .u8 i.a, .int .u8 i.b, .int .u8 i.c, .int .u8 i.d, .slice ca cn cc], .agg #[.map (some mb)]] wf fun e w' => e = .returned (.string ⟨(toldTo t Cs.length).toArray⟩) ∧ Below wf.heap.size wf w') := by
    refine told_any i HCF.out HTF.out (by omega) (by omega) (fun c hc => ?_) t ht1 ht2
    obtain ⟨k, hk⟩ := List.mem_iff_getElem?.1 hc
    have hkl : k < (chgOf f s K).length := by rw [← HMA.out.len]; exact (List.getElem?_eq_some_iff.1 hk).1
    have hf := List.getElem?_eq_getElem hkl
    rw [(HMA.out.at_ k _ c hf hk).1]
    exact ((chg_ok HOK.out HK6.out).2 _ (List.getElem_mem hkl)).name
  obtain ⟨T, hTe⟩ : ∃ T, (⟨(toldTo t Cs.length).toArray⟩ : ByteArray) = T := ⟨_, rfl⟩
  rw [hTe] at HTO
  have HTT := hid hTe
  refine hK.out _ _ (fun _ => HSW.out) ?_
  clear hK P1 P2 P3 hownA hgrA hatA hltA farA typA heldF HT9 HCV9 HK9 HX9 HH9 HSA hkF hxF ht1 ht2 hTe hbA
  simp only [Act.put, List.setIfInBounds_toArray]
  refine wpZ_one 8 _ rfl (by kernel_rfl) (fun KK hK => ?_)
  go_simp
  refine hK.out _ _ (fun _ => HSW.out) ?_
  clear hK
  refine wpZ_one 9 _ rfl (by kernel_rfl) (fun KK hK => ?_)
  go_simp
  refine hK.out _ _ (fun _ => HSW.out) ?_
  clear hK
  refine wpZ_one 10 _ rfl (by kernel_rfl) (fun KK hK => ?_)
  go_simp
  rw [← hwf]
  refine hK.out _ _ (fun h => absurd rfl h) ?_
  clear hK hwf HSW r0 z0
  refine wpZ_done (by kernel_rfl) ?_ _
  go_wp2_with fail
  refine HTO.out.mono ?_
  rintro e wz ⟨rfl, hbz⟩
  clear HTO
  have HNZ : Hid (HeldT (fun t => t = 9 ∨ t = 53) w wz) := HN9.out.trans (HeldT.of_below hbz)
  have HBZ : Hid (Below B w wz) := HBF.out.trans (hbz.mono (by have := HBF.out.size; omega))
  have HHZ := hid (HH1.out.below hbz)
  go_wp2
  go_ret2
  rw [HSE.out]
  exact ⟨K, Cs, m, t, _, .slice ca cn cc, by rw [HTT.out]; rfl, HK6.out, HMA.out, HTE.out, HHZ.out, HBZ.out, HNZ.out⟩
end Go.Proofs.YtgdfipmdmgkidaaGreatDoor

/- Mathematics: the texts of the statements of one repository. -/
namespace Go.Proofs.YtgdfipmdmgkidaaGreatDoor
open Go.RowKit

def eightLines : List ByteArray := fiveLines ++ [⟨#[120, 10]⟩, ⟨#[121, 10]⟩, ⟨#[122, 10]⟩]
abbrev nlB : ByteArray := ⟨#[10]⟩
theorem eight_facts : ∀ l ∈ eightLines, 1 ≤ l.size ∧ l.size ≤ 13 ∧ gb l (l.size - 1) = 10 ∧ ((List.range (l.size - 1)).all fun i => decide (gb l i ≠ 10)) = true ∧ decide (12 < lineRunes l) = false ∧ decide (12 < lineRunes (l.extract 0 (l.size - 1))) = false ∧ l.extract 0 (l.size - 1) ++ nlB = l := by decide +kernel
theorem eight_line {l : ByteArray} (h : l ∈ eightLines) : LineB l := by
  obtain ⟨h1, _, h2, h3, _⟩ := eight_facts l h
  refine ⟨h1, h2, fun i hi => ?_⟩
  have := List.all_eq_true.1 h3 i (List.mem_range.2 (by omega))
  simpa using this
theorem eight_size {l : ByteArray} (h : l ∈ eightLines) : l.size ≤ 13 := (eight_facts l h).2.1

/-- A last line without its newline. -/
structure OpenL (m : ByteArray) : Prop where
  mem : m ++ nlB ∈ eightLines
  pos : 1 ≤ m.size
  no : ∀ i, i < m.size → gb m i ≠ 10
  runes : decide (12 < lineRunes m) = false
theorem OpenL.size {m : ByteArray} (h : OpenL m) : m.size ≤ 12 := by
  have := eight_size h.mem
  rw [ByteArray.size_append] at this
  have e : nlB.size = 1 := rfl
  omega
theorem OpenL.last {m : ByteArray} (h : OpenL m) : gb m (m.size - 1) ≠ 10 := h.no _ (by have := h.pos; omega)

/-- The lines of a text. -/
structure LinesT (t : ByteArray) (C : List ByteArray) : Prop where
  cut : cutAll t = C
  cat : catB C = t
  len : C.length ≤ 16
  parts : (∀ l ∈ C, l ∈ eightLines) ∨ ∃ A m, C = A ++ [m] ∧ (∀ l ∈ A, l ∈ eightLines) ∧ OpenL m
def TX (t : ByteArray) : Prop := t.size ≤ 240 ∧ ∃ C, LinesT t C
theorem LinesT.each {t : ByteArray} {C : List ByteArray} (h : LinesT t C) : ∀ l ∈ C, l.size ≤ 13 ∧ decide (12 < lineRunes l) = false := fun l hl => by
  rcases h.parts with h8 | ⟨A, m, rfl, hA, hm⟩
  · obtain ⟨_, h2, _, _, h5, _⟩ := eight_facts l (h8 l hl)
    exact ⟨h2, h5⟩
  · rcases List.mem_append.1 hl with hl | hl
    · obtain ⟨_, h2, _, _, h5, _⟩ := eight_facts l (hA l hl)
      exact ⟨h2, h5⟩
    · rw [List.mem_singleton] at hl
      subst hl
      exact ⟨by have := hm.size; omega, hm.runes⟩
theorem TX.ok {t : ByteArray} (h : TX t) : linesOk t = true := by
  obtain ⟨hs, C, hC⟩ := h
  have h1 : anyLong (cutAll t) = false := by
    rw [hC.cut]
    unfold anyLong
    rw [List.any_eq_false]
    intro l hl
    rw [(hC.each l hl).2]
    simp
  unfold linesOk
  rw [h1, hC.cut]
  have := hC.len
  simp
  omega
theorem TX.lines {t : ByteArray} (h : TX t) : (cutAll t).length ≤ 16 ∧ (∀ l ∈ cutAll t, l.size ≤ 1000) ∧ catB (cutAll t) = t := by
  obtain ⟨hs, C, hC⟩ := h
  rw [hC.cut]
  exact ⟨hC.len, fun l hl => by have := (hC.each l hl).1; omega, hC.cat⟩
theorem joined_lines (L : List ByteArray) (op : Bool) (hL : ∀ l ∈ L, l ∈ eightLines) (h16 : L.length ≤ 16) : ∃ C, LinesT (joinedB L op) C := by
  have hLB : ∀ l ∈ L, LineB l := fun l hl => eight_line (hL l hl)
  have hplain : ∃ C, LinesT (catB L) C := ⟨L, cut_lines L hLB, rfl, h16, .inl hL⟩
  unfold joinedB
  rw [joinTo_all]
  split
  · rename_i hop
    have hne : L ≠ [] := by
      rintro rfl
      simp [catB, ByteArray.size] at hop
    obtain ⟨A, l, rfl⟩ : ∃ A l, L = A ++ [l] := ⟨_, _, (List.dropLast_concat_getLast hne).symm⟩
    have hA : ∀ x ∈ A, x ∈ eightLines := fun x hx => hL x (by simp [hx])
    have hAB : ∀ x ∈ A, LineB x := fun x hx => eight_line (hA x hx)
    have hl5 := hL l (by simp)
    have hls : 1 ≤ l.size := (eight_line hl5).1
    have hcut : (catB (A ++ [l])).extract 0 ((catB (A ++ [l])).size - 1) = catB A ++ l.extract 0 (l.size - 1) := by
      rw [catB_app, catB_one, ByteArray.size_append]
      have h1 : (catB A).size + l.size - 1 ≤ (catB A ++ l).size := by rw [ByteArray.size_append]; omega
      refine ext_gb (by rw [size_ex _ _ _ h1, ByteArray.size_append, size_ex _ _ _ (by omega)]; omega) fun i hi => ?_
      rw [size_ex _ _ _ h1] at hi
      rw [gb_ex _ _ _ _ h1 hi, Nat.zero_add]
      by_cases hlt : i < (catB A).size
      · rw [gb_left hlt, gb_left hlt]
      · obtain ⟨j, rfl⟩ : ∃ j, i = (catB A).size + j := ⟨i - (catB A).size, by omega⟩
        rw [gb_right, gb_right, gb_ex _ _ _ _ (by omega) (by omega), Nat.zero_add]
    rw [hcut]
    have ht : ∀ i, i < (l.extract 0 (l.size - 1)).size → gb (l.extract 0 (l.size - 1)) i ≠ 10 := fun i hi => by
      rw [size_ex _ _ _ (by omega)] at hi
      rw [gb_ex _ _ _ _ (by omega) hi, Nat.zero_add]
      exact (eight_line hl5).2.2 i (by omega)
    have hc := cut_cat A _ hAB ht
    have hAl : A.length + 1 ≤ 16 := by simpa using h16
    by_cases h0 : (l.extract 0 (l.size - 1)).size = 0
    · rw [if_pos h0] at hc
      refine ⟨A, hc, ?_, by omega, .inl hA⟩
      refine ext_gb (by rw [ByteArray.size_append, h0]; rfl) fun i hi => by rw [gb_left hi]
    · rw [if_neg h0] at hc
      obtain ⟨_, _, _, _, _, h6, h7⟩ := eight_facts l hl5
      exact ⟨A ++ [l.extract 0 (l.size - 1)], hc, by rw [catB_app, catB_one], by simpa using hAl, .inr ⟨A, _, rfl, hA, ⟨by rw [h7]; exact hl5, by omega, ht, h6⟩⟩⟩
  · exact hplain
theorem TX.joined {L : List ByteArray} {op : Bool} (hL : ∀ l ∈ L, l ∈ eightLines) (h16 : L.length ≤ 16) (hs : (joinedB L op).size ≤ 240) : TX (joinedB L op) := ⟨hs, joined_lines L op hL h16⟩
theorem TX.cat {L : List ByteArray} (hL : ∀ l ∈ L, l ∈ eightLines) (h16 : L.length ≤ 16) (hs : (catB L).size ≤ 240) : TX (catB L) := ⟨hs, L, cut_lines L (fun l hl => eight_line (hL l hl)), rfl, h16, .inl hL⟩

/-- The three names. -/
abbrev nmB : ByteArray := ⟨#[98]⟩
abbrev nmG : ByteArray := ⟨#[206, 179, 207, 137]⟩
def names3 : List ByteArray := [nmA, nmB, nmG]
theorem names3_ok : ∀ x ∈ names3, nameB x = true ∧ x.size ≤ 4 := by decide +kernel
theorem names3_srt : Srt names3 := by
  unfold Srt names3
  simp only [List.pairwise_cons, List.mem_cons, List.not_mem_nil, or_false]
  refine ⟨?_, ?_, ?_, List.Pairwise.nil⟩
  · rintro b (rfl | rfl) <;> decide
  · rintro b rfl; decide
  · rintro b hb; cases hb
end Go.Proofs.YtgdfipmdmgkidaaGreatDoor

/- The statement's names and ids. -/
namespace Go.Proofs.YtgdfipmdmgkidaaGreatDoor
open Go.RowKit

set_option maxRecDepth 100000 in
set_option maxHeartbeats 1600000 in
theorem kname49_det (c : Int) (h0 : -9223372036854775808 ≤ c) (h1 : c ≤ 9223372036854775807) :
    ∃ x ∈ names3, ∀ w, Calls Tryz.prog 49 #[.int .i64 c] w fun e w' => e = .returned (.string x) ∧ w' = w := by
  obtain ⟨k, hk, hp⟩ := kpick23_det c 3 (by omega) (by omega) h0 h1
  have HP := hid hp
  clear hp
  obtain rfl | rfl | rfl : k = 0 ∨ k = 1 ∨ k = 2 := by omega
  · refine ⟨nmA, by simp [names3], fun w => ?_⟩
    go_enter Tryz.func49, Tryz.ntmps49
    go_wp2_with (go_at_call 31; refine (HP.out _).mono ?_; rintro e w1 ⟨rfl, rfl⟩)
    go_ret
    exact ⟨rfl, rfl⟩
  · refine ⟨nmB, by simp [names3], fun w => ?_⟩
    go_enter Tryz.func49, Tryz.ntmps49
    go_wp2_with (go_at_call 31; refine (HP.out _).mono ?_; rintro e w1 ⟨rfl, rfl⟩)
    go_ret
    exact ⟨rfl, rfl⟩
  · refine ⟨nmG, by simp [names3], fun w => ?_⟩
    go_enter Tryz.func49, Tryz.ntmps49
    go_wp2_with (go_at_call 31; refine (HP.out _).mono ?_; rintro e w1 ⟨rfl, rfl⟩)
    go_ret
    exact ⟨rfl, rfl⟩

abbrev hexS : ByteArray := ⟨#[48, 49, 50, 51, 52, 53, 54, 55, 56, 57, 97, 98, 99, 100, 101, 102]⟩
def hexN (V : Nat) : Nat → ByteArray
  | 0 => ⟨#[]⟩
  | k + 1 => hexS.extract (V / 16 ^ k % 16) (V / 16 ^ k % 16 + 1) ++ hexN V k
theorem hexN_size (V : Nat) : ∀ k, (hexN V k).size ≤ k
  | 0 => Nat.le_refl _
  | k + 1 => by
    have := hexN_size V k
    show (_ ++ hexN V k).size ≤ _
    rw [ByteArray.size_append, ByteArray.size_extract]
    omega
def idW (n : Nat) : ByteArray := hexN (n * 7919 % 65536) 4
set_option maxRecDepth 100000 in
set_option maxHeartbeats 1600000 in
theorem kid28_any (n : Nat) (hn : n ≤ 1000) (w : World) :
    Calls Tryz.prog 28 #[.int .i64 n] w fun e w' => e = .returned (.string (idW n)) ∧ w' = w := by
  have e1 : ((n : Int) * 7919).tmod 65536 = ((n * 7919 % 65536 : Nat) : Int) := by
    rw [Int.tmod_eq_emod_of_nonneg (by omega)]
    omega
  obtain ⟨V, hV⟩ : ∃ V, n * 7919 % 65536 = V := ⟨_, rfl⟩
  have HV : Hid (idW n = hexN V 4) := by show _ = _; unfold idW; rw [hV]
  rw [hV] at e1
  have hVl : V < 65536 := by omega
  clear hV
  go_enter Tryz.func28, Tryz.ntmps28
  go_wp2
  go_loopw [3, 4, 5] (fun v s i wr => ∃ k : Nat, k ≤ 4 ∧ i = .int .i64 k ∧ v = .int .i64 ((V / 16 ^ k : Nat) : Int) ∧ s = .string (hexN V k) ∧ wr = w) (fun _ _ i _ => 4 - (intOf i).toNat)
  case atStart => exact ⟨0, by omega, rfl, by simp, rfl, rfl⟩
  case round =>
    obtain ⟨k, hk, rfl, rfl, rfl, rfl⟩ := hrel
    obtain ⟨U, hU⟩ : ∃ U, V / 16 ^ k = U := ⟨_, rfl⟩
    have hUl : U ≤ 65535 := by rw [← hU]; have := Nat.div_le_self V (16 ^ k); omega
    have hsz := hexN_size V k
    obtain ⟨S, hS⟩ : ∃ S, hexN V k = S := ⟨_, rfl⟩
    rw [hS] at hsz
    rw [hU, hS]
    have HN : Hid (V / 16 ^ (k + 1) = U / 16) := by show _ = _; rw [← hU, Nat.pow_succ, Nat.div_div_eq_div_mul]
    have HH : Hid (hexN V (k + 1) = hexS.extract (U % 16) (U % 16 + 1) ++ S) := by show hexN V (k + 1) = _; rw [hexN, hU, hS]
    have HS := hid hS
    by_cases hlt : k < 4
    · have d1 : ((U : Nat) : Int).tmod 16 = ((U % 16 : Nat) : Int) := by rw [Int.tmod_eq_emod_of_nonneg (by omega)]; omega
      have d2 : ((U : Nat) : Int).tdiv 16 = ((U / 16 : Nat) : Int) := by rw [Int.tdiv_eq_ediv_of_nonneg (by omega)]; omega
      clear hU hS
      go_wp2
      go_roundw
      case rel => exact ⟨k + 1, by omega, by go_num, by rw [HN.out]; go_num, by rw [HH.out], trivial⟩
      case measure => simp [intOf]; omega
    · have e : k = 4 := by omega
      subst e
      clear hU hS
      go_wp2
      go_ret
      exact ⟨by rw [HV.out, HS.out]; rfl, rfl⟩
end Go.Proofs.YtgdfipmdmgkidaaGreatDoor

/- The ids as bytes; the commands' words. -/
namespace Go.Proofs.YtgdfipmdmgkidaaGreatDoor
open Go.RowKit

def uc (n i : Nat) : UInt8 := UInt8.ofNat (gb (idW n) i)
/-- The id of a number, as the program has it. -/
def idN (n : Nat) : Pid := ⟨(uc n 0).toNat, (uc n 1).toNat, (uc n 2).toNat, (uc n 3).toNat⟩
def recHead : ByteArray := ⟨#[114, 101, 99, 111, 114, 100, 32]⟩
def unrHead : ByteArray := ⟨#[117, 110, 114, 101, 99, 111, 114, 100, 32]⟩
abbrev spB : ByteArray := ⟨#[32]⟩
theorem ids_words : ∀ n ∈ List.range 42, idW n = ⟨#[uc n 0, uc n 1, uc n 2, uc n 3]⟩ ∧ wordsOk (recHead ++ idW n) = true ∧ splitAll (recHead ++ idW n) = [wdRecord, idW n] ∧ wordsOk (unrHead ++ idW n) = true ∧ splitAll (unrHead ++ idW n) = [wdUnrecord, idW n] := by decide +kernel
theorem ids_words3 : ∀ n ∈ List.range 42, ∀ x ∈ names3, wordsOk (recHead ++ idW n ++ (spB ++ x)) = true ∧ splitAll (recHead ++ idW n ++ (spB ++ x)) = [wdRecord, idW n, x] := by decide +kernel
theorem ids_apart : ∀ n ∈ List.range 42, ∀ m ∈ List.range 42, idN n = idN m → n = m := by decide +kernel
theorem ids_zero : ∀ n ∈ List.range 42, 1 ≤ n → idN n ≠ zid := by decide +kernel
theorem idN_ok (n : Nat) : IdOK (idN n) := by
  have h : ∀ u : UInt8, (0 : Int) ≤ (u.toNat : Int) ∧ (u.toNat : Int) < 256 := fun u => by
    have := u.toNat_lt
    omega
  exact ⟨h _, h _, h _, h _⟩
theorem idW_size {n : Nat} (h : n ≤ 41) : (idW n).size = 4 := by
  rw [(ids_words n (List.mem_range.2 (by omega))).1]
  rfl
theorem cLog_ok : wordsOk wdLog = true ∧ splitAll wdLog = [wdLog] := by decide +kernel
theorem cRevert_ok : wordsOk wdRevert = true ∧ splitAll wdRevert = [wdRevert] := by decide +kernel

/-- The ids that were given, when the next is the n-th. -/
def idsTo (n : Nat) : List Pid := (List.range' 1 (n - 1)).map idN
theorem idsTo_len (n : Nat) : (idsTo n).length = n - 1 := by simp [idsTo]
theorem idsTo_next {n : Nat} (h : 1 ≤ n) : idsTo (n + 1) = idsTo n ++ [idN n] := by
  unfold idsTo
  have : n + 1 - 1 = (n - 1) + 1 := by omega
  rw [this, List.range'_concat, List.map_append]
  simp
  congr 1
  omega
theorem idsTo_fresh {n : Nat} (h1 : 1 ≤ n) (h : n ≤ 41) : idN n ∉ idsTo n := by
  unfold idsTo
  intro hm
  obtain ⟨m, hm, e⟩ := List.mem_map.1 hm
  rw [List.mem_range'] at hm
  obtain ⟨i, hi, rfl⟩ := hm
  have := ids_apart _ (List.mem_range.2 (by omega)) n (List.mem_range.2 (by omega)) e
  omega
end Go.Proofs.YtgdfipmdmgkidaaGreatDoor

/- The commands swap and show. -/
namespace Go.Proofs.YtgdfipmdmgkidaaGreatDoor
open Go.RowKit

abbrev wdSwap : ByteArray := ⟨#[115, 119, 97, 112]⟩
abbrev wdShow : ByteArray := ⟨#[115, 104, 111, 119]⟩
def swpHead : ByteArray := ⟨#[115, 119, 97, 112, 32]⟩
def shwHead : ByteArray := ⟨#[115, 104, 111, 119, 32]⟩
set_option maxRecDepth 100000 in
set_option maxHeartbeats 3200000 in
theorem carry45_swap (pb rg wb wo wc : Nat) (a b c d : UInt8) (w : World) (Q : ByteArray → Int → World → Prop) (hw : w.cell? ⟨wb, wo, none⟩ = some (.string wdSwap)) (hw1 : w.cell? ⟨wb, wo + 1, none⟩ = some (.string ⟨#[a, b, c, d]⟩))
    (hN : ∀ u, Below w.heap.size w u → Calls Tryz.prog 75 #[.pointer (some ⟨rg, 0, none⟩), .agg #[.int .u8 a.toNat, .int .u8 b.toNat, .int .u8 c.toNat, .int .u8 d.toNat]] u fun e w' => ∃ x cd, e = .returned (.tuple #[.string x, .int .i64 cd]) ∧ Q x cd w') :
    Calls Tryz.prog 45 #[.pointer (some ⟨pb, 0, none⟩), .pointer (some ⟨rg, 0, none⟩), .slice (some ⟨wb, wo, none⟩) 2 wc] w fun e w' => ∃ x cd, e = .returned (.tuple #[.string x, .int .i64 cd]) ∧ Q x cd w' := by
  have HN := hid hN
  have HI := hid (idOf51_any a b c d w)
  clear hN
  go_enter Tryz.func45, Tryz.ntmps45
  go_wp2_with fail
  refine HI.out.mono ?_
  rintro e w1 ⟨rfl, hb1⟩
  clear HI
  have HN1 := HN.out w1 hb1
  clear HN hw hw1
  have HN2 := hid HN1
  clear HN1
  go_wp2_with fail
  refine HN2.out.mono ?_
  rintro e w2 ⟨x, cd, rfl, hq⟩
  clear HN2
  go_wp2
  go_ret2
  exact ⟨x, cd, rfl, hq⟩

theorem ids_swap : ∀ n ∈ List.range 42, wordsOk (swpHead ++ idW n) = true ∧ splitAll (swpHead ++ idW n) = [wdSwap, idW n] ∧ wordsOk (shwHead ++ idW n) = true ∧ splitAll (shwHead ++ idW n) = [wdShow, idW n] := by decide +kernel
end Go.Proofs.YtgdfipmdmgkidaaGreatDoor
