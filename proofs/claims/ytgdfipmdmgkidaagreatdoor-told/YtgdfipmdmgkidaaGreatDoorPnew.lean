/- The contract of record where nothing differs; of new. -/
import Derived.Test.YtgdfipmdmgkidaaGreatDoorPrecw
namespace Go.Proofs.YtgdfipmdmgkidaaGreatDoor
open Go.RowKit

set_option maxRecDepth 100000 in
set_option maxHeartbeats 12800000 in
theorem record53_clean (B pb rg cap gb : Nat) (pv : Value) (Ps : List PM) (fb fn : Nat) (f : ByteArray → Option ByteArray) (G : List Pid) (st : Nat → Nat → ByteArray → PL) (cnt : Nat → Nat) (i : Pid) (na : Option Addr) (nc : Nat) (w : World)
    (h : OneAt w B pb rg cap gb pv Ps fb fn f G) (hs : Stands Ps st cnt) (_hB : B ≤ w.heap.size) (hPs : Ps.length ≤ 40) (hfn : fn ≤ 1000) (hi : IdOK i) (hiG : i ∉ G) (hG : G.length < 40) (hok : RecOK f (st Ps.length 0))
    (hcl : ∀ K, AllOf f (st Ps.length 0) K → chgOf f (st Ps.length 0) K = []) :
    Calls Tryz.prog 72 #[.pointer (some ⟨pb, 0, none⟩), .pointer (some ⟨rg, 0, none⟩), .agg #[.int .u8 i.a, .int .u8 i.b, .int .u8 i.c, .int .u8 i.d], .slice na 0 nc] w fun e w' =>
      e = .returned (.tuple #[.string ⟨#[]⟩, .int .i64 9]) ∧ Below w.heap.size w w' := by
  obtain ⟨s, hse⟩ : ∃ s, st Ps.length 0 = s := ⟨_, rfl⟩
  obtain ⟨w1, hw1⟩ : ∃ w1, w1 = w.alloc (.cells #[.int .u8 i.a, .int .u8 i.b, .int .u8 i.c, .int .u8 i.d] 113) := ⟨_, rfl⟩
  have hb1 : Below w.heap.size w w1 := by rw [hw1]; exact (Below.refl _ _).alloc (Nat.le_refl _) _
  have hk1 : w1.heap[w.heap.size]? = some (.cells #[.int .u8 i.a, .int .u8 i.b, .int .u8 i.c, .int .u8 i.d] 113 (0, 0)) := by rw [hw1]; exact (MapKept.heap_alloc w _).1
  have hs1 : w.heap.size < w1.heap.size := by rw [hw1]; simp
  have h1 := h.below hb1
  have HK : Hid (Calls Tryz.prog 77 #[.pointer (some ⟨rg, 0, none⟩)] w1 fun e w' => ∃ mb n, e = .returned (.agg #[.map (some mb)]) ∧ TreeAt w' mb s n ∧ n ≤ 100000 ∧ w1.heap.size ≤ mb ∧ Below w1.heap.size w1 w') := by
    have := kept_any hs h1.view (by omega) h1.r0 h1.lts.2.1
    rw [hse] at this
    exact this
  rw [hse] at hok hcl
  have HH : Hid (OneAt w1 B pb rg cap gb pv Ps fb fn f G) := h1
  have HK1 : Hid (w1.heap[w.heap.size]? = some (.cells #[.int .u8 i.a, .int .u8 i.b, .int .u8 i.c, .int .u8 i.d] 113 (0, 0))) := hk1
  have HB1 : Hid (Below w.heap.size w w1) := hb1
  have HSE : Hid (st Ps.length 0 = s) := hse
  have HOK : Hid (RecOK f s) := hok
  have HCL : Hid (∀ K, AllOf f s K → chgOf f s K = []) := hcl
  clear h h1 hk1 hb1 hs hse hok hcl
  go_enter Tryz.func72, Tryz.ntmps72
  go_wp2_with fail
  rw [← hw1]
  clear hw1
  refine HK.out.mono ?_
  rintro e w2 ⟨mb, n, rfl, hT2, hn, hmb, hb2⟩
  clear HK
  obtain ⟨w3, hw3⟩ : ∃ w3, w3 = w2.alloc (.cells #[.map (some mb)] 121) := ⟨_, rfl⟩
  have hb23 : Below w2.heap.size w2 w3 := by rw [hw3]; exact (Below.refl _ _).alloc (Nat.le_refl _) _
  have hb13 : Below w1.heap.size w1 w3 := hb2.trans (hb23.mono hb2.size)
  have hk3 : w3.heap[w2.heap.size]? = some (.cells #[.map (some mb)] 121 (0, 0)) := by rw [hw3]; exact (MapKept.heap_alloc w2 _).1
  have hs3 : w2.heap.size < w3.heap.size := by rw [hw3]; simp
  have h3 := HH.out.below hb13
  have hgb1 : gb < w1.heap.size := HH.out.given.lt
  have hrg1 : rg < w1.heap.size := HH.out.lts.2.1
  have hpb1 : pb < w1.heap.size := HH.out.lts.1
  have hT3 := hT2.below hb23 (Nat.le_refl _)
  have HM : Hid (Calls Tryz.prog 125 #[.pointer (some ⟨pb, 0, none⟩), .pointer (some ⟨rg, 0, none⟩), .agg #[.map (some mb)], .agg #[.int .u8 i.a, .int .u8 i.b, .int .u8 i.c, .int .u8 i.d], .slice na 0 nc] w3 fun e w' => e = .returned (.int .i64 0) ∧ Below w3.heap.size w3 w') := by
    refine (may97_any G gb pb f fb fn rg 0 s mb n i na 0 nc [] w3 h3.given hi h3.c1 h3.lts.1 h3.files h3.r1 h3.lts.2.1 hT3 hn (.inl rfl) rfl (by simp) (by simp)).mono ?_
    rintro e w' ⟨c, rfl, hR, hb⟩
    rcases hR with ⟨hh, _⟩ | ⟨_, hh, _⟩ | ⟨_, _, ⟨x, hx, _⟩, _⟩ | ⟨_, _, _, rfl⟩
    · exact absurd hh hiG
    · omega
    · cases hx
    · exact ⟨rfl, hb⟩
  have m0 : w3.cell? ⟨w2.heap.size, 0, none⟩ = some (.map (some mb)) := by simp [World.cell?, hk3]
  obtain ⟨q0, q1, q2, q3⟩ := cells4_at ((hb2.block _ hs1).trans HK1.out)
  have hs12 := hb2.size
  obtain ⟨qa0, qa1, qa2, qa3⟩ := cells4_at ((hb13.block _ hs1).trans HK1.out)
  rw [hw3] at qa0 qa1 qa2 qa3
  clear q0 q1 q2 q3
  have HK3 : Hid (w3.heap[w2.heap.size]? = some (.cells #[.map (some mb)] 121 (0, 0))) := hk3
  have HT3 : Hid (TreeAt w3 mb s n) := hT3
  have HH3 : Hid (OneAt w3 B pb rg cap gb pv Ps fb fn f G) := h3
  have HB13 : Hid (Below w1.heap.size w1 w3) := hb13
  have hs13 := hb13.size
  clear hT2 hT3 h3 hk3 hb23 hb2 hb13 HH
  go_wp2_with fail
  rw [← hw3]
  clear hw3
  refine HM.out.mono ?_
  rintro e w4 ⟨rfl, hb4⟩
  clear HM
  have hk4 := (hb4.block _ hs3).trans HK3.out
  have m4 : w4.cell? ⟨w2.heap.size, 0, none⟩ = some (.map (some mb)) := by simp [World.cell?, hk4]
  have hs4 := hb4.size
  have HH4 : Hid (OneAt w4 B pb rg cap gb pv Ps fb fn f G) := HH3.out.below hb4
  have HT4 : Hid (TreeAt w4 mb s n) := HT3.out.below hb4 (Nat.le_refl _)
  have HA : Hid (Calls Tryz.prog 112 #[.pointer (some ⟨rg, 0, none⟩), .agg #[.map (some mb)]] w4 fun e w' => ∃ va vn vc L, e = .returned (.slice va vn vc) ∧ w'.ownsRow w4.heap.size 9 1 (.slice va vn vc) L.length (strs L) ∧ (∀ x, x ∈ L ↔ (f x).isSome = true ∨ (s x).alive = true) ∧ L.length ≤ fn + n ∧ Below w4.heap.size w4 w') := HH4.out.allNames hfn HT4.out hn
  clear qa0 qa1 qa2 qa3 m0
  go_wp2_with fail
  refine HA.out.mono ?_
  rintro e w5 ⟨va, vn, vc, L, rfl, hL5, hm5, hl5, hb5⟩
  clear HA
  have hk5 := (hb5.block _ (by omega)).trans hk4
  have m5 : w5.cell? ⟨w2.heap.size, 0, none⟩ = some (.map (some mb)) := by simp [World.cell?, hk5]
  have hs5 := hb5.size
  have HH5 : Hid (OneAt w5 B pb rg cap gb pv Ps fb fn f G) := HH4.out.below hb5
  have HT5 : Hid (TreeAt w5 mb s n) := HT4.out.below hb5 (Nat.le_refl _)
  have HC : Hid (Calls Tryz.prog 111 #[.pointer (some ⟨rg, 0, none⟩), .agg #[.map (some mb)], .slice va vn vc] w5 fun e w' => ∃ xa xc K, e = .returned (.slice xa (chgOf f s K).length xc) ∧ FV w' (.slice xa (chgOf f s K).length xc) (chgOf f s K) ∧ AllOf f s K ∧ Below w5.heap.size w5 w') := HH5.out.changed HT5.out hn hfn HOK.out hL5 hm5 hl5
  clear hL5 hm5 hl5 HH4 HT4 m4
  go_wp2_with fail
  refine HC.out.mono ?_
  rintro e w6 ⟨xa, xc, K, rfl, hF6, hK6, hb6⟩
  clear HC
  have hz6 := HCL.out K hK6
  have hz7 : (chgOf f s K).length = 0 := by rw [hz6]; rfl
  rw [hz7]
  have HB36 : Hid (Below w3.heap.size w3 w6) := (hb4.trans (hb5.mono hs4)).trans (hb6.mono (by omega))
  have HBZ : Hid (Below w.heap.size w w6) := HB1.out.trans ((HB13.out.mono (by omega)).trans (HB36.out.mono (by omega)))
  clear hF6 hz6 hz7 HB36
  go_wp2
  go_ret2
  exact ⟨rfl, HBZ.out⟩

set_option maxRecDepth 100000 in
set_option maxHeartbeats 12800000 in
theorem new48_any (B pb rg cap gb : Nat) (pv : Value) (Ps : List PM) (fb fn : Nat) (f : ByteArray → Option ByteArray) (G : List Pid) (st : Nat → Nat → ByteArray → PL) (cnt : Nat → Nat) (w : World)
    (h : OneAt w B pb rg cap gb pv Ps fb fn f G) (hs : Stands Ps st cnt) (hPs : Ps.length ≤ 40) (hfn : fn ≤ 1000) (hok : RecOK f (st Ps.length 0))
    (htl : ∀ K Cs m, AllOf f (st Ps.length 0) K → MadeAll (st Ps.length 0) ⟨0, 0, 0, 0⟩ (chgOf f (st Ps.length 0) K) Cs m → ∃ t : Nat → ByteArray, (∀ k c, Cs[k]? = some c → TellsP c.2 c.1 (st Ps.length 0 c.1) (t k)) ∧ ∀ k, (t k).size ≤ 1000000) :
    Calls Tryz.prog 66 #[.pointer (some ⟨rg, 0, none⟩)] w fun e w' => ∃ K Cs m t, e = .returned (.string ⟨(toldTo t Cs.length).toArray⟩) ∧ AllOf f (st Ps.length 0) K ∧ MadeAll (st Ps.length 0) ⟨0, 0, 0, 0⟩ (chgOf f (st Ps.length 0) K) Cs m ∧ (∀ k c, Cs[k]? = some c → TellsP c.2 c.1 (st Ps.length 0 c.1) (t k)) ∧ Below w.heap.size w w' := by
  obtain ⟨s, hse⟩ : ∃ s, st Ps.length 0 = s := ⟨_, rfl⟩
  have HK : Hid (Calls Tryz.prog 77 #[.pointer (some ⟨rg, 0, none⟩)] w fun e w' => ∃ mb n, e = .returned (.agg #[.map (some mb)]) ∧ TreeAt w' mb s n ∧ n ≤ 100000 ∧ w.heap.size ≤ mb ∧ Below w.heap.size w w') := by
    have := kept_any hs h.view (by omega) h.r0 h.lts.2.1
    rw [hse] at this
    exact this
  rw [hse] at hok htl
  have HH : Hid (OneAt w B pb rg cap gb pv Ps fb fn f G) := h
  have HSE : Hid (st Ps.length 0 = s) := hse
  have HOK : Hid (RecOK f s) := hok
  have HTL : Hid (∀ K Cs m, AllOf f s K → MadeAll s ⟨0, 0, 0, 0⟩ (chgOf f s K) Cs m → ∃ t : Nat → ByteArray, (∀ k c, Cs[k]? = some c → TellsP c.2 c.1 (s c.1) (t k)) ∧ ∀ k, (t k).size ≤ 1000000) := htl
  clear h hs hse hok htl
  go_enter Tryz.func66, Tryz.ntmps66
  go_wp2_with fail
  refine HK.out.mono ?_
  rintro e w2 ⟨mb, n, rfl, hT2, hn, hmb, hb2⟩
  clear HK
  obtain ⟨w3, hw3⟩ : ∃ w3, w3 = w2.alloc (.cells #[.map (some mb)] 121) := ⟨_, rfl⟩
  have hb23 : Below w2.heap.size w2 w3 := by rw [hw3]; exact (Below.refl _ _).alloc (Nat.le_refl _) _
  have hb3 : Below w.heap.size w w3 := hb2.trans (hb23.mono hb2.size)
  have hk3 : w3.heap[w2.heap.size]? = some (.cells #[.map (some mb)] 121 (0, 0)) := by rw [hw3]; exact (MapKept.heap_alloc w2 _).1
  have hs3 : w2.heap.size < w3.heap.size := by rw [hw3]; simp
  have hs2 := hb2.size
  have HX3 : Hid (w3.heap[w2.heap.size]? = some (.cells #[.map (some mb)] 121 (0, 0))) := hk3
  have HH3 : Hid (OneAt w3.drew B pb rg cap gb pv Ps fb fn f G) := (HH.out.below hb3).drew
  have HT3 : Hid (TreeAt w3.drew mb s n) := (hT2.below hb23 (Nat.le_refl _)).below (Below.refl _ _).drew (Nat.le_refl _)
  have HB3 : Hid (Below w.heap.size w w3.drew) := hb3.drew
  have HS3 : Hid (w3.drew.cell? ⟨w2.heap.size, 0, none⟩ = some (.map (some mb))) := by show w3.cell? _ = _; simp [World.cell?, hk3]
  have HSB : Hid (∀ u, Below w3.heap.size w3.drew u → u.cell? ⟨w2.heap.size, 0, none⟩ = some (.map (some mb))) := fun u hu => (hu.cell (p := ⟨w2.heap.size, 0, none⟩) hs3).trans HS3.out
  have HA : Hid (Calls Tryz.prog 112 #[.pointer (some ⟨rg, 0, none⟩), .agg #[.map (some mb)]] w3.drew fun e w' => ∃ va vn vc L, e = .returned (.slice va vn vc) ∧ w'.ownsRow w3.heap.size 9 1 (.slice va vn vc) L.length (strs L) ∧ (∀ x, x ∈ L ↔ (f x).isSome = true ∨ (s x).alive = true) ∧ L.length ≤ fn + n ∧ Below w3.heap.size w3.drew w') := HH3.out.allNames hfn HT3.out hn
  clear hT2 hb23 hb2 hb3 hk3 HH
  go_wp2_with fail
  rw [← hw3]
  clear hw3
  refine wp_region_Z (fun w' => w'.cell? ⟨w2.heap.size, 0, none⟩ = some (.map (some mb))) 99 (by kernel_rfl) ?_
  refine wpZ_take 0 _ (v := ?v0) rfl (by kernel_rfl) (by kernel_rfl) (by kernel_rfl) (fun _ _ _ h => h) (by kernel_rfl) (by decide) HS3.out rfl (fun w0 hS0 => ?hy) ?_
  case hy =>
    go_simp
    with_reducible rfl
  simp only [Act.put, List.setIfInBounds_toArray]
  refine wpZ_take 1 _ (v := ?v1) rfl (by kernel_rfl) (by kernel_rfl) (by kernel_rfl) (fun _ _ _ h => h) (by kernel_rfl) (by decide) HS3.out rfl (fun w0 hS0 => ?hy) ?_
  case hy =>
    go_simp
    with_reducible rfl
  simp only [Act.put]
  refine wpZ_take 2 _ (v := ?v2) rfl (by kernel_rfl) (by kernel_rfl) (by kernel_rfl) (fun _ _ _ h => h) (by kernel_rfl) (by decide) HS3.out rfl (fun w0 hS0 => ?hy) ?_
  case hy =>
    go_simp
    with_reducible rfl
  simp only [Act.put]
  refine wpZ_take 3 _ (v := ?v3) rfl (by kernel_rfl) (by kernel_rfl) (by kernel_rfl) (fun _ _ _ h => h) (by kernel_rfl) (by decide) HS3.out rfl (fun w0 hS0 => ?hy) ?_
  case hy =>
    go_simp
    with_reducible rfl
  simp only [Act.put]
  refine wpZ_take 4 _ (v := ?v4) rfl (by kernel_rfl) (by kernel_rfl) (by kernel_rfl) (fun _ _ _ h => h) (by kernel_rfl) (by decide) HS3.out rfl (fun w0 hS0 => ?hy) ?_
  case hy =>
    go_simp
    with_reducible rfl
  simp only [Act.put]
  refine wpZ_take 5 _ (v := ?v5) rfl (by kernel_rfl) (by kernel_rfl) (by kernel_rfl) (fun _ _ _ h => h) (by kernel_rfl) (by decide) HS3.out rfl (fun w0 hS0 => ?hy) ?_
  case hy =>
    go_simp
    with_reducible rfl
  simp only [Act.put]
  refine wpZ_take 9 _ (v := ?v9) rfl (by kernel_rfl) (by kernel_rfl) (by kernel_rfl) (fun _ _ _ h => h) (by kernel_rfl) (by decide) HS3.out rfl (fun w0 hS0 => ?hy) ?_
  case hy =>
    go_simp
    with_reducible rfl
  simp only [Act.put]
  refine wpZ_one 6 _ rfl (by kernel_rfl) (fun KK hK => ?_)
  go_simp
  refine HA.out.mono ?_
  rintro e w5 ⟨va, vn, vc, L, rfl, hL5, hm5, hl5, hb5⟩
  clear HA
  dsimp only
  refine hK.out _ _ (fun _ => HSB.out w5 hb5) ?_
  clear hK
  have hs5 := hb5.size
  have HH5 : Hid (OneAt w5 B pb rg cap gb pv Ps fb fn f G) := HH3.out.below hb5
  have HT5 : Hid (TreeAt w5 mb s n) := HT3.out.below hb5 (Nat.le_refl _)
  have HC : Hid (Calls Tryz.prog 111 #[.pointer (some ⟨rg, 0, none⟩), .agg #[.map (some mb)], .slice va vn vc] w5 fun e w' => ∃ xa xc K, e = .returned (.slice xa (chgOf f s K).length xc) ∧ FV w' (.slice xa (chgOf f s K).length xc) (chgOf f s K) ∧ AllOf f s K ∧ Below w5.heap.size w5 w') := HH5.out.changed HT5.out hn hfn HOK.out hL5 hm5 hl5
  clear hL5 hm5 hl5
  refine wpZ_one 7 _ rfl (by kernel_rfl) (fun KK hK => ?_)
  go_simp
  refine HC.out.mono ?_
  rintro e w6 ⟨xa, xc, K, rfl, hF6, hK6, hb6⟩
  clear HC
  have hb36 : Below w3.heap.size w3.drew w6 := hb5.trans (hb6.mono hs5)
  dsimp only
  refine hK.out _ _ (fun _ => HSB.out w6 hb36) ?_
  clear hK
  obtain ⟨c50, cok⟩ := chg_ok HOK.out hK6
  have hs6 := hb6.size
  have HT6 : Hid (TreeAt w6 mb s n) := HT5.out.below hb6 (Nat.le_refl _)
  have HMK : Hid (Calls Tryz.prog 110 #[.agg #[.int .u8 0, .int .u8 0, .int .u8 0, .int .u8 0], .agg #[.map (some mb)], .slice xa (chgOf f s K).length xc] w6 fun e w' => ∃ ca cn cc Cs m, e = .returned (.agg #[.int .u8 0, .int .u8 0, .int .u8 0, .int .u8 0, .slice ca cn cc]) ∧ CV w' (.slice ca cn cc) Cs ∧ MadeAll s ⟨0, 0, 0, 0⟩ (chgOf f s K) Cs m ∧ Below w6.heap.size w6 w') := by
    refine (make87_any ⟨0, 0, 0, 0⟩ mb n s (chgOf f s K) _ w6 HT6.out hn hF6 c50 cok).mono ?_
    rintro e w' ⟨cv, Cs, m, rfl, g1, g2, g3⟩
    obtain ⟨ca, cc, rfl, g4⟩ := g1
    exact ⟨ca, _, cc, Cs, m, rfl, ⟨ca, cc, rfl, g4⟩, g2, g3⟩
  have HK6 : Hid (AllOf f s K) := hK6
  obtain ⟨cl, hcl⟩ : ∃ cl, (chgOf f s K).length = cl := ⟨_, rfl⟩
  have HCL : Hid ((chgOf f s K).length = cl) := hcl
  rw [hcl] at HMK c50 ⊢
  clear hF6 hK6 cok HH5 HT5 hcl
  refine wpZ_one 8 _ rfl (by kernel_rfl) (fun KK hK => ?_)
  go_simp
  refine HMK.out.mono ?_
  rintro e w7 ⟨ca, cn, cc, Cs, m, rfl, hcv7, hma7, hb7⟩
  clear HMK
  have hb37 : Below w3.heap.size w3.drew w7 := hb36.trans (hb7.mono (by have := hb36.size; exact this))
  dsimp only
  refine hK.out _ _ (fun _ => HSB.out w7 hb37) ?_
  clear hK
  obtain ⟨t, ht1, ht2⟩ := HTL.out K Cs m HK6.out hma7
  have HTE : Hid (∀ k c, Cs[k]? = some c → TellsP c.2 c.1 (s c.1) (t k)) := ht1
  have HMA : Hid (MadeAll s ⟨0, 0, 0, 0⟩ (chgOf f s K) Cs m) := hma7
  have hCl : Cs.length ≤ 50 := by rw [hma7.len, HCL.out]; exact c50
  have HTO : Hid (Calls Tryz.prog 113 #[.agg #[.int .u8 0, .int .u8 0, .int .u8 0, .int .u8 0, .slice ca cn cc], .agg #[.map (some mb)]] w7 fun e w' => e = .returned (.string ⟨(toldTo t Cs.length).toArray⟩) ∧ Below w7.heap.size w7 w') := by
    refine told_any ⟨0, 0, 0, 0⟩ hcv7 (HT6.out.below hb7 (Nat.le_refl _)) (by omega) (by omega) (fun c hc => ?_) t ht1 ht2
    obtain ⟨k, hk⟩ := List.mem_iff_getElem?.1 hc
    have hkl : k < (chgOf f s K).length := by rw [← HMA.out.len]; exact (List.getElem?_eq_some_iff.1 hk).1
    have hf := List.getElem?_eq_getElem hkl
    rw [(HMA.out.at_ k _ c hf hk).1]
    exact ((chg_ok HOK.out HK6.out).2 _ (List.getElem_mem hkl)).name
  obtain ⟨T, hTe⟩ : ∃ T, (⟨(toldTo t Cs.length).toArray⟩ : ByteArray) = T := ⟨_, rfl⟩
  rw [hTe] at HTO
  have HTT : Hid ((⟨(toldTo t Cs.length).toArray⟩ : ByteArray) = T) := hTe
  clear hcv7 hma7 ht1 ht2 hTe
  refine wpZ_one 10 _ rfl (by kernel_rfl) (fun KK hK => ?_)
  go_simp
  refine HTO.out.mono ?_
  rintro e w8 ⟨rfl, hb8⟩
  clear HTO
  have hb38 : Below w3.heap.size w3.drew w8 := hb37.trans (hb8.mono (by have := hb37.size; exact this))
  dsimp only
  refine hK.out _ _ (fun _ => HSB.out w8 hb38) ?_
  clear hK
  refine wpZ_one 11 _ rfl (by kernel_rfl) (fun KK hK => ?_)
  go_simp
  refine hK.out _ _ (fun _ => HSB.out w8 hb38) ?_
  clear hK
  refine wpZ_done (by kernel_rfl) ?_ _
  have HBZ : Hid (Below w.heap.size w w8) := HB3.out.trans (hb38.mono (by omega))
  go_wp2
  go_ret
  rw [HSE.out]
  exact ⟨K, Cs, m, t, by rw [HTT.out]; rfl, HK6.out, HMA.out, HTE.out, HBZ.out⟩
end Go.Proofs.YtgdfipmdmgkidaaGreatDoor
