/- The contract of record where nothing differs; of new. -/
import Derived.Test.YtgdfipmdmgkidaaGreatDoorPrecw
import Derived.Test.YtgdfipmdmgkidaaGreatDoorWmath
import Derived.Test.YtgdfipmdmgkidaaGreatDoorRunes
import Derived.Deep.QuietTactic
import Derived.BigQuiet
import Derived.Test.YtgdfipmdmgkidaaGreatDoorUrvs
import Derived.Test.YtgdfipmdmgkidaaGreatDoorOord
namespace Go.Proofs.YtgdfipmdmgkidaaGreatDoor
open Go.RowKit

set_option maxRecDepth 100000 in
set_option maxHeartbeats 12800000 in
theorem record53_clean (B pb rg cap gb : Nat) (pv : Value) (Ps : List PM) (fb fn : Nat) (f : ByteArray → Option ByteArray) (G : List Pid) (st : Nat → Nat → ByteArray → PL) (cnt : Nat → Nat) (i : Pid) (na : Option Addr) (nc : Nat) (w : World)
    (h : OneAt w B pb rg cap gb pv Ps fb fn f G) (hs : Stands Ps st cnt) (_hB : B ≤ w.heap.size) (hPs : Ps.length ≤ 40) (hfn : fn ≤ 1000) (hi : IdOK i) (hiG : i ∉ G) (hG : G.length < 40) (hok : RecOK f (st Ps.length 0))
    (hcl : ∀ K, AllOf f (st Ps.length 0) K → chgOf f (st Ps.length 0) K = []) :
    Calls Tryz.prog 72 #[.pointer (some ⟨pb, 0, none⟩), .pointer (some ⟨rg, 0, none⟩), .agg #[.int .u8 i.a, .int .u8 i.b, .int .u8 i.c, .int .u8 i.d], .slice na 0 nc] w fun e w' =>
      e = .returned (.tuple #[.string ⟨#[]⟩, .int .i64 9]) ∧ Below w.heap.size w w' := by
  obtain ⟨s, hse⟩ : ∃ s, st Ps.length 0 = s := ⟨_, rfl⟩
  obtain ⟨w1, hw1⟩ : ∃ w1, w1 = w.alloc (.cells #[.int .u8 i.a, .int .u8 i.b, .int .u8 i.c, .int .u8 i.d] 113) := ⟨_, rfl⟩
  have hb1 : Below w.heap.size w w1 := by rw [hw1]; exact (Below.refl _ _).alloc (Nat.le_refl _) _
  have hk1 : w1.heap[w.heap.size]? = some (.cells #[.int .u8 i.a, .int .u8 i.b, .int .u8 i.c, .int .u8 i.d] 113 (0, 0)) := by rw [hw1]; exact (MapKept.heap_alloc w _).1
  have hs1 : w.heap.size < w1.heap.size := by rw [hw1]; simp
  have h1 := h.below hb1
  have HK : Hid (Calls Tryz.prog 77 #[.pointer (some ⟨rg, 0, none⟩)] w1 fun e w' => ∃ mb n, e = .returned (.agg #[.map (some mb)]) ∧ TreeAt w' mb s n ∧ n ≤ 100000 ∧ w1.heap.size ≤ mb ∧ Below w1.heap.size w1 w') := by
    have := kept_any hs h1.view (by omega) h1.r0 h1.lts.2.1
    rw [hse] at this
    exact this
  rw [hse] at hok hcl
  have HH := hid h1
  have HK1 := hid hk1
  have HB1 := hid hb1
  have HSE := hid hse
  have HOK := hid hok
  have HCL := hid hcl
  clear h h1 hk1 hb1 hs hse hok hcl
  go_enter Tryz.func72, Tryz.ntmps72
  go_wp2_with fail
  rw [← hw1]
  clear hw1
  refine HK.out.mono ?_
  rintro e w2 ⟨mb, n, rfl, hT2, hn, hmb, hb2⟩
  clear HK
  obtain ⟨w3, hw3⟩ : ∃ w3, w3 = w2.alloc (.cells #[.map (some mb)] 121) := ⟨_, rfl⟩
  have hb23 : Below w2.heap.size w2 w3 := by rw [hw3]; exact (Below.refl _ _).alloc (Nat.le_refl _) _
  have hb13 : Below w1.heap.size w1 w3 := hb2.trans (hb23.mono hb2.size)
  have hk3 : w3.heap[w2.heap.size]? = some (.cells #[.map (some mb)] 121 (0, 0)) := by rw [hw3]; exact (MapKept.heap_alloc w2 _).1
  have hs3 : w2.heap.size < w3.heap.size := by rw [hw3]; simp
  have h3 := HH.out.below hb13
  have hgb1 : gb < w1.heap.size := HH.out.given.lt
  have hrg1 : rg < w1.heap.size := HH.out.lts.2.1
  have hpb1 : pb < w1.heap.size := HH.out.lts.1
  have hT3 := hT2.below hb23 (Nat.le_refl _)
  have HM : Hid (Calls Tryz.prog 125 #[.pointer (some ⟨pb, 0, none⟩), .pointer (some ⟨rg, 0, none⟩), .agg #[.map (some mb)], .agg #[.int .u8 i.a, .int .u8 i.b, .int .u8 i.c, .int .u8 i.d], .slice na 0 nc] w3 fun e w' => e = .returned (.int .i64 0) ∧ Below w3.heap.size w3 w') := by
    refine (may97_any G gb pb f fb fn rg 0 s mb n i na 0 nc [] w3 h3.given hi h3.c1 h3.lts.1 h3.files h3.r1 h3.lts.2.1 hT3 hn (.inl rfl) rfl (by simp) (by simp)).mono ?_
    rintro e w' ⟨c, rfl, hR, hb⟩
    rcases hR with ⟨hh, _⟩ | ⟨_, hh, _⟩ | ⟨_, _, ⟨x, hx, _⟩, _⟩ | ⟨_, _, _, rfl⟩
    · exact absurd hh hiG
    · omega
    · cases hx
    · exact ⟨rfl, hb⟩
  have m0 : w3.cell? ⟨w2.heap.size, 0, none⟩ = some (.map (some mb)) := by simp [World.cell?, hk3]
  obtain ⟨q0, q1, q2, q3⟩ := cells4_at ((hb2.block _ hs1).trans HK1.out)
  have hs12 := hb2.size
  obtain ⟨qa0, qa1, qa2, qa3⟩ := cells4_at ((hb13.block _ hs1).trans HK1.out)
  rw [hw3] at qa0 qa1 qa2 qa3
  clear q0 q1 q2 q3
  have HK3 := hid hk3
  have HT3 := hid hT3
  have HH3 := hid h3
  have HB13 := hid hb13
  have hs13 := hb13.size
  clear hT2 hT3 h3 hk3 hb23 hb2 hb13 HH
  go_wp2_with fail
  rw [← hw3]
  clear hw3
  refine HM.out.mono ?_
  rintro e w4 ⟨rfl, hb4⟩
  clear HM
  have hk4 := (hb4.block _ hs3).trans HK3.out
  have m4 : w4.cell? ⟨w2.heap.size, 0, none⟩ = some (.map (some mb)) := by simp [World.cell?, hk4]
  have hs4 := hb4.size
  have HH4 := hid (HH3.out.below hb4)
  have HT4 : Hid (TreeAt w4 mb s n) := HT3.out.below hb4 (Nat.le_refl _)
  have HA := hid (HH4.out.allNames hfn HT4.out hn)
  clear qa0 qa1 qa2 qa3 m0
  go_wp2_with fail
  refine HA.out.mono ?_
  rintro e w5 ⟨va, vn, vc, L, rfl, hL5, hm5, hl5, hb5⟩
  clear HA
  have hk5 := (hb5.block _ (by omega)).trans hk4
  have m5 : w5.cell? ⟨w2.heap.size, 0, none⟩ = some (.map (some mb)) := by simp [World.cell?, hk5]
  have hs5 := hb5.size
  have HH5 := hid (HH4.out.below hb5)
  have HT5 : Hid (TreeAt w5 mb s n) := HT4.out.below hb5 (Nat.le_refl _)
  have HC := hid (HH5.out.changed HT5.out hn hfn HOK.out hL5 hm5 hl5)
  clear hL5 hm5 hl5 HH4 HT4 m4
  go_wp2_with fail
  refine HC.out.mono ?_
  rintro e w6 ⟨xa, xc, K, rfl, hF6, hK6, hb6⟩
  clear HC
  have hz6 := HCL.out K hK6
  have hz7 : (chgOf f s K).length = 0 := by rw [hz6]; rfl
  rw [hz7]
  have HB36 : Hid (Below w3.heap.size w3 w6) := (hb4.trans (hb5.mono hs4)).trans (hb6.mono (by omega))
  have HBZ : Hid (Below w.heap.size w w6) := HB1.out.trans ((HB13.out.mono (by omega)).trans (HB36.out.mono (by omega)))
  clear hF6 hz6 hz7 HB36
  go_wp2
  go_ret2
  exact ⟨rfl, HBZ.out⟩

set_option maxRecDepth 100000 in
set_option maxHeartbeats 12800000 in
theorem new48_any (B pb rg cap gb : Nat) (pv : Value) (Ps : List PM) (fb fn : Nat) (f : ByteArray → Option ByteArray) (G : List Pid) (st : Nat → Nat → ByteArray → PL) (cnt : Nat → Nat) (w : World)
    (h : OneAt w B pb rg cap gb pv Ps fb fn f G) (hs : Stands Ps st cnt) (hPs : Ps.length ≤ 40) (hfn : fn ≤ 1000) (hok : RecOK f (st Ps.length 0))
    (htl : ∀ K Cs m, AllOf f (st Ps.length 0) K → MadeAll (st Ps.length 0) ⟨0, 0, 0, 0⟩ (chgOf f (st Ps.length 0) K) Cs m → ∃ t : Nat → ByteArray, (∀ k c, Cs[k]? = some c → TellsP c.2 c.1 (st Ps.length 0 c.1) (t k)) ∧ ∀ k, (t k).size ≤ 1000000) :
    Calls Tryz.prog 66 #[.pointer (some ⟨rg, 0, none⟩)] w fun e w' => ∃ K Cs m t, e = .returned (.string ⟨(toldTo t Cs.length).toArray⟩) ∧ AllOf f (st Ps.length 0) K ∧ MadeAll (st Ps.length 0) ⟨0, 0, 0, 0⟩ (chgOf f (st Ps.length 0) K) Cs m ∧ (∀ k c, Cs[k]? = some c → TellsP c.2 c.1 (st Ps.length 0 c.1) (t k)) ∧ Below w.heap.size w w' := by
  obtain ⟨s, hse⟩ : ∃ s, st Ps.length 0 = s := ⟨_, rfl⟩
  have HK : Hid (Calls Tryz.prog 77 #[.pointer (some ⟨rg, 0, none⟩)] w fun e w' => ∃ mb n, e = .returned (.agg #[.map (some mb)]) ∧ TreeAt w' mb s n ∧ n ≤ 100000 ∧ w.heap.size ≤ mb ∧ Below w.heap.size w w') := by
    have := kept_any hs h.view (by omega) h.r0 h.lts.2.1
    rw [hse] at this
    exact this
  rw [hse] at hok htl
  have HH := hid h
  have HSE := hid hse
  have HOK := hid hok
  have HTL := hid htl
  clear h hs hse hok htl
  go_enter Tryz.func66, Tryz.ntmps66
  go_wp2_with fail
  refine HK.out.mono ?_
  rintro e w2 ⟨mb, n, rfl, hT2, hn, hmb, hb2⟩
  clear HK
  obtain ⟨w3, hw3⟩ : ∃ w3, w3 = w2.alloc (.cells #[.map (some mb)] 121) := ⟨_, rfl⟩
  have hb23 : Below w2.heap.size w2 w3 := by rw [hw3]; exact (Below.refl _ _).alloc (Nat.le_refl _) _
  have hb3 : Below w.heap.size w w3 := hb2.trans (hb23.mono hb2.size)
  have hk3 : w3.heap[w2.heap.size]? = some (.cells #[.map (some mb)] 121 (0, 0)) := by rw [hw3]; exact (MapKept.heap_alloc w2 _).1
  have hs3 : w2.heap.size < w3.heap.size := by rw [hw3]; simp
  have hs2 := hb2.size
  have HX3 := hid hk3
  have HH3 : Hid (OneAt w3.drew B pb rg cap gb pv Ps fb fn f G) := (HH.out.below hb3).drew
  have HT3 : Hid (TreeAt w3.drew mb s n) := (hT2.below hb23 (Nat.le_refl _)).below (Below.refl _ _).drew (Nat.le_refl _)
  have HB3 := hid hb3.drew
  have HS3 : Hid (w3.drew.cell? ⟨w2.heap.size, 0, none⟩ = some (.map (some mb))) := by show w3.cell? _ = _; simp [World.cell?, hk3]
  have HSB : Hid (∀ u, Below w3.heap.size w3.drew u → u.cell? ⟨w2.heap.size, 0, none⟩ = some (.map (some mb))) := fun u hu => (hu.cell (p := ⟨w2.heap.size, 0, none⟩) hs3).trans HS3.out
  have HA := hid (HH3.out.allNames hfn HT3.out hn)
  clear hT2 hb23 hb2 hb3 hk3 HH
  go_wp2_with fail
  rw [← hw3]
  clear hw3
  refine wp_region_Z (fun w' => w'.cell? ⟨w2.heap.size, 0, none⟩ = some (.map (some mb))) 99 (by kernel_rfl) ?_
  refine zt 0 (v := ?v0) HS3.out (fun w0 hS0 => ?hy) ?_
  case hy =>
    go_simp
    with_reducible rfl
  simp only [Act.put, List.setIfInBounds_toArray]
  refine zt 1 (v := ?v1) HS3.out (fun w0 hS0 => ?hy) ?_
  case hy =>
    go_simp
    with_reducible rfl
  simp only [Act.put]
  refine zt 2 (v := ?v2) HS3.out (fun w0 hS0 => ?hy) ?_
  case hy =>
    go_simp
    with_reducible rfl
  simp only [Act.put]
  refine zt 3 (v := ?v3) HS3.out (fun w0 hS0 => ?hy) ?_
  case hy =>
    go_simp
    with_reducible rfl
  simp only [Act.put]
  refine zt 4 (v := ?v4) HS3.out (fun w0 hS0 => ?hy) ?_
  case hy =>
    go_simp
    with_reducible rfl
  simp only [Act.put]
  refine zt 5 (v := ?v5) HS3.out (fun w0 hS0 => ?hy) ?_
  case hy =>
    go_simp
    with_reducible rfl
  simp only [Act.put]
  refine zt 9 (v := ?v9) HS3.out (fun w0 hS0 => ?hy) ?_
  case hy =>
    go_simp
    with_reducible rfl
  simp only [Act.put]
  refine wpZ_one 6 _ rfl (by kernel_rfl) (fun KK hK => ?_)
  go_simp
  refine HA.out.mono ?_
  rintro e w5 ⟨va, vn, vc, L, rfl, hL5, hm5, hl5, hb5⟩
  clear HA
  dsimp only
  refine hK.out _ _ (fun _ => HSB.out w5 hb5) ?_
  clear hK
  have hs5 := hb5.size
  have HH5 := hid (HH3.out.below hb5)
  have HT5 : Hid (TreeAt w5 mb s n) := HT3.out.below hb5 (Nat.le_refl _)
  have HC := hid (HH5.out.changed HT5.out hn hfn HOK.out hL5 hm5 hl5)
  clear hL5 hm5 hl5
  refine wpZ_one 7 _ rfl (by kernel_rfl) (fun KK hK => ?_)
  go_simp
  refine HC.out.mono ?_
  rintro e w6 ⟨xa, xc, K, rfl, hF6, hK6, hb6⟩
  clear HC
  have hb36 : Below w3.heap.size w3.drew w6 := hb5.trans (hb6.mono hs5)
  dsimp only
  refine hK.out _ _ (fun _ => HSB.out w6 hb36) ?_
  clear hK
  obtain ⟨c50, cok⟩ := chg_ok HOK.out hK6
  have hs6 := hb6.size
  have HT6 : Hid (TreeAt w6 mb s n) := HT5.out.below hb6 (Nat.le_refl _)
  have HMK : Hid (Calls Tryz.prog 110 #[.agg #[.int .u8 0, .int .u8 0, .int .u8 0, .int .u8 0], .agg #[.map (some mb)], .slice xa (chgOf f s K).length xc] w6 fun e w' => ∃ ca cn cc Cs m, e = .returned (.agg #[.int .u8 0, .int .u8 0, .int .u8 0, .int .u8 0, .slice ca cn cc]) ∧ CV w' (.slice ca cn cc) Cs ∧ MadeAll s ⟨0, 0, 0, 0⟩ (chgOf f s K) Cs m ∧ Below w6.heap.size w6 w') := by
    refine (make87_any ⟨0, 0, 0, 0⟩ mb n s (chgOf f s K) _ w6 HT6.out hn hF6 c50 cok).mono ?_
    rintro e w' ⟨cv, Cs, m, rfl, g1, g2, g3⟩
    obtain ⟨ca, cc, rfl, g4⟩ := g1
    exact ⟨ca, _, cc, Cs, m, rfl, ⟨ca, cc, rfl, g4⟩, g2, g3⟩
  have HK6 := hid hK6
  obtain ⟨cl, hcl⟩ : ∃ cl, (chgOf f s K).length = cl := ⟨_, rfl⟩
  have HCL := hid hcl
  rw [hcl] at HMK c50 ⊢
  clear hF6 hK6 cok HH5 HT5 hcl
  refine wpZ_one 8 _ rfl (by kernel_rfl) (fun KK hK => ?_)
  go_simp
  refine HMK.out.mono ?_
  rintro e w7 ⟨ca, cn, cc, Cs, m, rfl, hcv7, hma7, hb7⟩
  clear HMK
  have hb37 : Below w3.heap.size w3.drew w7 := hb36.trans (hb7.mono (by have := hb36.size; exact this))
  dsimp only
  refine hK.out _ _ (fun _ => HSB.out w7 hb37) ?_
  clear hK
  obtain ⟨t, ht1, ht2⟩ := HTL.out K Cs m HK6.out hma7
  have HTE := hid ht1
  have HMA := hid hma7
  have hCl : Cs.length ≤ 50 := by rw [hma7.len, HCL.out]; exact c50
  have HTO : Hid (Calls Tryz.prog 113 #[.agg #[.int .u8 0, .int .u8 0, .int .u8 0, .int .u8 0, .slice ca cn cc], .agg #[.map (some mb)]] w7 fun e w' => e = .returned (.string ⟨(toldTo t Cs.length).toArray⟩) ∧ Below w7.heap.size w7 w') := by
    refine told_any ⟨0, 0, 0, 0⟩ hcv7 (HT6.out.below hb7 (Nat.le_refl _)) (by omega) (by omega) (fun c hc => ?_) t ht1 ht2
    obtain ⟨k, hk⟩ := List.mem_iff_getElem?.1 hc
    have hkl : k < (chgOf f s K).length := by rw [← HMA.out.len]; exact (List.getElem?_eq_some_iff.1 hk).1
    have hf := List.getElem?_eq_getElem hkl
    rw [(HMA.out.at_ k _ c hf hk).1]
    exact ((chg_ok HOK.out HK6.out).2 _ (List.getElem_mem hkl)).name
  obtain ⟨T, hTe⟩ : ∃ T, (⟨(toldTo t Cs.length).toArray⟩ : ByteArray) = T := ⟨_, rfl⟩
  rw [hTe] at HTO
  have HTT := hid hTe
  clear hcv7 hma7 ht1 ht2 hTe
  refine wpZ_one 10 _ rfl (by kernel_rfl) (fun KK hK => ?_)
  go_simp
  refine HTO.out.mono ?_
  rintro e w8 ⟨rfl, hb8⟩
  clear HTO
  have hb38 : Below w3.heap.size w3.drew w8 := hb37.trans (hb8.mono (by have := hb37.size; exact this))
  dsimp only
  refine hK.out _ _ (fun _ => HSB.out w8 hb38) ?_
  clear hK
  refine wpZ_one 11 _ rfl (by kernel_rfl) (fun KK hK => ?_)
  go_simp
  refine hK.out _ _ (fun _ => HSB.out w8 hb38) ?_
  clear hK
  refine wpZ_done (by kernel_rfl) ?_ _
  have HBZ : Hid (Below w.heap.size w w8) := HB3.out.trans (hb38.mono (by omega))
  go_wp2
  go_ret
  rw [HSE.out]
  exact ⟨K, Cs, m, t, by rw [HTT.out]; rfl, HK6.out, HMA.out, HTE.out, HBZ.out⟩
end Go.Proofs.YtgdfipmdmgkidaaGreatDoor

/- The contract of the document's own test whether words are a command. -/
namespace Go.Proofs.YtgdfipmdmgkidaaGreatDoor
open Go.RowKit

/-- Which words are a command. -/
def cmdB : List ByteArray → Bool
  | [] => false
  | t :: R => if t = wRecord then recB R else if t = wUnrecord ∨ t = wObliterate ∨ t = wShow ∨ t = wSwap then oneB R else if t = wPull then pullB R else if t = wRevert ∨ t = wNew ∨ t = wLog ∨ t = wOrder then R.isEmpty else false

theorem cmdB_record (R : List ByteArray) : cmdB (wRecord :: R) = recB R := by rw [cmdB, if_pos rfl]
theorem cmdB_one {t : ByteArray} (h : oneW t) (R : List ByteArray) : cmdB (t :: R) = oneB R := by
  rw [cmdB]
  rw [if_neg (by rcases h with rfl | rfl | rfl | rfl <;> decide)]
  exact if_pos h
theorem cmdB_pull (R : List ByteArray) : cmdB (wPull :: R) = pullB R := by
  rw [cmdB]
  rw [if_neg (by decide), if_neg (by decide), if_pos rfl]
theorem cmdB_none {t : ByteArray} (h : noneW t) (R : List ByteArray) : cmdB (t :: R) = R.isEmpty := by
  rw [cmdB]
  rw [if_neg (by rcases h with rfl | rfl | rfl | rfl <;> decide), if_neg (by rcases h with rfl | rfl | rfl | rfl <;> decide), if_neg (by rcases h with rfl | rfl | rfl | rfl <;> decide)]
  exact if_pos h
theorem other_ne {t : ByteArray} {l : List UInt8} (h : (t.toList == l) = false) : t ≠ ⟨l.toArray⟩ := by
  intro e
  rw [e, toList_data] at h
  simp at h
theorem cmdB_other {t : ByteArray} (h : otherW t) (R : List ByteArray) : cmdB (t :: R) = false := by
  have n : ∀ {l : List UInt8}, (t.toList == l) = false → t ≠ ⟨l.toArray⟩ := fun h => other_ne h
  rw [cmdB]
  rw [if_neg (n h.a), if_neg, if_neg (n h.f), if_neg]
  · rintro (e | e | e | e)
    · exact n h.g e
    · exact n h.h e
    · exact n h.i e
    · exact n h.j e
  · rintro (e | e | e | e)
    · exact n h.b e
    · exact n h.c e
    · exact n h.d e
    · exact n h.e e

theorem view_parts {w : World} {ao : Option Addr} {t : ByteArray} {R : List ByteArray} (h : View w ao (t :: R)) :
    ∃ b o, ao = some ⟨b, o, none⟩ ∧ b < w.heap.size ∧ w.cell? ⟨b, o, none⟩ = some (.string t) ∧ ∀ k, k < R.length → w.cell? ⟨b, o + 1 + k, none⟩ = some (.string (R.getD k ByteArray.empty)) := by
  rcases h with h | ⟨b, o, rfl, hb, hc⟩
  · simp at h
  · refine ⟨b, o, rfl, hb, hc 0 (by simp), fun k hk => ?_⟩
    have := hc (k + 1) (by simpa using hk)
    rw [show o + 1 + k = o + (k + 1) by omega]
    simpa using this

theorem cmd26_any (L : List ByteArray) (ao : Option Addr) (cap : Nat) (w : World) (hv : View w ao L) (hcap : L.length ≤ cap) (hlen : L.length ≤ 1000000) :
    Calls Tryz.prog 65 #[.slice ao L.length cap] w fun e w' => e = .returned (.bool (cmdB L)) ∧ Below w.heap.size w w' := by
  match L, hv, hcap, hlen with
  | [], _, _, _ => exact cmd26_empty ao cap w
  | t :: R, hv, hcap, hlen =>
    obtain ⟨b, o, rfl, hb, hc0, hcR⟩ := view_parts hv
    simp only [List.length_cons] at hcap hlen ⊢
    rcases words_all t with h | h | h | h | h
    · subst h; rw [cmdB_record]; exact cmd26_record R b o cap w hb hc0 hcR hcap (by omega)
    · rw [cmdB_one h]; exact cmd26_one t h R b o cap w hc0 hcR hcap (by omega)
    · subst h; rw [cmdB_pull]; exact cmd26_pull R b o cap w hb hc0 hcR hcap (by omega)
    · rw [cmdB_none h]; exact cmd26_none t h R b o cap w hc0 hcap (by omega)
    · rw [cmdB_other h]; exact cmd26_other t h R.length b o cap w hc0 hcap (by omega)

end Go.Proofs.YtgdfipmdmgkidaaGreatDoor

/- The contract of parse.Words. -/
namespace Go.Proofs.YtgdfipmdmgkidaaGreatDoor
open Go.RowKit

def wordsOk (s : ByteArray) : Bool := decide (rcf s 0 ≤ 120) && cmdB (splitAll s)
def wordsOf (s : ByteArray) : List ByteArray := if wordsOk s = true then splitAll s else []
def wordsErr (s : ByteArray) : Int := if wordsOk s = true then 0 else 6

theorem words_no {s : ByteArray} (h : wordsOk s = false) : wordsOf s = [] ∧ wordsErr s = 6 := by unfold wordsOf wordsErr; rw [h]; simp
theorem words_yes {s : ByteArray} (h : wordsOk s = true) : wordsOf s = splitAll s ∧ wordsErr s = 0 := by unfold wordsOf wordsErr; rw [h]; simp
theorem words_long {s : ByteArray} (h : 120 < rcf s 0) : wordsOk s = false := by
  unfold wordsOk
  have : decide (rcf s 0 ≤ 120) = false := by simpa using h
  rw [this]; rfl
theorem words_short {s : ByteArray} (h : ¬ 120 < rcf s 0) : wordsOk s = cmdB (splitAll s) := by
  unfold wordsOk
  have : decide (rcf s 0 ≤ 120) = true := by simpa using h
  rw [this]; rfl
theorem small_of {s : ByteArray} (h : ¬ 120 < rcf s 0) : s.size ≤ 480 := by
  have := size_runes s s.size 0 (by omega)
  omega
theorem own_cap {w : World} {B n size cap : Nat} {e : TypeId} {ao : Option Addr} {xs : List Value} (h : w.ownsRow B e size (.slice ao n cap) n xs) : n ≤ cap := by
  rcases h.2 with ⟨h1, rfl⟩ | ⟨g, cap', cur, h1, _, _, h3, _⟩
  · omega
  · cases h1
    exact h3

set_option maxRecDepth 100000 in
set_option maxHeartbeats 800000 in
theorem words17_any (s : ByteArray) (w : World) :
    Calls Tryz.prog 44 #[.string s] w fun e w' => ∃ v, e = .returned (.tuple #[v, .bool (wordsOk s)]) ∧ w'.ownsRow w.heap.size 9 1 v (wordsOf s).length (strs (wordsOf s)) ∧ Below w.heap.size w w' := by
  by_cases h120 : 120 < rcf s 0
  · have hno := words_long h120
    have HO : Hid (decide (120 < rcf s 0) = true) := by show _ = _; simpa using h120
    rw [(words_no hno).1, hno]
    clear hno h120
    go_enter Tryz.func44, Tryz.ntmps44
    go_wp2_with (go_at_call 63; refine (over_any _ 120 _ (by omega)).mono ?_; rw [HO.out]; rintro e w' ⟨rfl, q, rfl⟩)
    go_ret2
    exact ⟨_, rfl, World.ownsRow_nil _ _ _ _, (Below.refl _ _).alloc (Nat.le_refl _) _⟩
  · have HO : Hid (decide (120 < rcf s 0) = false) := by show _ = _; simpa using h120
    have hsm := small_of h120
    have hlen := splitAll_len s
    have HW := words_short h120
    clear h120
    cases hk : cmdB (splitAll s)
    · rw [hk] at HW
      rw [(words_no HW).1, HW]
      have HK := hid hk
      clear hk HW
      go_enter Tryz.func44, Tryz.ntmps44
      go_wp2_with fail
      refine (over_any _ 120 _ (by omega)).mono ?_
      rw [HO.out]
      rintro e w' ⟨rfl, q, rfl⟩
      have hw1 : Below w.heap.size w (w.iter s q) := (Below.refl _ _).alloc (Nat.le_refl _) _
      generalize w.iter s q = w1 at *
      go_wp2_with fail
      refine (split25_any s w1 (by omega)).mono ?_
      rintro e w2 ⟨v, rfl, hown, hb2⟩
      obtain ⟨ao, cap, rfl⟩ := own_shape hown
      have hcap := own_cap hown
      have hv := View.own hown
      go_wp2_with fail
      refine (cmd26_any _ ao cap w2 hv hcap (by omega)).mono ?_
      rw [HK.out]
      rintro e w3 ⟨rfl, hb3⟩
      go_wp2
      go_ret2
      have hs1 := hw1.size
      have hs2 := hb2.size
      exact ⟨_, rfl, World.ownsRow_nil _ _ _ _, hw1.trans ((hb2.mono hs1).trans (hb3.mono (by omega)))⟩
    · rw [hk] at HW
      rw [(words_yes HW).1, HW]
      have HK := hid hk
      clear hk HW
      go_enter Tryz.func44, Tryz.ntmps44
      go_wp2_with fail
      refine (over_any _ 120 _ (by omega)).mono ?_
      rw [HO.out]
      rintro e w' ⟨rfl, q, rfl⟩
      have hw1 : Below w.heap.size w (w.iter s q) := (Below.refl _ _).alloc (Nat.le_refl _) _
      generalize w.iter s q = w1 at *
      go_wp2_with fail
      refine (split25_any s w1 (by omega)).mono ?_
      rintro e w2 ⟨v, rfl, hown, hb2⟩
      obtain ⟨ao, cap, rfl⟩ := own_shape hown
      have hcap := own_cap hown
      have hv := View.own hown
      go_wp2_with fail
      refine (cmd26_any _ ao cap w2 hv hcap (by omega)).mono ?_
      rw [HK.out]
      rintro e w3 ⟨rfl, hb3⟩
      go_wp2
      go_ret2
      have hs1 := hw1.size
      have hs2 := hb2.size
      exact ⟨_, rfl, ownsRow_mono (own_below hown hb3 (Nat.le_refl _)) hs1, hw1.trans ((hb2.mono hs1).trans (hb3.mono (by omega)))⟩
end Go.Proofs.YtgdfipmdmgkidaaGreatDoor

/- A command is carried out: record of all, new. -/
namespace Go.Proofs.YtgdfipmdmgkidaaGreatDoor
open Go.RowKit

abbrev wdRecord : ByteArray := ⟨#[114, 101, 99, 111, 114, 100]⟩
abbrev wdNew : ByteArray := ⟨#[110, 101, 119]⟩

set_option maxRecDepth 100000 in
set_option maxHeartbeats 3200000 in
theorem carry29_new (pb rg wb wo wn wc : Nat) (w : World) (Q : ByteArray → World → Prop) (hw : w.cell? ⟨wb, wo, none⟩ = some (.string wdNew)) (hwn : 1 ≤ wn)
    (hN : Calls Tryz.prog 66 #[.pointer (some ⟨rg, 0, none⟩)] w fun e w' => ∃ x, e = .returned (.string x) ∧ Q x w') :
    Calls Tryz.prog 45 #[.pointer (some ⟨pb, 0, none⟩), .pointer (some ⟨rg, 0, none⟩), .slice (some ⟨wb, wo, none⟩) wn wc] w fun e w' => ∃ x, e = .returned (.tuple #[.string x, .int .i64 0]) ∧ Q x w' := by
  have HN := hid hN
  clear hN
  have h0 : (0 : Int) < (wn : Int) := by omega
  go_enter Tryz.func45, Tryz.ntmps45
  go_wp2_with fail
  refine HN.out.mono ?_
  rintro e w' ⟨x, rfl, hq⟩
  clear HN
  go_wp2
  go_ret2
  exact ⟨x, rfl, hq⟩

set_option maxRecDepth 100000 in
set_option maxHeartbeats 3200000 in
theorem carry29_record (pb rg wb wo wc : Nat) (a b c d : UInt8) (w : World) (cd : Int) (Q : ByteArray → World → Prop) (hw : w.cell? ⟨wb, wo, none⟩ = some (.string wdRecord)) (hw1 : w.cell? ⟨wb, wo + 1, none⟩ = some (.string ⟨#[a, b, c, d]⟩)) (hwb : TB w wb 9) (hwc : 2 ≤ wc)
    (hN : ∀ u na nc, Below w.heap.size w u → Calls Tryz.prog 72 #[.pointer (some ⟨pb, 0, none⟩), .pointer (some ⟨rg, 0, none⟩), .agg #[.int .u8 a.toNat, .int .u8 b.toNat, .int .u8 c.toNat, .int .u8 d.toNat], .slice na 0 nc] u fun e w' => ∃ x, e = .returned (.tuple #[.string x, .int .i64 cd]) ∧ Q x w' ∧ HeldT (· = 9) u w') :
    Calls Tryz.prog 45 #[.pointer (some ⟨pb, 0, none⟩), .pointer (some ⟨rg, 0, none⟩), .slice (some ⟨wb, wo, none⟩) 2 wc] w fun e w' => ∃ x, e = .returned (.tuple #[.string x, .int .i64 cd]) ∧ Q x w' := by
  have HN := hid hN
  have HI : Hid (Calls Tryz.prog 70 #[.string ⟨#[a, b, c, d]⟩] w.drew fun e w' => e = .returned (.agg #[.int .u8 a.toNat, .int .u8 b.toNat, .int .u8 c.toNat, .int .u8 d.toNat]) ∧ Below w.heap.size w w') := (idOf51_any a b c d w.drew).mono fun e w' h => ⟨h.1, (Below.refl _ w).drew.trans h.2⟩
  have HS0 := hid hw1
  clear hN
  have j1 : (2 : Int) ≤ (wc : Int) := by omega
  have j2 : (wc : Int) ≤ (wc : Int) := Int.le_refl _
  go_enter Tryz.func45, Tryz.ntmps45
  go_wp2_with fail
  refine wp_region_Z (fun w' => w'.cell? ⟨wb, wo + 1, none⟩ = some (.string ⟨#[a, b, c, d]⟩)) 99 (by kernel_rfl) ?_
  refine zt 0 (v := ?v0) HS0.out (fun w0 hS0 => ?hy) ?_
  case hy =>
    go_simp
    with_reducible rfl
  simp only [Act.put, List.setIfInBounds_toArray]
  refine zt 1 (v := ?v1) HS0.out (fun w0 hS0 => ?hy) ?_
  case hy =>
    go_simp
    with_reducible rfl
  simp only [Act.put]
  refine zt 2 (v := ?v2) HS0.out (fun w0 hS0 => ?hy) ?_
  case hy =>
    go_simp
    with_reducible rfl
  simp only [Act.put]
  refine zt 3 (v := ?v3) HS0.out (fun w0 hS0 => ?hy) ?_
  case hy =>
    go_simp
    with_reducible rfl
  simp only [Act.put]
  refine zt 4 (v := ?v4) HS0.out (fun w0 hS0 => ?hy) ?_
  case hy =>
    go_simp
    with_reducible rfl
  simp only [Act.put]
  refine zt 6 (v := ?v6) HS0.out (fun w0 hS0 => ?hy) ?_
  case hy =>
    go_simp
    with_reducible rfl
  simp only [Act.put]
  refine zt 7 (v := ?v7) HS0.out (fun w0 hS0 => ?hy) ?_
  case hy =>
    go_simp
    with_reducible rfl
  simp only [Act.put]
  refine wpZ_one 5 _ rfl (by kernel_rfl) (fun KK hK => ?_)
  go_simp
  refine HI.out.mono ?_
  rintro e w1 ⟨rfl, hb1⟩
  clear HI
  dsimp only
  have c1 : w1.cell? ⟨wb, wo + 1, none⟩ = some (.string ⟨#[a, b, c, d]⟩) := (hb1.cell (p := ⟨wb, wo + 1, none⟩) hwb.lt).trans hw1
  refine hK.out _ _ (fun _ => c1) ?_
  clear hK
  have hwb1 := hwb.below hb1 (Nat.le_refl _)
  refine wpZ_one 8 _ rfl (by kernel_rfl) (fun KK hK => ?_)
  go_simp
  refine (HN.out _ _ _ hb1).mono ?_
  rintro e w2 ⟨x, rfl, hq, hh⟩
  clear HN
  have c2 : w2.cell? ⟨wb, wo + 1, none⟩ = some (.string ⟨#[a, b, c, d]⟩) := (cell_same (hh.keep wb 9 hwb1 rfl) _).trans c1
  dsimp only
  refine hK.out _ _ (fun _ => c2) ?_
  clear hK
  refine zt 9 (v := ?v9) c2 (fun w0 hS0 => ?hy) ?_
  case hy =>
    go_simp
    with_reducible rfl
  simp only [Act.put, List.setIfInBounds_toArray]
  refine zt 10 (v := ?v10) c2 (fun w0 hS0 => ?hy) ?_
  case hy =>
    go_simp
    with_reducible rfl
  simp only [Act.put]
  refine zt 11 (v := ?v11) c2 (fun w0 hS0 => ?hy) ?_
  case hy =>
    go_simp
    with_reducible rfl
  simp only [Act.put]
  refine wpZ_one 12 _ rfl (by kernel_rfl) (fun KK hK => ?_)
  go_simp
  refine hK.out _ _ (fun _ => c2) ?_
  clear hK
  refine wpZ_done (by kernel_rfl) ?_ _
  go_wp2
  all_goals
    go_ret2
    exact ⟨x, rfl, hq⟩
end Go.Proofs.YtgdfipmdmgkidaaGreatDoor

/- The calls of a world of one repository. -/
namespace Go.Proofs.YtgdfipmdmgkidaaGreatDoor
open Go.RowKit

section
variable {B pb rg cap gb : Nat} {pv : Value} {Ps : List PM} {fb fn : Nat} {f : ByteArray → Option ByteArray} {G : List Pid}

set_option maxRecDepth 100000 in
set_option maxHeartbeats 800000 in
theorem has26_zero {w : World} (h : OneAt w B pb rg cap gb pv Ps fb fn f G) : Calls Tryz.prog 42 #[.pointer (some ⟨pb, 0, none⟩), .int .i64 0] w fun e w' => e = .returned (.bool true) ∧ w' = w := by
  have c0 := h.c0
  clear h
  go_enter Tryz.func42, Tryz.ntmps42
  go_wp2
  go_ret
  exact ⟨rfl, rfl⟩

set_option maxRecDepth 100000 in
set_option maxHeartbeats 1600000 in
theorem do12_any {w : World} (h : OneAt w B pb rg cap gb pv Ps fb fn f G) (s : ByteArray) (hs : wordsOk s = true) (Q : ByteArray → Int → World → Prop)
    (hC : ∀ u va vc, Below w.heap.size w u → u.ownsRow w.heap.size 9 1 (.slice va (splitAll s).length vc) (splitAll s).length (strs (splitAll s)) → Calls Tryz.prog 45 #[.pointer (some ⟨pb, 0, none⟩), .pointer (some ⟨rg, 0, none⟩), .slice va (splitAll s).length vc] u fun e w' => ∃ x c, e = .returned (.tuple #[.string x, .int .i64 c]) ∧ Q x c w') :
    Calls Tryz.prog 17 #[.pointer (some ⟨pb, 0, none⟩), .int .i64 0, .string s] w fun e w' => ∃ x c, e = .returned (.tuple #[.string x, .int .i64 c]) ∧ Q x c w' := by
  have HH := has26_zero h
  have HA := hid HH
  have HW : Hid (Calls Tryz.prog 44 #[.string s] w fun e w' => ∃ va vc, e = .returned (.tuple #[.slice va (splitAll s).length vc, .bool true]) ∧ w'.ownsRow w.heap.size 9 1 (.slice va (splitAll s).length vc) (splitAll s).length (strs (splitAll s)) ∧ Below w.heap.size w w') := by
    have := words17_any s w
    rw [hs, (words_yes hs).1] at this
    refine this.mono ?_
    rintro e w' ⟨v, rfl, h1, h2⟩
    obtain ⟨va, vc, rfl⟩ := own_shape h1
    exact ⟨va, vc, rfl, h1, h2⟩
  have HO := hid h
  have HC := hid hC
  have hcap := h.cap1
  obtain ⟨n, hn⟩ : ∃ n, (splitAll s).length = n := ⟨_, rfl⟩
  rw [hn] at HW HC
  clear h HH hC hs hn
  go_enter Tryz.func17, Tryz.ntmps17
  go_wp2_with fail
  refine HA.out.mono ?_
  rintro e w0 ⟨rfl, rfl⟩
  clear HA
  go_wp2_with fail
  refine HW.out.mono ?_
  rintro e w1 ⟨va, vc, rfl, h1, h2⟩
  clear HW
  have hc := HC.out w1 va vc h2 h1
  have HC1 := hid hc
  have c0 := (HO.out.below h2).c0
  clear HC hc h1 h2
  go_wp2_with fail
  refine HC1.out.mono ?_
  rintro e w2 ⟨x, c, rfl, hq⟩
  clear HC1
  go_wp2
  go_ret2
  exact ⟨x, c, rfl, hq⟩

set_option maxRecDepth 100000 in
set_option maxHeartbeats 1600000 in
theorem kept13_alive {w : World} (h : OneAt w B pb rg cap gb pv Ps fb fn f G) {st : Nat → Nat → ByteArray → PL} {cnt : Nat → Nat} (hs : Stands Ps st cnt) (hPs : Ps.length ≤ 1000) (x : ByteArray) (hx : x.size ≤ 1000) (hnm : nameB x = true) (hal : (st Ps.length 0 x).alive = true) (hS : (st Ps.length 0 x).S.length ≤ 1000000) (hT : (rowText (st Ps.length 0 x).S).size ≤ 1000000000) :
    Calls Tryz.prog 18 #[.pointer (some ⟨pb, 0, none⟩), .int .i64 0, .string x] w fun e w' => e = .returned (.tuple #[.string (rowText (st Ps.length 0 x).S), .int .i64 0]) ∧ Below w.heap.size w w' := by
  have HA := hid (has26_zero h)
  have HK : Hid (Calls Tryz.prog 46 #[.pointer (some ⟨rg, 0, none⟩), .string x] w fun e w' => e = .returned (.tuple #[.string (rowText (st Ps.length 0 x).S), .int .i64 0]) ∧ Below w.heap.size w w') :=
    keptText30_alive Ps pv st cnt rg 0 x w h.view (fun u hu v hv => hs.grows ((h.view.below hu (Nat.le_refl _)).below hv (Nat.le_refl _))) (by omega) h.r0 h.lts.2.1 (by omega) hnm hal hS hT
  have c0 := h.c0
  have hcap := h.cap1
  obtain ⟨T, hTe⟩ : ∃ T, rowText (st Ps.length 0 x).S = T := ⟨_, rfl⟩
  rw [hTe] at HK ⊢
  clear h hs hal hS hT hTe
  go_enter Tryz.func18, Tryz.ntmps18
  go_wp2_with fail
  refine HA.out.mono ?_
  rintro e w0 ⟨rfl, rfl⟩
  clear HA
  go_wp2_with fail
  refine HK.out.mono ?_
  rintro e w1 ⟨rfl, h2⟩
  clear HK
  go_wp2
  go_ret2
  exact ⟨rfl, h2⟩
end
end Go.Proofs.YtgdfipmdmgkidaaGreatDoor

/- The command swap: a patch changes places with the one right ahead of it. -/
namespace Go.Proofs.YtgdfipmdmgkidaaGreatDoor
open Go.RowKit

section
variable {w : World} {B pb rg cap gb : Nat} {pv : Value} {Ps : List PM} {fb fn : Nat} {f : ByteArray → Option ByteArray} {G : List Pid}
/-- The list of patches became another one of its own patches, where it lies. -/
theorem OneAt.turned {w1 w2 : World} (h1 : OneAt w1 B pb rg cap gb pv Ps fb fn f G) {Qs : List PM} (hg : w1.grownBy w2 pv.ownBlock) (hown : w2.ownsRow B 149 5 pv Qs.length (pmCells Qs)) (hsub : ∀ P ∈ Qs, P ∈ Ps) :
    OneAt w2 B pb rg cap gb pv Qs fb fn f G ∧ (∀ T : TypeId → Prop, ¬ T 149 → HeldT T w1 w2) ∧ Below B w1 w2 := by
  obtain ⟨l1, l2, l3, l4⟩ := h1.lts
  obtain ⟨A, hA, hA0, hA1⟩ := h1.row
  have tb : ∀ q, pv.ownBlock = some q → TB w1 q 149 := fun q hq => own_TB h1.own hq
  have ne : ∀ {k : Nat} {o : Obj}, w1.heap[k]? = some o → (∀ cs fz, o ≠ .cells cs 149 fz) → ∀ q, pv.ownBlock = some q → k ≠ q := fun hk ho q hq e => by
    subst e
    obtain ⟨cs, fz, hq2⟩ := tb _ hq
    rw [hk] at hq2
    injection hq2 with e
    exact ho cs fz e
  have far : ∀ k, k < w1.heap.size → (∀ q, pv.ownBlock = some q → k ≠ q) → w2.heap[k]? = w1.heap[k]? := fun k hk hq => hg.block k hk (fun e => hq k e.symm rfl)
  have heldT : ∀ T : TypeId → Prop, ¬ T 149 → HeldT T w1 w2 := fun T t1 => HeldT.of_grown hg (fun q hq => ⟨149, tb q hq, t1⟩)
  have held := heldT stuff (by simp [stuff])
  obtain ⟨es1, c1, m1⟩ := h1.given.map
  obtain ⟨es2, c2, m2⟩ := h1.files.map
  refine ⟨⟨h1.lo, (far pb l1 (ne h1.wb (fun cs fz e => by simp at e))).trans h1.wb, ⟨A, (far rg l2 (ne hA (fun cs fz e => by simp at e))).trans hA, hA0, hA1⟩, h1.given.same (far gb l3 (ne m1 (fun cs fz e => by cases e))), hown, fun Q hQ => (h1.chs Q (hsub Q hQ)).held held, h1.files.same (far fb l4 (ne m2 (fun cs fz e => by cases e))), h1.ne, h1.cap1⟩, heldT, ⟨hg.os, hg.tape, hg.output, hg.size, fun k hk => ?_⟩⟩
  by_cases hlt : k < w1.heap.size
  · refine far k hlt (fun q hq e => ?_)
    have := (h1.own.lt q hq).1
    omega
  · have h1' := h1.lo
    omega
/-- What is read of two neighbours. -/
structure PairS (g o : Nat) (P Q : Pid) (pv qv : Value) (w : World) : Prop where
  p0 : w.cell? ⟨g, o, none⟩ = some (.int .u8 P.a)
  p1 : w.cell? ⟨g, o + 1, none⟩ = some (.int .u8 P.b)
  p2 : w.cell? ⟨g, o + 2, none⟩ = some (.int .u8 P.c)
  p3 : w.cell? ⟨g, o + 3, none⟩ = some (.int .u8 P.d)
  p4 : w.cell? ⟨g, o + 4, none⟩ = some pv
  q0 : w.cell? ⟨g, o + 5, none⟩ = some (.int .u8 Q.a)
  q1 : w.cell? ⟨g, o + 5 + 1, none⟩ = some (.int .u8 Q.b)
  q2 : w.cell? ⟨g, o + 5 + 2, none⟩ = some (.int .u8 Q.c)
  q3 : w.cell? ⟨g, o + 5 + 3, none⟩ = some (.int .u8 Q.d)
  q4 : w.cell? ⟨g, o + 5 + 4, none⟩ = some qv
theorem find_at {A C : List PM} {P Q : PM} (hnd : ((A ++ P :: Q :: C).map (·.id)).Nodup) : ((A ++ P :: Q :: C).findIdx? fun R => decide (R.id = Q.id)) = some (A.length + 1) := by
  rw [List.findIdx?_eq_some_iff_getElem]
  have hl : A.length + 1 < (A ++ P :: Q :: C).length := by simp
  have hq : (A ++ P :: Q :: C)[A.length + 1] = Q := by simp
  refine ⟨hl, by rw [hq]; simp, fun j hj => ?_⟩
  simp only [decide_eq_true_eq]
  intro e
  have h1 : ((A ++ P :: Q :: C).map (·.id))[j]'(by simp at hl ⊢; omega) = ((A ++ P :: Q :: C).map (·.id))[A.length + 1]'(by simp) := by
    rw [List.getElem_map, List.getElem_map, hq, e]
  have := (List.getElem_inj hnd).1 h1
  omega
theorem CV.slice_ {w : World} {v : Value} {Cs : List (ByteArray × ChM)} (h : CV w v Cs) : ∃ a n c, v = .slice a n c := by
  obtain ⟨a, c, e, _⟩ := h
  exact ⟨a, _, c, e⟩
set_option maxRecDepth 100000 in
set_option maxHeartbeats 6400000 in
theorem OneAt.swap (h : OneAt w B pb rg cap gb pv Ps fb fn f G) (hB : B ≤ w.heap.size) {A C : List PM} {P Q : PM} (hPs : Ps = A ++ P :: Q :: C) (hnd : (Ps.map (·.id)).Nodup) (hl : Ps.length ≤ 10000) (hsm : ∀ P ∈ Ps, P.Cs.length ≤ 1000 ∧ ∀ d ∈ P.Cs, ChSmall d.2) :
    Calls Tryz.prog 75 #[.pointer (some ⟨rg, 0, none⟩), .agg #[.int .u8 Q.id.a, .int .u8 Q.id.b, .int .u8 Q.id.c, .int .u8 Q.id.d]] w fun e w' =>
      (needsP Q P = true ∧ e = .returned (.tuple #[.string (idText P.id), .int .i64 11]) ∧ Below w.heap.size w w') ∨ (needsP Q P = false ∧ e = .returned (.tuple #[.string ⟨#[]⟩, .int .i64 0]) ∧ OneAt w' B pb rg cap gb pv (A ++ Q :: P :: C) fb fn f G ∧ Below B w w' ∧ HeldT (fun t => t = 9 ∨ t = 53 ∨ t = 45) w w') := by
  obtain ⟨w1, hw1⟩ : ∃ w1, w1 = w.alloc (.cells #[.int .u8 Q.id.a, .int .u8 Q.id.b, .int .u8 Q.id.c, .int .u8 Q.id.d] 113) := ⟨_, rfl⟩
  have hb1 : Below w.heap.size w w1 := by rw [hw1]; exact (Below.refl _ _).alloc (Nat.le_refl _) _
  have hk1 := (MapKept.heap_alloc w (.cells #[.int .u8 Q.id.a, .int .u8 Q.id.b, .int .u8 Q.id.c, .int .u8 Q.id.d] 113)).1
  rw [← hw1] at hk1
  obtain ⟨i0, i1, i2, i3⟩ := cells4_at hk1
  have h1 := h.below hb1
  have hs1 := hb1.size
  have hPm : P ∈ Ps := by rw [hPs]; simp
  have hQm : Q ∈ Ps := by rw [hPs]; simp
  have hfind : (Ps.findIdx? fun R => decide (R.id = Q.id)) = some (A.length + 1) := by rw [hPs] at hnd ⊢; exact find_at hnd
  have hlen : Ps.length = A.length + C.length + 2 := by rw [hPs]; simp; omega
  have hgP : Ps[A.length]? = some P := by rw [hPs]; simp
  have hgQ : Ps[A.length + 1]? = some Q := by rw [hPs]; simp
  have HC : Hid (Calls Tryz.prog 122 #[.pointer (some ⟨rg, 0, none⟩), .agg #[.int .u8 Q.id.a, .int .u8 Q.id.b, .int .u8 Q.id.c, .int .u8 Q.id.d]] w1 fun e w' => e = .returned (.int .i64 (A.length + 1 : Nat)) ∧ Below w1.heap.size w1 w') := by
    have := place122_any Ps pv Q.id rg 0 w1 h1.view hl h1.r0 h1.lts.2.1
    rw [hfind] at this
    exact this
  obtain ⟨g, cp, hpv, hgB, hgs⟩ : ∃ g cp, pv = .slice (some ⟨g, 0, none⟩) Ps.length cp ∧ B ≤ g ∧ Ps.length ≤ cp := by
    obtain ⟨ao, cc, hv⟩ := own_shape h.own
    subst hv
    obtain ⟨g, rfl, k1, _⟩ := own_at h.own (by omega)
    exact ⟨g, cc, rfl, k1, own_cap h.own⟩
  subst hpv
  have HH1 := hid h1
  have HB1 := hid hb1
  have HSM : Hid ((P.Cs.length ≤ 1000 ∧ ∀ d ∈ P.Cs, ChSmall d.2) ∧ (Q.Cs.length ≤ 1000 ∧ ∀ d ∈ Q.Cs, ChSmall d.2)) := ⟨hsm P hPm, hsm Q hQm⟩
  have HPQ : Hid (P ∈ Ps ∧ Q ∈ Ps) := ⟨hPm, hQm⟩
  have HGP := hid hgP
  have HGQ := hid hgQ
  have HPS := hid hPs
  obtain ⟨n, hn⟩ : ∃ n, Ps.length = n := ⟨_, rfl⟩
  obtain ⟨k, hk⟩ : ∃ k, A.length = k := ⟨_, rfl⟩
  rw [hn] at hgs hl
  rw [hn, hk] at hlen
  rw [hk] at HC HGP HGQ
  have hkn : k + 2 ≤ n := by omega
  have HN := hid hn
  have HKA := hid hk
  clear h h1 hb1 hk1 hfind hPs hnd hsm hPm hQm hgP hgQ hlen hn hk
  go_enter Tryz.func75, Tryz.ntmps75
  go_wp2_with fail
  rw [← hw1]
  clear hw1
  go_wp2_with fail
  refine HC.out.mono ?_
  rintro e w2 ⟨rfl, hb2⟩
  clear HC i0 i1 i2 i3
  have h2 := HH1.out.below hb2
  have hs2 := hb2.size
  have HB2 : Hid (Below w.heap.size w w2) := HB1.out.trans (hb2.mono hs1)
  have HH2 := hid h2
  have r0 := h2.r0
  rw [HN.out] at r0
  obtain ⟨pa, pn, pc, hpv⟩ := (h2.chs P HPQ.out.1).slice_
  obtain ⟨qa, qn, qc, hqv⟩ := (h2.chs Q HPQ.out.2).slice_
  have hpair : ∀ u, Below w2.heap.size w2 u → PairS g (k * 5) P.id Q.id (.slice pa pn pc) (.slice qa qn qc) u := fun u hu => by
    have ho := (h2.below hu).own
    obtain ⟨a0, a1, a2, a3, a4⟩ := pm_at ho HGP.out
    obtain ⟨b0, b1, b2, b3, b4⟩ := pm_at ho HGQ.out
    rw [show (k + 1) * 5 = k * 5 + 5 by omega] at b0 b1 b2 b3 b4
    rw [hpv] at a4
    rw [hqv] at b4
    exact ⟨a0, a1, a2, a3, a4, b0, b1, b2, b3, b4⟩
  have HPR := hid hpair
  have HS0 : Hid (PairS g (k * 5) P.id Q.id (.slice pa pn pc) (.slice qa qn qc) w2.drew) := hpair _ (Below.refl _ _).drew
  have hd2 : Below w2.heap.size w2 w2.drew := (Below.refl _ _).drew
  have HND : Hid (Calls Tryz.prog 121 #[.agg #[.int .u8 Q.id.a, .int .u8 Q.id.b, .int .u8 Q.id.c, .int .u8 Q.id.d, .slice qa qn qc], .agg #[.int .u8 P.id.a, .int .u8 P.id.b, .int .u8 P.id.c, .int .u8 P.id.d, .slice pa pn pc]] w2.drew fun e w' => e = .returned (.bool (needsP Q P)) ∧ Below w2.drew.heap.size w2.drew w') := by
    have := needs121_any Q P w2.drew ((h2.below hd2).chs Q HPQ.out.2) HSM.out.2.2 ((h2.below hd2).chs P HPQ.out.1) HSM.out.1.2 HSM.out.2.1 HSM.out.1.1
    unfold pmV at this
    rw [hpv, hqv] at this
    exact this
  have HPV := hid hpv
  have HQV := hid hqv
  have v0 : IntKind.i64.wrap (((k + 1 : Nat) : Int) - 1) = (k : Int) := by simp [IntKind.wrap, IntKind.signed, IntKind.bits]; omega
  have v1 : IntKind.i64.wrap (((k + 1 : Nat) : Int) + 1) = ((k + 2 : Nat) : Int) := by simp [IntKind.wrap, IntKind.signed, IntKind.bits]; omega
  have v2 : ((k + 2 : Nat) : Int) ≤ (cp : Int) := by omega
  have v3 : (k : Int) ≤ ((k + 2 : Nat) : Int) := by omega
  have v4 : ¬ cp = k := by omega
  clear hb2 h2 hpair hpv hqv hd2 HH1 HB1 HPQ HSM
  go_wp2_with fail
  rw [show k + 1 + 1 - k = 2 by omega]
  refine wp_region_Z (PairS g (k * 5) P.id Q.id (.slice pa pn pc) (.slice qa qn qc)) 99 (by kernel_rfl) ?_
  refine zt 0 (v := ?z0) HS0.out (fun w0 hS0 => ?hy) ?_
  case hy => obtain ⟨s0, s1, s2, s3, s4, t0, t1, t2, t3, t4⟩ := hS0; go_simp; with_reducible rfl
  simp only [Act.put, List.setIfInBounds_toArray]
  refine zt 1 (v := ?z1) HS0.out (fun w0 hS0 => ?hy) ?_
  case hy => obtain ⟨s0, s1, s2, s3, s4, t0, t1, t2, t3, t4⟩ := hS0; go_simp; with_reducible rfl
  simp only [Act.put]
  refine zt 2 (v := ?z2) HS0.out (fun w0 hS0 => ?hy) ?_
  case hy => obtain ⟨s0, s1, s2, s3, s4, t0, t1, t2, t3, t4⟩ := hS0; go_simp; with_reducible rfl
  simp only [Act.put]
  refine zt 3 (v := ?z3) HS0.out (fun w0 hS0 => ?hy) ?_
  case hy => obtain ⟨s0, s1, s2, s3, s4, t0, t1, t2, t3, t4⟩ := hS0; go_simp; with_reducible rfl
  simp only [Act.put]
  refine zt 4 (v := ?z4) HS0.out (fun w0 hS0 => ?hy) ?_
  case hy => obtain ⟨s0, s1, s2, s3, s4, t0, t1, t2, t3, t4⟩ := hS0; go_simp; with_reducible rfl
  simp only [Act.put]
  refine zt 5 (v := ?z5) HS0.out (fun w0 hS0 => ?hy) ?_
  case hy => obtain ⟨s0, s1, s2, s3, s4, t0, t1, t2, t3, t4⟩ := hS0; go_simp; with_reducible rfl
  simp only [Act.put]
  refine wpZ_one 6 _ rfl (by kernel_rfl) (fun KK hK => ?_)
  go_simp
  refine HND.out.mono ?_
  rintro e w3 ⟨rfl, hb3⟩
  dsimp only
  have hb23 : Below w2.heap.size w2 w3 := (Below.refl _ w2).drew.trans hb3
  have HS3 := hid (HPR.out w3 hb23)
  refine hK.out _ _ (fun _ => HS3.out) ?_
  clear hK HND
  refine wpZ_done (by kernel_rfl) ?_ _
  have HB3 : Hid (Below w.heap.size w w3) := HB2.out.trans (hb23.mono (by omega))
  have HH3 := hid (HH2.out.below hb23)
  clear hb23 hb3 HH2 HB2 HS0 HPR r0
  cases hnd : needsP Q P with
  | true =>
    have HS := hid (string115_any P.id w3)
    obtain ⟨s0, s1, s2, s3, s4, t0, t1, t2, t3, t4⟩ := HS3.out
    go_wp2_with fail
    refine HS.out.mono ?_
    rintro e w4 ⟨rfl, hb4⟩
    go_wp2_with fail
    go_ret2
    exact .inl ⟨hnd, rfl, HB3.out.trans (hb4.mono HB3.out.size)⟩
  | false =>
    have HR : Hid (Calls Tryz.prog 130 #[.slice (some ⟨g, k * 5, none⟩) 2 (cp - k)] w3 fun e w' => e = .returned (.tuple #[]) ∧ OneAt w' B pb rg cap gb (.slice (some ⟨g, 0, none⟩) Ps.length cp) (A ++ Q :: P :: C) fb fn f G ∧ Below B w w' ∧ HeldT (fun t => t = 9 ∨ t = 53 ∨ t = 45) w w') := by
      refine (rev130_two Ps k g B cp (cp - k) P Q w3 HH3.out.own HGP.out HGQ.out ⟨_, _, _, HPV.out⟩ ⟨_, _, _, HQV.out⟩ (by omega)).mono ?_
      rintro e w' ⟨rfl, k1, k2⟩
      have e1 : (Ps.set k Q).set (k + 1) P = A ++ Q :: P :: C := by
        rw [HPS.out, ← HKA.out]
        simp
      have e2 : (A ++ Q :: P :: C).length = Ps.length := by rw [HPS.out]; simp
      rw [e1] at k1
      have k3 : w'.ownsRow B 149 5 (.slice (some ⟨g, 0, none⟩) Ps.length cp) (A ++ Q :: P :: C).length (pmCells (A ++ Q :: P :: C)) := by rw [e2]; exact k1
      obtain ⟨m1, m2, m3⟩ := HH3.out.turned k2 k3 (fun R hR => by
        rw [HPS.out]
        simp only [List.mem_append, List.mem_cons] at hR ⊢
        rcases hR with h | h | h | h
        · exact .inl h
        · exact .inr (.inr (.inl h))
        · exact .inr (.inl h)
        · exact .inr (.inr (.inr h)))
      exact ⟨rfl, m1, (HB3.out.mono hB).trans m3, (HeldT.of_below HB3.out).trans (m2 _ (by decide))⟩
    clear HS3 HH3 HB3
    go_wp2_with fail
    refine HR.out.mono ?_
    rintro e w4 ⟨rfl, m1, m2, m3⟩
    have HM : Hid (OneAt w4 B pb rg cap gb (.slice (some ⟨g, 0, none⟩) Ps.length cp) (A ++ Q :: P :: C) fb fn f G ∧ Below B w w4 ∧ HeldT (fun t => t = 9 ∨ t = 53 ∨ t = 45) w w4) := ⟨m1, m2, m3⟩
    clear m1 m2 m3 HR
    go_wp2_with fail
    go_ret2
    exact .inr ⟨hnd, rfl, HM.out⟩
end
end Go.Proofs.YtgdfipmdmgkidaaGreatDoor
