/- The contract of record of one name; of a record that is refused. -/
import Derived.Test.YtgdfipmdmgkidaaGreatDoorUfk
import Derived.Test.YtgdfipmdmgkidaaGreatDoorPstand
namespace Go.Proofs.YtgdfipmdmgkidaaGreatDoor
open Go.RowKit
def NameOK (f : ByteArray → Option ByteArray) (s : ByteArray → PL) (x : ByteArray) : Prop := x.size ≤ 1000 ∧ (s x).S.length ≤ 9000 ∧ (rowText (s x).S).size ≤ 1000000000 ∧ FlOK s (flOf f x)
theorem chg1_ok {f : ByteArray → Option ByteArray} {s : ByteArray → PL} {x : ByteArray} (h : NameOK f s x) : (chgOf f s [x]).length ≤ 50 ∧ ∀ g ∈ chgOf f s [x], FlOK s g := by
  constructor
  · unfold chgOf
    rw [List.length_map]
    exact Nat.le_trans (List.length_filter_le _ _) (by simp)
  · intro g hg
    obtain ⟨z, hz, rfl⟩ := List.mem_map.1 hg
    have := (List.mem_filter.1 hz).1
    rw [List.mem_singleton] at this
    subst this
    exact h.2.2.2
section
variable {B pb rg : Nat} {cap : Cfg} {gb : Nat} {pv : Value} {Ps : List PM} {fb fn : Nat} {f : ByteArray → Option ByteArray} {G : List Pid}
theorem OneAt.changed1 {u : World} (h : OneAt u B pb rg cap gb pv Ps fb fn f G) {mb n : Nat} {s : ByteArray → PL} (hT : TreeAt u mb s n) (hn : n ≤ 100000) {x : ByteArray} (hok : NameOK f s x) {nb no nc : Nat} (hv : u.cell? ⟨nb, no, none⟩ = some (.string x)) (hnb : nb < u.heap.size) :
    Calls Tryz.prog 111 #[.pointer (some ⟨rg, cap.r * 2, none⟩), .agg #[.map (some mb)], .slice (some ⟨nb, no, none⟩) 1 nc] u fun e w' => ∃ xa xc, e = .returned (.slice xa (chgOf f s [x]).length xc) ∧ FV w' (.slice xa (chgOf f s [x]).length xc) (chgOf f s [x]) ∧ Below u.heap.size u w' := by
  refine (changed88_any f fb fn rg (cap.r * 2) s mb n (some ⟨nb, no, none⟩) 1 nc [x] u h.files h.r1 h.lts.2.1 hT (by omega) (.inr ⟨nb, no, nc, rfl, hnb, fun j hj => ?_⟩) (by simp) (fun z hz => ?_)).mono ?_
  · have : j = 0 := by simp at hj; omega
    subst this
    exact hv
  · rw [List.mem_singleton] at hz
    subst hz
    obtain ⟨g1, g2, g3, _⟩ := hok
    exact ⟨g1, by omega, g3⟩
  · rintro e w' ⟨v, K, rfl, h1, h2, h3, h4⟩
    have : K = [x] := Srt.ext h2 (List.pairwise_singleton _ _) h3
    subst this
    obtain ⟨xa, xc, rfl, h5⟩ := h1
    exact ⟨xa, xc, rfl, ⟨xa, xc, rfl, h5⟩, h4⟩
end
set_option maxRecDepth 100000 in
set_option maxHeartbeats 12800000 in
theorem record72_name (B pb rg : Nat) (cap : Cfg) (gb : Nat) (pv : Value) (Ps : List PM) (fb fn : Nat) (f : ByteArray → Option ByteArray) (G : List Pid) (st : Nat → Nat → ByteArray → PL) (cnt : Nat → Nat) (i : Pid) (x : ByteArray) (nb no nc : Nat) (w : World)
    (h : OneAt w B pb rg cap gb pv Ps fb fn f G) (hs : Stands Ps st cnt) (hB : B ≤ w.heap.size) (hPs : Ps.length ≤ 40) (_hfn : fn ≤ 1000) (hi : IdOK i) (hiG : i ∉ G) (hG : G.length < 40) (hv : w.cell? ⟨nb, no, none⟩ = some (.string x)) (hnb : nb < w.heap.size) (hth : (f x).isSome = true ∨ (st Ps.length 0 x).alive = true) (hok : NameOK f (st Ps.length 0) x)
    (hne : chgOf f (st Ps.length 0) [x] ≠ [])
    (htl : ∀ Cs m, MadeAll (st Ps.length 0) i (chgOf f (st Ps.length 0) [x]) Cs m → ∃ t : Nat → ByteArray, (∀ k c, Cs[k]? = some c → TellsP c.2 c.1 (st Ps.length 0 c.1) (t k)) ∧ ∀ k, (t k).size ≤ 1000000) :
    Calls Tryz.prog 72 #[.pointer (some ⟨pb, 0, none⟩), .pointer (some ⟨rg, cap.r * 2, none⟩), .agg #[.int .u8 i.a, .int .u8 i.b, .int .u8 i.c, .int .u8 i.d], .slice (some ⟨nb, no, none⟩) 1 nc] w fun e w' =>
      ∃ Cs m t pv' cv, e = .returned (.tuple #[.string ⟨(toldTo t Cs.length).toArray⟩, .int .i64 0]) ∧ MadeAll (st Ps.length 0) i (chgOf f (st Ps.length 0) [x]) Cs m ∧ (∀ k c, Cs[k]? = some c → TellsP c.2 c.1 (st Ps.length 0 c.1) (t k)) ∧ OneAt w' B pb rg cap gb pv' (Ps ++ [⟨i, cv, Cs⟩]) fb fn f (G ++ [i]) ∧ Below B w w' ∧ HeldT (fun t => t = 9 ∨ t = 53) w w' := by
  obtain ⟨i0, hi0, hz0, hz1, hz2⟩ := info_parts Tryz.info149
  obtain ⟨s, hse⟩ : ∃ s, st Ps.length 0 = s := ⟨_, rfl⟩
  obtain ⟨w1, hw1⟩ : ∃ w1, w1 = w.alloc (.cells #[.int .u8 i.a, .int .u8 i.b, .int .u8 i.c, .int .u8 i.d] 113) := ⟨_, rfl⟩
  have hb1 : Below w.heap.size w w1 := by rw [hw1]; exact (Below.refl _ _).alloc (Nat.le_refl _) _
  have hk1 : w1.heap[w.heap.size]? = some (.cells #[.int .u8 i.a, .int .u8 i.b, .int .u8 i.c, .int .u8 i.d] 113 (0, 0)) := by rw [hw1]; exact (MapKept.heap_alloc w _).1
  have hs1 : w.heap.size < w1.heap.size := by rw [hw1]; simp
  have h1 := h.below hb1
  have HQ : ∀ q, pv.ownBlock = some q → q < w.heap.size := fun q hq => (h.own.lt q hq).2
  have HK : Hid (Calls Tryz.prog 77 #[.pointer (some ⟨rg, cap.r * 2, none⟩)] w1 fun e w' => ∃ mb n, e = .returned (.agg #[.map (some mb)]) ∧ TreeAt w' mb s n ∧ n ≤ 100000 ∧ w1.heap.size ≤ mb ∧ Below w1.heap.size w1 w') := by
    have := kept_any hs h1.view (by omega) h1.r0 h1.lts.2.1
    rw [hse] at this
    exact this
  rw [hse] at hok hne htl hth
  have HH := hid h1
  have HK1 := hid hk1
  have HB1 := hid hb1
  have HSE := hid hse
  have HOK := hid hok
  have HNE := hid hne
  have HTH := hid hth
  have HV1 : Hid (w1.cell? ⟨nb, no, none⟩ = some (.string x)) := (hb1.cell (p := ⟨nb, no, none⟩) hnb).trans hv
  have HTL := hid htl
  clear h h1 hk1 hb1 hs hse hok hne htl hth hv
  go_enter Tryz.func72, Tryz.ntmps72
  go_wp2_with fail
  rw [← hw1]
  clear hw1
  refine HK.out.mono ?_
  rintro e w2 ⟨mb, n, rfl, hT2, hn, hmb, hb2⟩
  clear HK
  obtain ⟨w3, hw3⟩ : ∃ w3, w3 = w2.alloc (.cells #[.map (some mb)] 121) := ⟨_, rfl⟩
  have hb23 : Below w2.heap.size w2 w3 := by rw [hw3]; exact (Below.refl _ _).alloc (Nat.le_refl _) _
  have hb13 : Below w1.heap.size w1 w3 := hb2.trans (hb23.mono hb2.size)
  have hk3 : w3.heap[w2.heap.size]? = some (.cells #[.map (some mb)] 121 (0, 0)) := by rw [hw3]; exact (MapKept.heap_alloc w2 _).1
  have hs3 : w2.heap.size < w3.heap.size := by rw [hw3]; simp
  have h3 := HH.out.below hb13
  have hgb1 : gb < w1.heap.size := HH.out.given.lt
  have hrg1 : rg < w1.heap.size := HH.out.lts.2.1
  have hpb1 : pb < w1.heap.size := HH.out.lts.1
  have HQ1 := hid HQ
  have hT3 := hT2.below hb23 (Nat.le_refl _)
  have HM : Hid (Calls Tryz.prog 125 #[.pointer (some ⟨pb, 0, none⟩), .pointer (some ⟨rg, cap.r * 2, none⟩), .agg #[.map (some mb)], .agg #[.int .u8 i.a, .int .u8 i.b, .int .u8 i.c, .int .u8 i.d], .slice (some ⟨nb, no, none⟩) 1 nc] w3 fun e w' => e = .returned (.int .i64 0) ∧ Below w3.heap.size w3 w') := by
    have hvw : View w3 (some ⟨nb, no, none⟩) [x] := .inr ⟨nb, no, rfl, by have := hb13.size; omega, fun k hk => by
      have : k = 0 := by simp at hk; omega
      subst this
      exact (hb13.cell (p := ⟨nb, no, none⟩) (by show nb < w1.heap.size; omega)).trans HV1.out⟩
    refine (may97_any G gb pb f fb fn rg (cap.r * 2) s mb n i (some ⟨nb, no, none⟩) 1 nc [x] w3 h3.given hi h3.c1 h3.lts.1 h3.files h3.r1 h3.lts.2.1 hT3 hn hvw rfl (by simp) (fun z hz => by
      rw [List.mem_singleton] at hz
      subst hz
      obtain ⟨g1, g2, g3, _⟩ := HOK.out
      exact ⟨g1, by omega, g3⟩)).mono ?_
    rintro e w' ⟨c, rfl, hR, hb⟩
    rcases hR with ⟨hh, _⟩ | ⟨_, hh, _⟩ | ⟨_, _, ⟨z, hz, hz1, hz2⟩, _⟩ | ⟨_, _, _, rfl⟩
    · exact absurd hh hiG
    · omega
    · rw [List.mem_singleton] at hz
      subst hz
      rcases HTH.out with hh | hh
      · rw [hz1] at hh; cases hh
      · rw [hz2] at hh; cases hh
    · exact ⟨rfl, hb⟩
  have m0 : w3.cell? ⟨w2.heap.size, 0, none⟩ = some (.map (some mb)) := by simp [World.cell?, hk3]
  obtain ⟨q0, q1, q2, q3⟩ := cells4_at ((hb2.block _ hs1).trans HK1.out)
  have hs12 := hb2.size
  obtain ⟨qa0, qa1, qa2, qa3⟩ := cells4_at ((hb13.block _ hs1).trans HK1.out)
  rw [hw3] at qa0 qa1 qa2 qa3
  clear q0 q1 q2 q3
  have HK3 := hid hk3
  have HT3 := hid hT3
  have HH3 := hid h3
  have HB13 := hid hb13
  have hs13 := hb13.size
  clear hT2 hT3 h3 hk3 hb23 hb2 hb13 HH
  go_wp2_with fail
  rw [← hw3]
  clear hw3
  refine HM.out.mono ?_
  rintro e w4 ⟨rfl, hb4⟩
  clear HM
  have hk4 := (hb4.block _ hs3).trans HK3.out
  have m4 : w4.cell? ⟨w2.heap.size, 0, none⟩ = some (.map (some mb)) := by simp [World.cell?, hk4]
  have hs4 := hb4.size
  have HH4 := hid (HH3.out.below hb4)
  have HT4 : Hid (TreeAt w4 mb s n) := HT3.out.below hb4 (Nat.le_refl _)
  clear qa0 qa1 qa2 qa3 m0
  have HC : Hid (Calls Tryz.prog 111 #[.pointer (some ⟨rg, cap.r * 2, none⟩), .agg #[.map (some mb)], .slice (some ⟨nb, no, none⟩) 1 nc] w4 fun e w' => ∃ xa xc, e = .returned (.slice xa (chgOf f s [x]).length xc) ∧ FV w' (.slice xa (chgOf f s [x]).length xc) (chgOf f s [x]) ∧ Below w4.heap.size w4 w') := by
    have hb14 : Below w1.heap.size w1 w4 := HB13.out.trans (hb4.mono hs13)
    refine HH4.out.changed1 HT4.out hn HOK.out ((hb14.cell (p := ⟨nb, no, none⟩) (by show nb < w1.heap.size; omega)).trans HV1.out) (by have := hb14.size; omega)
  go_wp2_with fail
  refine HC.out.mono ?_
  rintro e w6 ⟨xa, xc, rfl, hF6, hb6⟩
  clear HC
  obtain ⟨c50, cok⟩ := chg1_ok HOK.out
  have hne6 := HNE.out
  have hnz : ((chgOf f s [x]).length : Int) ≠ 0 := by
    intro e
    exact hne6 (List.eq_nil_of_length_eq_zero (by omega))
  have hnb : (((chgOf f s [x]).length : Int) == 0) = false := by simpa using hnz
  have hk6 := (hb6.block _ (by omega)).trans hk4
  have m6 : w6.cell? ⟨w2.heap.size, 0, none⟩ = some (.map (some mb)) := by simp [World.cell?, hk6]
  have hs6 := hb6.size
  have HH6 := hid (HH4.out.below hb6)
  have HT6 : Hid (TreeAt w6 mb s n) := HT4.out.below hb6 (Nat.le_refl _)
  have HB36 : Hid (Below w3.heap.size w3 w6) := hb4.trans (hb6.mono hs4)
  obtain ⟨q0, q1, q2, q3⟩ := cells4_at ((HB36.out.block _ (by omega)).trans ((HB13.out.block _ hs1).trans HK1.out))
  have HMK : Hid (Calls Tryz.prog 110 #[.agg #[.int .u8 i.a, .int .u8 i.b, .int .u8 i.c, .int .u8 i.d], .agg #[.map (some mb)], .slice xa (chgOf f s [x]).length xc] w6 fun e w' => ∃ ca cn cc Cs m, e = .returned (.agg #[.int .u8 i.a, .int .u8 i.b, .int .u8 i.c, .int .u8 i.d, .slice ca cn cc]) ∧ CV w' (.slice ca cn cc) Cs ∧ MadeAll s i (chgOf f s [x]) Cs m ∧ Below w6.heap.size w6 w') := by
    refine (make87_any i mb n s (chgOf f s [x]) _ w6 HT6.out hn hF6 c50 cok).mono ?_
    rintro e w' ⟨cv, Cs, m, rfl, g1, g2, g3⟩
    obtain ⟨ca, cc, rfl, g4⟩ := g1
    exact ⟨ca, _, cc, Cs, m, rfl, ⟨ca, cc, rfl, g4⟩, g2, g3⟩
  obtain ⟨cl, hcl⟩ : ∃ cl, (chgOf f s [x]).length = cl := ⟨_, rfl⟩
  rw [hcl] at hnz hnb HMK c50 ⊢
  have HCL := hid hcl
  clear hF6 cok hne6 HH4 HT4 m4 hcl
  go_wp2_with fail
  refine HMK.out.mono ?_
  rintro e w7 ⟨ca, cn, cc, Cs, m, rfl, hcv7, hma7, hb7⟩
  clear HMK
  dsimp only
  obtain ⟨w8, hw8⟩ : ∃ w8, w8 = w7.alloc (.cells #[.int .u8 i.a, .int .u8 i.b, .int .u8 i.c, .int .u8 i.d, .slice ca cn cc] 149) := ⟨_, rfl⟩
  have hb78 : Below w7.heap.size w7 w8 := by rw [hw8]; exact (Below.refl _ _).alloc (Nat.le_refl _) _
  have hk8 : w8.heap[w7.heap.size]? = some (.cells #[.int .u8 i.a, .int .u8 i.b, .int .u8 i.c, .int .u8 i.d, .slice ca cn cc] 149 (0, 0)) := by rw [hw8]; exact (MapKept.heap_alloc w7 _).1
  have hs8 : w7.heap.size < w8.heap.size := by rw [hw8]; simp
  have hs7 := hb7.size
  have hb68 : Below w6.heap.size w6 w8 := hb7.trans (hb78.mono hs7)
  have h8 := HH6.out.below hb68
  have hi8 := (hb68.block w.heap.size (by omega)).trans ((HB36.out.block _ (by omega)).trans ((HB13.out.block _ hs1).trans HK1.out))
  have HS8 := hid (RecS.of h8.drew hi8 hk8)
  have HH8 := hid h8
  have HK8 := hid hk8
  have HI8 := hid hi8
  have HX8 : Hid (w8.heap[w2.heap.size]? = some (.cells #[.map (some mb)] 121 (0, 0))) := (hb68.block _ (by omega)).trans hk6
  have HT8 : Hid (TreeAt w8 mb s n) := HT6.out.below hb68 (Nat.le_refl _)
  have HCV8 : Hid (CV w8 (.slice ca cn cc) Cs) := hcv7.below hb78 (Nat.le_refl _)
  have HMA := hid hma7
  obtain ⟨w9, hup, hG9, hg9⟩ := h8.drew.given.put hi (by omega) hiG
  have HG9 := hid hG9
  have HGR : Hid (w8.grownBy w9 (some gb)) := ⟨hg9.os, hg9.tape, hg9.output, hg9.size, hg9.block⟩
  have HB8 : Hid (Below B w w8) := (HB1.out.mono hB).trans ((HB13.out.mono (by omega)).trans ((HB36.out.mono (by omega)).trans (hb68.mono (by omega))))
  have HB08 : Hid (Below w.heap.size w w8) := HB1.out.trans ((HB13.out.mono (by omega)).trans ((HB36.out.mono (by omega)).trans (hb68.mono (by omega))))
  unfold idV unitV at hup
  clear hcv7 hma7 hG9 hg9 h8 hi8 hk8 hb68 hb78 hk6 hk4 HH6 HT6 m6 q0 q1 q2 q3
  go_wp2_with fail
  rw [← hw8]
  clear hw8
  refine wp_region_Z (RecS pb rg (cap.r * 2) gb w.heap.size w7.heap.size i pv (.slice ca cn cc)) 6 (by kernel_rfl) ?_
  refine zt 0 (v := ?vHS80) HS8.out (fun w0 hS0 => ?hy) ?_
  case hy => obtain ⟨s1, s2, s3, s4, s5, s6, s7, s8, s9, s10, s11⟩ := hS0; go_simp; with_reducible rfl
  simp only [Act.put, List.setIfInBounds_toArray]
  refine zt 1 (v := ?vHS81) HS8.out (fun w0 hS0 => ?hy) ?_
  case hy => obtain ⟨s1, s2, s3, s4, s5, s6, s7, s8, s9, s10, s11⟩ := hS0; go_simp; with_reducible rfl
  simp only [Act.put]
  refine zt 2 (v := ?vHS82) HS8.out (fun w0 hS0 => ?hy) ?_
  case hy => obtain ⟨s1, s2, s3, s4, s5, s6, s7, s8, s9, s10, s11⟩ := hS0; go_simp; with_reducible rfl
  simp only [Act.put]
  refine zt 3 (v := ?vHS83) HS8.out (fun w0 hS0 => ?hy) ?_
  case hy => obtain ⟨s1, s2, s3, s4, s5, s6, s7, s8, s9, s10, s11⟩ := hS0; go_simp; with_reducible rfl
  simp only [Act.put]
  refine zt 4 (v := ?vHS84) HS8.out (fun w0 hS0 => ?hy) ?_
  case hy => obtain ⟨s1, s2, s3, s4, s5, s6, s7, s8, s9, s10, s11⟩ := hS0; go_simp; with_reducible rfl
  simp only [Act.put]
  refine zt 5 (v := ?vHS85) HS8.out (fun w0 hS0 => ?hy) ?_
  case hy => obtain ⟨s1, s2, s3, s4, s5, s6, s7, s8, s9, s10, s11⟩ := hS0; go_simp; with_reducible rfl
  simp only [Act.put]
  refine wpZ_one 6 _ rfl (by kernel_rfl) (fun KK hK => ?_)
  go_simp
  refine hK.out _ _ (fun h => absurd rfl h) ?_
  clear hK hup
  refine wpZ_done (by kernel_rfl) ?_ _
  have hm8 := HH8.out.given.map
  have h9 : OneAt w9 B pb rg cap gb pv Ps fb fn f (G ++ [i]) := HH8.out.map_put HGR.out hm8 (.inl rfl) HG9.out (HH8.out.files.same (HGR.out.block fb HH8.out.lts.2.2.2 (by simp; exact fun e => HH8.out.ne e.symm)))
  have held9 : Held w8 w9 := HeldT.of_map HGR.out hm8
  have HN89 : Hid (HeldT (fun t => t = 9 ∨ t = 53) w8 w9) := HeldT.of_map HGR.out hm8
  have cell9 : ∀ {k : Nat} {cs : Array Value} {t : TypeId} {fz : Nat × Nat}, w8.heap[k]? = some (.cells cs t fz) → w9.heap[k]? = some (.cells cs t fz) := fun {k cs t fz} hk => by
    refine (HGR.out.block k (Array.getElem?_eq_some_iff.1 hk).1 (fun e => ?_)).trans hk
    injection e with e
    obtain ⟨es, c, hm⟩ := hm8
    rw [e, hm] at hk
    cases hk
  have hk9 := cell9 HK8.out
  have hi9 := cell9 HI8.out
  have hx9 := cell9 HX8.out
  have hsz9 : w8.heap.size ≤ w9.heap.size := HGR.out.size
  have hmbne : mb ≠ gb := fun e => by omega
  have HT9 : Hid (TreeAt w9 mb s n) := HT8.out.held held9.rows (HGR.out.block mb HT8.out.lt (by simpa using hmbne))
  have HCV9 := hid (HCV8.out.held held9)
  have HB9 : Hid (Below B w w9) := HB8.out.trans ⟨HGR.out.os, HGR.out.tape, HGR.out.output, HGR.out.size, fun k hk => HGR.out.block k (by have := HB8.out.size; show k < w8.heap.size; omega) (by have := HH8.out.lo; simp; omega)⟩
  have HS9 := hid (RecS.of h9.drew hi9 hk9)
  have HH9 := hid h9
  have HK9 := hid hk9
  have HX9 := hid hx9
  have HSA : Hid (∀ o, RecS pb rg (cap.r * 2) gb w.heap.size w7.heap.size i pv (.slice ca cn cc) (w9.alloc o).drew) := fun o => by
    have hbo : Below w9.heap.size w9 (w9.alloc o) := (Below.refl _ _).alloc (Nat.le_refl _) _
    exact RecS.of (h9.below hbo).drew ((hbo.block _ (by omega)).trans hi9) ((hbo.block _ (by omega)).trans hk9)
  clear hm8 h9 held9 cell9 hk9 hi9 hx9 HGR HG9 HH8 HT8 HCV8 HK8 HI8 HX8 HS8
  go_wp2_with fail
  refine wp_region_Z (RecS pb rg (cap.r * 2) gb w.heap.size w7.heap.size i pv (.slice ca cn cc)) 10 (by kernel_rfl) ?_
  refine zt 0 (v := ?vHS90) HS9.out (fun w0 hS0 => ?hy) ?_
  case hy => obtain ⟨s1, s2, s3, s4, s5, s6, s7, s8, s9, s10, s11⟩ := hS0; go_simp; with_reducible rfl
  simp only [Act.put, List.setIfInBounds_toArray]
  refine zt 1 (v := ?vHS91) HS9.out (fun w0 hS0 => ?hy) ?_
  case hy => obtain ⟨s1, s2, s3, s4, s5, s6, s7, s8, s9, s10, s11⟩ := hS0; go_simp; with_reducible rfl
  simp only [Act.put]
  refine zt 2 (v := ?vHS92) HS9.out (fun w0 hS0 => ?hy) ?_
  case hy => obtain ⟨s1, s2, s3, s4, s5, s6, s7, s8, s9, s10, s11⟩ := hS0; go_simp; with_reducible rfl
  simp only [Act.put]
  refine zt 3 (v := ?vHS93) HS9.out (fun w0 hS0 => ?hy) ?_
  case hy => obtain ⟨s1, s2, s3, s4, s5, s6, s7, s8, s9, s10, s11⟩ := hS0; go_simp; with_reducible rfl
  simp only [Act.put]
  refine zt 4 (v := ?vHS94) HS9.out (fun w0 hS0 => ?hy) ?_
  case hy => obtain ⟨s1, s2, s3, s4, s5, s6, s7, s8, s9, s10, s11⟩ := hS0; go_simp; with_reducible rfl
  simp only [Act.put]
  refine zt 5 (v := ?vHS95) HS9.out (fun w0 hS0 => ?hy) ?_
  case hy => obtain ⟨s1, s2, s3, s4, s5, s6, s7, s8, s9, s10, s11⟩ := hS0; go_simp; with_reducible rfl
  simp only [Act.put]
  refine wpZ_one 6 _ rfl (by kernel_rfl) (fun KK hK => ?_)
  go_simp
  refine hK.out _ _ (fun _ => HSA.out _) ?_
  clear hK
  refine wpZ_one 7 _ rfl (by kernel_rfl) (fun KK hK => ?_)
  refine step_append_lies _ (by rfl) _ _ _ (by rfl) B 149 i0 _ 5 32 Tryz.underlying84 hi0 hz0 hz1 hz2 rfl (by omega) pv Ps.length (pmCells Ps) (by rfl) (HH9.out.own.alloc _).drew ⟨w9.heap.size, 0, none⟩ 1 1 [.int .u8 i.a, .int .u8 i.b, .int .u8 i.c, .int .u8 i.d, .slice ca cn cc] (by rfl) (by rfl) (World.news_of_block (cs := #[.int .u8 i.a, .int .u8 i.b, .int .u8 i.c, .int .u8 i.d, .slice ca cn cc]) (t := 149) (fr := (0, 0)) (heap_alloc_new w9.drew _)) (by simp [Value.oneCell']) (by omega) (by unfold maxLen; omega) (by omega) (by have := HB9.out.size; simp; omega) (w9.heap.size + 1) (by simp) ?_
  intro g cp wa hownA hgrA hatA hltA
  have hbA : Below w9.heap.size w9 (w9.alloc (.cells #[.int .u8 i.a, .int .u8 i.b, .int .u8 i.c, .int .u8 i.d, .slice ca cn cc] 149)).drew := ((Below.refl _ _).alloc (Nat.le_refl _) _).drew
  obtain ⟨P1, P2, P3⟩ := HH9.out.push (P := ⟨i, .slice ca cn cc, Cs⟩) hbA hgrA (hatA.imp id fun e => by rw [e]; simp) hownA (HCV9.out.below hbA (Nat.le_refl _))
  have hsA : w9.heap.size + 1 ≤ wa.heap.size := by have := hgrA.size; simpa using this
  have farA : ∀ k, w.heap.size ≤ k → k < w9.heap.size → wa.heap[k]? = w9.heap[k]? := fun k hk hk2 => (hgrA.block k (by simp; omega) (fun e => by have := HQ1.out k e.symm; omega)).trans (hbA.block k hk2)
  have typA : ∀ {k : Nat} {cs : Array Value} {t : TypeId} {fz : Nat × Nat}, w9.heap[k]? = some (.cells cs t fz) → t ≠ 149 → wa.heap[k]? = some (.cells cs t fz) := fun {k cs t fz} hk ht => by
    have hkl := (Array.getElem?_eq_some_iff.1 hk).1
    refine (hgrA.block k (by simp; omega) (fun e => ?_)).trans ((hbA.block k hkl).trans hk)
    obtain ⟨A, fz2, hq⟩ := own_TB HH9.out.own e.symm
    rw [hk] at hq
    simp only [Option.some.injEq, Obj.cells.injEq] at hq
    exact ht hq.2.1
  have HSW : Hid (RecS pb rg (cap.r * 2) gb w.heap.size w7.heap.size i pv (.slice ca cn cc) wa) := by
    obtain ⟨A, hA, hA0, hA1⟩ := HH9.out.row
    have e1 := typA HH9.out.wb (by decide)
    have e2 := typA hA (by decide)
    obtain ⟨t1, t2, t3, t4, t5, t6, t7, t8, t9, t10, t11⟩ := HS9.out
    have cN : ∀ o, wa.cell? ⟨w.heap.size, o, none⟩ = w9.cell? ⟨w.heap.size, o, none⟩ := fun o => cell_same (farA _ (Nat.le_refl _) (by omega)) o
    have cM : ∀ o, wa.cell? ⟨w7.heap.size, o, none⟩ = w9.cell? ⟨w7.heap.size, o, none⟩ := fun o => cell_same (farA _ (by omega) (by omega)) o
    exact ⟨by simp [World.cell?, e1], by simp [World.cell?, e2, hA0], (cN 0).trans t3, (cN 1).trans t4, (cN 2).trans t5, (cN 3).trans t6, (cM 0).trans t7, (cM 1).trans t8, (cM 2).trans t9, (cM 3).trans t10, (cM 4).trans t11⟩
  have r0 := HSW.out.r
  have z0 : wa.frozen? ⟨rg, cap.r * 2, none⟩ = false := by
    obtain ⟨A, hA, hA0, hA1⟩ := HH9.out.row
    exact free3 (typA hA (by decide)) _
  obtain ⟨wf, hwf⟩ : ∃ wf, wf = wa.setCell ⟨rg, cap.r * 2, none⟩ (.slice (some ⟨g, 0, none⟩) (Ps.length + 1) cp) := ⟨_, rfl⟩
  rw [← hwf] at P1 P2 P3
  have farF : ∀ k, w1.heap.size ≤ k → k < w9.heap.size → wf.heap[k]? = w9.heap[k]? := fun k hk hk2 => (P3 k (by simp; omega) (by omega) (fun q hq => by have := HQ1.out q hq; omega)).trans (hbA.block k hk2)
  have hkF := (farF w7.heap.size (by omega) (by omega)).trans HK9.out
  have hxF := (farF w2.heap.size (by omega) (by omega)).trans HX9.out
  obtain ⟨d0, d1, d2, d3, d4⟩ := cells5_at hkF
  have mF : wf.cell? ⟨w2.heap.size, 0, none⟩ = some (.map (some mb)) := by simp [World.cell?, hxF]
  have heldF : Held w9 wf := (HeldT.of_below hbA).trans (P2 stuff (by simp [stuff]) (by simp [stuff]))
  have HN9 : Hid (HeldT (fun t => t = 9 ∨ t = 53) w wf) := (HeldT.of_below HB08.out).trans (HN89.out.trans ((HeldT.of_below hbA).trans (P2 _ (by decide) (by decide))))
  have HTF : Hid (TreeAt wf mb s n) := HT9.out.held heldF.rows (farF mb hmb HT9.out.lt)
  have HCF := hid (HCV9.out.held heldF)
  have hszF : wa.heap.size = wf.heap.size := by rw [hwf]; simp [World.setCell]
  have HBF : Hid (Below B w wf) := by
    have h0 := HB9.out
    have h9s := h0.size
    refine h0.trans ⟨?_, ?_, ?_, by omega, fun k hk => ?_⟩
    · rw [hwf]; exact hgrA.os
    · rw [hwf]; exact hgrA.tape
    · rw [hwf]; exact hgrA.output
    · refine (P3 k (by simp; omega) (by have := HH9.out.lo; omega) (fun q hq => ?_)).trans (hbA.block k (by omega))
      have := (HH9.out.own.lt q hq).1
      omega
  have HH1 := hid P1
  obtain ⟨t, ht1, ht2⟩ := HTL.out Cs m HMA.out
  have HTE := hid ht1
  have hCl : Cs.length ≤ 50 := by rw [HMA.out.len, HCL.out]; exact c50
  have HTO : Hid (Calls Tryz.prog 113 #[.agg #[.int .u8 i.a, .int .u8 i.b, .int .u8 i.c, .int .u8 i.d, .slice ca cn cc], .agg #[.map (some mb)]] wf fun e w' => e = .returned (.string ⟨(toldTo t Cs.length).toArray⟩) ∧ Below wf.heap.size wf w') := by
    refine told_any i HCF.out HTF.out (by omega) (by omega) (fun c hc => ?_) t ht1 ht2
    obtain ⟨k, hk⟩ := List.mem_iff_getElem?.1 hc
    have hkl : k < (chgOf f s [x]).length := by rw [← HMA.out.len]; exact (List.getElem?_eq_some_iff.1 hk).1
    have hf := List.getElem?_eq_getElem hkl
    rw [(HMA.out.at_ k _ c hf hk).1]
    exact ((chg1_ok HOK.out).2 _ (List.getElem_mem hkl)).name
  obtain ⟨T, hTe⟩ : ∃ T, (⟨(toldTo t Cs.length).toArray⟩ : ByteArray) = T := ⟨_, rfl⟩
  rw [hTe] at HTO
  have HTT := hid hTe
  refine hK.out _ _ (fun _ => HSW.out) ?_
  clear hK P1 P2 P3 hownA hgrA hatA hltA farA typA heldF HT9 HCV9 HK9 HX9 HH9 HSA hkF hxF ht1 ht2 hTe hbA
  simp only [Act.put, List.setIfInBounds_toArray]
  refine wpZ_one 8 _ rfl (by kernel_rfl) (fun KK hK => ?_)
  go_simp
  refine hK.out _ _ (fun _ => HSW.out) ?_
  clear hK
  refine wpZ_one 9 _ rfl (by kernel_rfl) (fun KK hK => ?_)
  go_simp
  refine hK.out _ _ (fun _ => HSW.out) ?_
  clear hK
  refine wpZ_one 10 _ rfl (by kernel_rfl) (fun KK hK => ?_)
  go_simp
  rw [← hwf]
  refine hK.out _ _ (fun h => absurd rfl h) ?_
  clear hK hwf HSW r0 z0
  refine wpZ_done (by kernel_rfl) ?_ _
  go_wp2_with fail
  refine HTO.out.mono ?_
  rintro e wz ⟨rfl, hbz⟩
  clear HTO
  have HNZ : Hid (HeldT (fun t => t = 9 ∨ t = 53) w wz) := HN9.out.trans (HeldT.of_below hbz)
  have HBZ : Hid (Below B w wz) := HBF.out.trans (hbz.mono (by have := HBF.out.size; omega))
  have HHZ := hid (HH1.out.below hbz)
  go_wp2
  go_ret2
  rw [HSE.out]
  exact ⟨Cs, m, t, _, .slice ca cn cc, by rw [HTT.out]; rfl, HMA.out, HTE.out, HHZ.out, HBZ.out, HNZ.out⟩
end Go.Proofs.YtgdfipmdmgkidaaGreatDoor

/- The contract of record of one name that is clean; of a record that is refused. -/
namespace Go.Proofs.YtgdfipmdmgkidaaGreatDoor
open Go.RowKit
set_option maxRecDepth 100000 in
set_option maxHeartbeats 1600000 in
theorem record72_no (B pb rg : Nat) (cap : Cfg) (gb : Nat) (pv : Value) (Ps : List PM) (fb fn : Nat) (f : ByteArray → Option ByteArray) (G : List Pid) (st : Nat → Nat → ByteArray → PL) (cnt : Nat → Nat) (i : Pid) (na : Option Addr) (nn nc : Nat) (L : List ByteArray) (w : World)
    (h : OneAt w B pb rg cap gb pv Ps fb fn f G) (hs : Stands Ps st cnt) (_hB : B ≤ w.heap.size) (hPs : Ps.length ≤ 40) (_hfn : fn ≤ 1000) (hi : IdOK i) (hv : View w na L) (hnn : nn = L.length) (hL : L.length ≤ 1000) (hx : ∀ x ∈ L, x.size ≤ 1000 ∧ (st Ps.length 0 x).S.length ≤ 1000000 ∧ (rowText (st Ps.length 0 x).S).size ≤ 1000000000) (hno : ∀ c, MayR G f (st Ps.length 0) i L c → c ≠ 0) :
    Calls Tryz.prog 72 #[.pointer (some ⟨pb, 0, none⟩), .pointer (some ⟨rg, cap.r * 2, none⟩), .agg #[.int .u8 i.a, .int .u8 i.b, .int .u8 i.c, .int .u8 i.d], .slice na nn nc] w fun e w' =>
      ∃ c, e = .returned (.tuple #[.string ⟨#[]⟩, .int .i64 c]) ∧ MayR G f (st Ps.length 0) i L c ∧ Below w.heap.size w w' := by
  subst hnn
  obtain ⟨s, hse⟩ : ∃ s, st Ps.length 0 = s := ⟨_, rfl⟩
  obtain ⟨w1, hw1⟩ : ∃ w1, w1 = w.alloc (.cells #[.int .u8 i.a, .int .u8 i.b, .int .u8 i.c, .int .u8 i.d] 113) := ⟨_, rfl⟩
  have hb1 : Below w.heap.size w w1 := by rw [hw1]; exact (Below.refl _ _).alloc (Nat.le_refl _) _
  have hk1 : w1.heap[w.heap.size]? = some (.cells #[.int .u8 i.a, .int .u8 i.b, .int .u8 i.c, .int .u8 i.d] 113 (0, 0)) := by rw [hw1]; exact (MapKept.heap_alloc w _).1
  have hs1 : w.heap.size < w1.heap.size := by rw [hw1]; simp
  have h1 := h.below hb1
  have HK : Hid (Calls Tryz.prog 77 #[.pointer (some ⟨rg, cap.r * 2, none⟩)] w1 fun e w' => ∃ mb n, e = .returned (.agg #[.map (some mb)]) ∧ TreeAt w' mb s n ∧ n ≤ 100000 ∧ w1.heap.size ≤ mb ∧ Below w1.heap.size w1 w') := by
    have := kept_any hs h1.view (by omega) h1.r0 h1.lts.2.1
    rw [hse] at this
    exact this
  rw [hse] at hx hno ⊢
  have HH := hid h1
  have HK1 := hid hk1
  have HB1 := hid hb1
  have HSE := hid hse
  have HNO := hid hno
  have HX := hid hx
  have HV1 := hid (hv.below hb1)
  clear h h1 hk1 hb1 hs hse hx hno hv
  go_enter Tryz.func72, Tryz.ntmps72
  go_wp2_with fail
  rw [← hw1]
  clear hw1
  refine HK.out.mono ?_
  rintro e w2 ⟨mb, n, rfl, hT2, hn, hmb, hb2⟩
  clear HK
  obtain ⟨w3, hw3⟩ : ∃ w3, w3 = w2.alloc (.cells #[.map (some mb)] 121) := ⟨_, rfl⟩
  have hb23 : Below w2.heap.size w2 w3 := by rw [hw3]; exact (Below.refl _ _).alloc (Nat.le_refl _) _
  have hb13 : Below w1.heap.size w1 w3 := hb2.trans (hb23.mono hb2.size)
  have hk3 : w3.heap[w2.heap.size]? = some (.cells #[.map (some mb)] 121 (0, 0)) := by rw [hw3]; exact (MapKept.heap_alloc w2 _).1
  have hs3 : w2.heap.size < w3.heap.size := by rw [hw3]; simp
  have h3 := HH.out.below hb13
  have hgb1 : gb < w1.heap.size := HH.out.given.lt
  have hrg1 : rg < w1.heap.size := HH.out.lts.2.1
  have hpb1 : pb < w1.heap.size := HH.out.lts.1
  have hT3 := hT2.below hb23 (Nat.le_refl _)
  have HM : Hid (Calls Tryz.prog 125 #[.pointer (some ⟨pb, 0, none⟩), .pointer (some ⟨rg, cap.r * 2, none⟩), .agg #[.map (some mb)], .agg #[.int .u8 i.a, .int .u8 i.b, .int .u8 i.c, .int .u8 i.d], .slice na L.length nc] w3 fun e w' => ∃ c, e = .returned (.int .i64 c) ∧ MayR G f s i L c ∧ Below w3.heap.size w3 w') := may97_any G gb pb f fb fn rg (cap.r * 2) s mb n i na L.length nc L w3 h3.given hi h3.c1 h3.lts.1 h3.files h3.r1 h3.lts.2.1 hT3 hn (HV1.out.below hb13) rfl (by omega) HX.out
  have m0 : w3.cell? ⟨w2.heap.size, 0, none⟩ = some (.map (some mb)) := by simp [World.cell?, hk3]
  obtain ⟨q0, q1, q2, q3⟩ := cells4_at ((hb2.block _ hs1).trans HK1.out)
  have hs12 := hb2.size
  obtain ⟨qa0, qa1, qa2, qa3⟩ := cells4_at ((hb13.block _ hs1).trans HK1.out)
  rw [hw3] at qa0 qa1 qa2 qa3
  clear q0 q1 q2 q3
  have HK3 := hid hk3
  have HT3 := hid hT3
  have HH3 := hid h3
  have HB13 := hid hb13
  have hs13 := hb13.size
  clear hT2 hT3 h3 hk3 hb23 hb2 hb13 HH
  go_wp2_with fail
  rw [← hw3]
  clear hw3
  refine HM.out.mono ?_
  rintro e w4 ⟨c, rfl, hR, hb4⟩
  clear HM
  have hc0 := HNO.out c hR
  have hcb : (c != 0) = true := by rw [bne_iff_ne]; exact hc0
  clear hc0
  have HR := hid hR
  have HBZ : Hid (Below w.heap.size w w4) := HB1.out.trans ((HB13.out.mono (by omega)).trans (hb4.mono (by omega)))
  clear hR qa0 qa1 qa2 qa3 m0
  go_wp2
  go_ret2
  exact ⟨c, rfl, HR.out, HBZ.out⟩
end Go.Proofs.YtgdfipmdmgkidaaGreatDoor
