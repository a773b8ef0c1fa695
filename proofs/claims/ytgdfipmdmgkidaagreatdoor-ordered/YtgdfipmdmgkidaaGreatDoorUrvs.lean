/- Two neighbours in a list of patches change places. -/
import Derived.Test.YtgdfipmdmgkidaaGreatDoorNneed
import Derived.Sort.Walk0
namespace Go.Proofs.YtgdfipmdmgkidaaGreatDoor
open Go.RowKit

set_option maxRecDepth 100000 in
set_option maxHeartbeats 6400000 in
theorem rev130_two (L : List PM) (k g base cap vc : Nat) (P Q : PM) (w : World) (ho : w.ownsRow base 149 5 (.slice (some ⟨g, 0, none⟩) L.length cap) L.length (pmCells L)) (hP : L[k]? = some P) (hQ : L[k + 1]? = some Q) (hp : ∃ a n c, P.cv = .slice a n c) (hq : ∃ a n c, Q.cv = .slice a n c) (_hvc : 2 ≤ vc) :
    Calls Tryz.prog 130 #[.slice (some ⟨g, k * 5, none⟩) 2 vc] w fun e w' => e = .returned (.tuple #[]) ∧ w'.ownsRow base 149 5 (.slice (some ⟨g, 0, none⟩) L.length cap) L.length (pmCells ((L.set k Q).set (k + 1) P)) ∧ w.grownBy w' (some g) := by
  obtain ⟨p0, p1, p2, p3, p4⟩ := pm_at ho hP
  obtain ⟨q0, q1, q2, q3, q4⟩ := pm_at ho hQ
  obtain ⟨pa, pn, pc, hpv⟩ := hp
  obtain ⟨qa, qn, qc, hqv⟩ := hq
  rw [hpv] at p4
  rw [hqv] at q4
  have e5 : (k + 1) * 5 = k * 5 + 5 := by omega
  rw [e5] at q0 q1 q2 q3 q4
  clear e5
  have fz := fun x => World.ownsRow.frozenAt ho x
  have f0 := fz (k * 5)
  have f1 := fz (k * 5 + 1)
  have f2 := fz (k * 5 + 2)
  have f3 := fz (k * 5 + 3)
  have f4 := fz (k * 5 + 4)
  have g0 := fz (k * 5 + 5)
  have g1 := fz (k * 5 + 5 + 1)
  have g2 := fz (k * 5 + 5 + 2)
  have g3 := fz (k * 5 + 5 + 3)
  have g4 := fz (k * 5 + 5 + 4)
  have HO := hid ho
  have HPV := hid hpv
  have HQV := hid hqv
  have HK : Hid (k + 1 < L.length) := (List.getElem?_eq_some_iff.1 hQ).1
  clear ho fz hP hQ hpv hqv
  go_enter Tryz.func130, Tryz.ntmps130
  go_wp2_with fail
  go_loopw [2, 3] (fun i j wr => (i = .int .i64 0 ∧ j = .int .i64 1 ∧ wr = w) ∨ (i = .int .i64 1 ∧ j = .int .i64 0 ∧ Hid (wr.ownsRow base 149 5 (.slice (some ⟨g, 0, none⟩) L.length cap) L.length (pmCells ((L.set k Q).set (k + 1) P)) ∧ w.grownBy wr (some g)))) (fun i _ _ => 1 - (intOf i).toNat)
  case atStart => exact .inl ⟨rfl, rfl, rfl⟩
  case round =>
    rcases hrel with ⟨rfl, rfl, rfl⟩ | ⟨rfl, rfl, HF⟩
    · go_wp2_with fail
      go_region
      have HFIN : Hid (((((((((((wr.setCell ⟨g, k * 5, none⟩ (.int .u8 Q.id.a)).setCell ⟨g, k * 5 + 1, none⟩ (.int .u8 Q.id.b)).setCell ⟨g, k * 5 + 2, none⟩ (.int .u8 Q.id.c)).setCell ⟨g, k * 5 + 3, none⟩ (.int .u8 Q.id.d)).setCell ⟨g, k * 5 + 4, none⟩ (.slice qa qn qc)).setCell ⟨g, k * 5 + 5, none⟩ (.int .u8 P.id.a)).setCell ⟨g, k * 5 + 5 + 1, none⟩ (.int .u8 P.id.b)).setCell ⟨g, k * 5 + 5 + 2, none⟩ (.int .u8 P.id.c)).setCell ⟨g, k * 5 + 5 + 3, none⟩ (.int .u8 P.id.d)).setCell ⟨g, k * 5 + 5 + 4, none⟩ (.slice pa pn pc)).drew.ownsRow base 149 5 (.slice (some ⟨g, 0, none⟩) L.length cap) L.length (pmCells ((L.set k Q).set (k + 1) P)) ∧ wr.grownBy (((((((((((wr.setCell ⟨g, k * 5, none⟩ (.int .u8 Q.id.a)).setCell ⟨g, k * 5 + 1, none⟩ (.int .u8 Q.id.b)).setCell ⟨g, k * 5 + 2, none⟩ (.int .u8 Q.id.c)).setCell ⟨g, k * 5 + 3, none⟩ (.int .u8 Q.id.d)).setCell ⟨g, k * 5 + 4, none⟩ (.slice qa qn qc)).setCell ⟨g, k * 5 + 5, none⟩ (.int .u8 P.id.a)).setCell ⟨g, k * 5 + 5 + 1, none⟩ (.int .u8 P.id.b)).setCell ⟨g, k * 5 + 5 + 2, none⟩ (.int .u8 P.id.c)).setCell ⟨g, k * 5 + 5 + 3, none⟩ (.int .u8 P.id.d)).setCell ⟨g, k * 5 + 5 + 4, none⟩ (.slice pa pn pc)).drew) (some g)) := by
        have hk := HK.out
        obtain ⟨o1, r1⟩ := own_set5 (i := k) HO.out (by omega) Q rfl rfl rfl rfl rfl
        rw [HQV.out] at o1 r1
        have el : (L.set k Q).length = L.length := List.length_set
        rw [← el] at o1
        obtain ⟨o2, r2⟩ := own_set5 (i := k + 1) o1 (by rw [el]; exact hk) P rfl rfl rfl rfl rfl
        rw [HPV.out, show (k + 1) * 5 = k * 5 + 5 by omega, el] at o2
        rw [HPV.out, show (k + 1) * 5 = k * 5 + 5 by omega] at r2
        exact ⟨o2.drew, grown_trans (grown_trans r1 r2) (grown_of (Below.refl _ _).drew _)⟩
      clear HO
      generalize ((((((((((wr.setCell ⟨g, k * 5, none⟩ (.int .u8 Q.id.a)).setCell ⟨g, k * 5 + 1, none⟩ (.int .u8 Q.id.b)).setCell ⟨g, k * 5 + 2, none⟩ (.int .u8 Q.id.c)).setCell ⟨g, k * 5 + 3, none⟩ (.int .u8 Q.id.d)).setCell ⟨g, k * 5 + 4, none⟩ (.slice qa qn qc)).setCell ⟨g, k * 5 + 5, none⟩ (.int .u8 P.id.a)).setCell ⟨g, k * 5 + 5 + 1, none⟩ (.int .u8 P.id.b)).setCell ⟨g, k * 5 + 5 + 2, none⟩ (.int .u8 P.id.c)).setCell ⟨g, k * 5 + 5 + 3, none⟩ (.int .u8 P.id.d)).setCell ⟨g, k * 5 + 5 + 4, none⟩ (.slice pa pn pc)).drew = wz at *
      go_wp2
      go_roundw
      case rel => exact .inr ⟨rfl, rfl, HFIN⟩
      case measure => simp [intOf]
    · go_wp2_with fail
      refine bodyPost_end (results_none rfl _ _ _) rfl ?_
      exact ⟨rfl, HF.out⟩
end Go.Proofs.YtgdfipmdmgkidaaGreatDoor

/- The methods of the heap of patches: Len, Less, Swap, Push, Pop. -/
namespace Go.Proofs.YtgdfipmdmgkidaaGreatDoor
open Go.RowKit

/-- The rank of an id among the texts. -/
def pkey (i : Pid) : Int := ((i.a * 256 + i.b) * 256 + i.c) * 256 + i.d
theorem u8_cases {x : Int} (h : 0 ≤ x ∧ x < 256) : ∃ n : UInt8, x = n.toNat := ⟨UInt8.ofNat x.toNat, by
  rw [UInt8.toNat_ofNat']
  omega⟩
theorem id_bytes {i : Pid} (hi : IdOK i) : ∃ a b c d : UInt8, (idText i).toList = [a, b, c, d] ∧ i.a = a.toNat ∧ i.b = b.toNat ∧ i.c = c.toNat ∧ i.d = d.toNat := by
  obtain ⟨h1, h2, h3, h4⟩ := hi
  obtain ⟨a, ha⟩ := u8_cases h1
  obtain ⟨b, hb⟩ := u8_cases h2
  obtain ⟨c, hc⟩ := u8_cases h3
  obtain ⟨d, hd⟩ := u8_cases h4
  refine ⟨a, b, c, d, ?_, ha, hb, hc, hd⟩
  rw [Lib.toList_data]
  unfold idText strOfNums
  rw [ha, hb, hc, hd]
  simp
theorem id_lt {i j : Pid} (hi : IdOK i) (hj : IdOK j) : Op.bytesLess (idText i).toList (idText j).toList = decide (pkey i < pkey j) := by
  obtain ⟨a, b, c, d, e1, ha, hb, hc, hd⟩ := id_bytes hi
  obtain ⟨a', b', c', d', e2, ha', hb', hc', hd'⟩ := id_bytes hj
  rw [e1, e2]
  unfold pkey
  rw [ha, hb, hc, hd, ha', hb', hc', hd']
  simp only [Op.bytesLess]
  rw [Bool.eq_iff_iff]
  simp only [Bool.or_eq_true, Bool.and_eq_true, decide_eq_true_eq, beq_iff_eq, UInt8.lt_iff_toNat_lt, ← UInt8.toNat_inj, Bool.false_eq_true, and_false, or_false]
  have q1 := a.toNat_lt
  have q2 := b.toNat_lt
  have q3 := c.toNat_lt
  have q4 := d.toNat_lt
  have r1 := a'.toNat_lt
  have r2 := b'.toNat_lt
  have r3 := c'.toNat_lt
  have r4 := d'.toNat_lt
  omega

theorem len119_any (a : Option Addr) (n c : Nat) (w : World) : Calls Tryz.prog 119 #[.slice a n c] w fun e w' => e = .returned (.int .i64 n) ∧ w' = w := by
  go_enter Tryz.func119, Tryz.ntmps119
  go_wp2
  go_ret
  exact ⟨rfl, rfl⟩

/-- What Less reads. -/
structure LessS (g i j : Nat) (P Q : Pid) (w : World) : Prop where
  p0 : w.cell? ⟨g, i * 5, none⟩ = some (.int .u8 P.a)
  p1 : w.cell? ⟨g, i * 5 + 1, none⟩ = some (.int .u8 P.b)
  p2 : w.cell? ⟨g, i * 5 + 2, none⟩ = some (.int .u8 P.c)
  p3 : w.cell? ⟨g, i * 5 + 3, none⟩ = some (.int .u8 P.d)
  q0 : w.cell? ⟨g, j * 5, none⟩ = some (.int .u8 Q.a)
  q1 : w.cell? ⟨g, j * 5 + 1, none⟩ = some (.int .u8 Q.b)
  q2 : w.cell? ⟨g, j * 5 + 2, none⟩ = some (.int .u8 Q.c)
  q3 : w.cell? ⟨g, j * 5 + 3, none⟩ = some (.int .u8 Q.d)
set_option maxRecDepth 100000 in
set_option maxHeartbeats 3200000 in
theorem less328_any (L : List PM) (base g cap i j : Nat) (P Q : PM) (w : World) (ho : w.ownsRow base 149 5 (.slice (some ⟨g, 0, none⟩) L.length cap) L.length (pmCells L)) (hP : L[i]? = some P) (hQ : L[j]? = some Q) (hp : IdOK P.id) (hq : IdOK Q.id) :
    Calls Tryz.prog 328 #[.slice (some ⟨g, 0, none⟩) L.length cap, .int .i64 i, .int .i64 j] w fun e w' => e = .returned (.bool (decide (pkey P.id < pkey Q.id))) ∧ Below w.heap.size w w' := by
  have HK : Hid (∀ u, Below w.heap.size w u → LessS g i j P.id Q.id u) := fun u hu => by
    have hu := own_below ho hu (Nat.le_refl _)
    obtain ⟨p0, p1, p2, p3, _⟩ := pm_at hu hP
    obtain ⟨q0, q1, q2, q3, _⟩ := pm_at hu hQ
    exact ⟨p0, p1, p2, p3, q0, q1, q2, q3⟩
  have hi : i < L.length := (List.getElem?_eq_some_iff.1 hP).1
  have hj : j < L.length := (List.getElem?_eq_some_iff.1 hQ).1
  have h1 : (i : Int) < (L.length : Int) := by omega
  have h2 : (j : Int) < (L.length : Int) := by omega
  obtain ⟨A, hA⟩ : ∃ A, idText P.id = A := ⟨_, rfl⟩
  obtain ⟨Z, hZ⟩ : ∃ Z, idText Q.id = Z := ⟨_, rfl⟩
  have hlt := id_lt hp hq
  rw [hA, hZ] at hlt
  have HLT := hid hlt
  have HA : Hid (∀ u, Calls Tryz.prog 115 #[.agg #[.int .u8 P.id.a, .int .u8 P.id.b, .int .u8 P.id.c, .int .u8 P.id.d]] u fun e w' => e = .returned (.string A) ∧ Below u.heap.size u w') := fun u => by rw [← hA]; exact string115_any P.id u
  have HZ : Hid (∀ u, Calls Tryz.prog 115 #[.agg #[.int .u8 Q.id.a, .int .u8 Q.id.b, .int .u8 Q.id.c, .int .u8 Q.id.d]] u fun e w' => e = .returned (.string Z) ∧ Below u.heap.size u w') := fun u => by rw [← hZ]; exact string115_any Q.id u
  have HS0 : Hid (LessS g i j P.id Q.id w.drew) := HK.out _ (Below.refl _ _).drew
  generalize L.length = n at *
  clear ho hP hQ hp hq hlt hA hZ
  go_enter Tryz.func328, Tryz.ntmps328
  go_wp2_with fail
  refine wp_region_Z (LessS g i j P.id Q.id) 99 (by kernel_rfl) ?_
  refine zt 0 (v := ?z0) HS0.out (fun w0 hS0 => ?hy) ?_
  case hy => obtain ⟨s0, s1, s2, s3, t0, t1, t2, t3⟩ := hS0; go_simp; with_reducible rfl
  simp only [Act.put, List.setIfInBounds_toArray]
  refine zt 1 (v := ?z1) HS0.out (fun w0 hS0 => ?hy) ?_
  case hy => obtain ⟨s0, s1, s2, s3, t0, t1, t2, t3⟩ := hS0; go_simp; with_reducible rfl
  simp only [Act.put]
  refine zt 2 (v := ?z2) HS0.out (fun w0 hS0 => ?hy) ?_
  case hy => obtain ⟨s0, s1, s2, s3, t0, t1, t2, t3⟩ := hS0; go_simp; with_reducible rfl
  simp only [Act.put]
  refine zt 3 (v := ?z3) HS0.out (fun w0 hS0 => ?hy) ?_
  case hy => obtain ⟨s0, s1, s2, s3, t0, t1, t2, t3⟩ := hS0; go_simp; with_reducible rfl
  simp only [Act.put]
  refine zt 4 (v := ?z4) HS0.out (fun w0 hS0 => ?hy) ?_
  case hy => obtain ⟨s0, s1, s2, s3, t0, t1, t2, t3⟩ := hS0; go_simp; with_reducible rfl
  simp only [Act.put]
  refine zt 6 (v := ?z6) HS0.out (fun w0 hS0 => ?hy) ?_
  case hy => obtain ⟨s0, s1, s2, s3, t0, t1, t2, t3⟩ := hS0; go_simp; with_reducible rfl
  simp only [Act.put]
  refine zt 7 (v := ?z7) HS0.out (fun w0 hS0 => ?hy) ?_
  case hy => obtain ⟨s0, s1, s2, s3, t0, t1, t2, t3⟩ := hS0; go_simp; with_reducible rfl
  simp only [Act.put]
  refine zt 8 (v := ?z8) HS0.out (fun w0 hS0 => ?hy) ?_
  case hy => obtain ⟨s0, s1, s2, s3, t0, t1, t2, t3⟩ := hS0; go_simp; with_reducible rfl
  simp only [Act.put]
  refine zt 9 (v := ?z9) HS0.out (fun w0 hS0 => ?hy) ?_
  case hy => obtain ⟨s0, s1, s2, s3, t0, t1, t2, t3⟩ := hS0; go_simp; with_reducible rfl
  simp only [Act.put]
  refine zt 10 (v := ?z10) HS0.out (fun w0 hS0 => ?hy) ?_
  case hy => obtain ⟨s0, s1, s2, s3, t0, t1, t2, t3⟩ := hS0; go_simp; with_reducible rfl
  simp only [Act.put]
  refine wpZ_one 5 _ rfl (by kernel_rfl) (fun KK hK => ?_)
  go_simp
  refine (HA.out _).mono ?_
  rintro e w1 ⟨rfl, hb1⟩
  dsimp only
  have hd1 : Below w.heap.size w w1 := ((Below.refl _ _).drew).trans (hb1.mono (Nat.le_refl _))
  refine hK.out _ _ (fun _ => HK.out _ hd1) ?_
  clear hK
  refine wpZ_one 11 _ rfl (by kernel_rfl) (fun KK hK => ?_)
  go_simp
  refine (HZ.out _).mono ?_
  rintro e w2 ⟨rfl, hb2⟩
  dsimp only
  have hd2 : Below w.heap.size w w2 := hd1.trans (hb2.mono hd1.size)
  have HS2 := hid (HK.out _ hd2)
  refine hK.out _ _ (fun _ => HK.out _ hd2) ?_
  clear hK
  refine zt 12 (v := ?z12) HS2.out (fun w0 hS0 => ?hy) ?_
  case hy => obtain ⟨s0, s1, s2, s3, t0, t1, t2, t3⟩ := hS0; go_simp; with_reducible rfl
  simp only [Act.put, List.setIfInBounds_toArray]
  refine zt 13 (v := ?z13) HS2.out (fun w0 hS0 => ?hy) ?_
  case hy => obtain ⟨s0, s1, s2, s3, t0, t1, t2, t3⟩ := hS0; go_simp; with_reducible rfl
  simp only [Act.put]
  go_simp
  refine wpZ_done (by kernel_rfl) ?_ _
  go_wp2
  go_ret
  exact ⟨by rw [← HLT.out]; rfl, hd2⟩

/-- Two of a list change places. -/
def exch (L : List PM) (i j : Nat) (P Q : PM) : List PM := (L.set i Q).set j P
theorem exch_len (L : List PM) (i j : Nat) (P Q : PM) : (exch L i j P Q).length = L.length := by simp [exch]
set_option maxRecDepth 100000 in
set_option maxHeartbeats 6400000 in
theorem swap329_ne (L : List PM) (base g cap i j : Nat) (hij : i ≠ j) (P Q : PM) (w : World) (ho : w.ownsRow base 149 5 (.slice (some ⟨g, 0, none⟩) L.length cap) L.length (pmCells L)) (hP : L[i]? = some P) (hQ : L[j]? = some Q) (hp : ∃ a n c, P.cv = .slice a n c) (hq : ∃ a n c, Q.cv = .slice a n c) :
    Calls Tryz.prog 329 #[.slice (some ⟨g, 0, none⟩) L.length cap, .int .i64 i, .int .i64 j] w fun e w' => e = .returned (.tuple #[]) ∧ w'.ownsRow base 149 5 (.slice (some ⟨g, 0, none⟩) L.length cap) L.length (pmCells (exch L i j P Q)) ∧ w.grownBy w' (some g) := by
  obtain ⟨p0, p1, p2, p3, p4⟩ := pm_at ho hP
  obtain ⟨q0, q1, q2, q3, q4⟩ := pm_at ho hQ
  obtain ⟨pa, pn, pc, hpv⟩ := hp
  obtain ⟨qa, qn, qc, hqv⟩ := hq
  rw [hpv] at p4
  rw [hqv] at q4
  have hi : i < L.length := (List.getElem?_eq_some_iff.1 hP).1
  have hj : j < L.length := (List.getElem?_eq_some_iff.1 hQ).1
  have h1 : (i : Int) < (L.length : Int) := by omega
  have h2 : (j : Int) < (L.length : Int) := by omega
  have fz := fun x => World.ownsRow.frozenAt ho x
  have f0 := fz (i * 5)
  have f1 := fz (i * 5 + 1)
  have f2 := fz (i * 5 + 2)
  have f3 := fz (i * 5 + 3)
  have f4 := fz (i * 5 + 4)
  have g0 := fz (j * 5)
  have g1 := fz (j * 5 + 1)
  have g2 := fz (j * 5 + 2)
  have g3 := fz (j * 5 + 3)
  have g4 := fz (j * 5 + 4)
  have HO := hid ho
  have HPV := hid hpv
  have HQV := hid hqv
  obtain ⟨n, hn⟩ : ∃ n, L.length = n := ⟨_, rfl⟩
  have HN := hid hn
  rw [hn] at h1 h2 hi hj ⊢
  have n00 : ¬ j * 5 = i * 5 := by omega
  have m00 : ¬ i * 5 = j * 5 := by omega
  have n01 : ¬ j * 5 = i * 5 + 1 := by omega
  have m01 : ¬ i * 5 + 1 = j * 5 := by omega
  have n02 : ¬ j * 5 = i * 5 + 2 := by omega
  have m02 : ¬ i * 5 + 2 = j * 5 := by omega
  have n03 : ¬ j * 5 = i * 5 + 3 := by omega
  have m03 : ¬ i * 5 + 3 = j * 5 := by omega
  have n04 : ¬ j * 5 = i * 5 + 4 := by omega
  have m04 : ¬ i * 5 + 4 = j * 5 := by omega
  have n10 : ¬ j * 5 + 1 = i * 5 := by omega
  have m10 : ¬ i * 5 = j * 5 + 1 := by omega
  have n11 : ¬ j * 5 + 1 = i * 5 + 1 := by omega
  have m11 : ¬ i * 5 + 1 = j * 5 + 1 := by omega
  have n12 : ¬ j * 5 + 1 = i * 5 + 2 := by omega
  have m12 : ¬ i * 5 + 2 = j * 5 + 1 := by omega
  have n13 : ¬ j * 5 + 1 = i * 5 + 3 := by omega
  have m13 : ¬ i * 5 + 3 = j * 5 + 1 := by omega
  have n14 : ¬ j * 5 + 1 = i * 5 + 4 := by omega
  have m14 : ¬ i * 5 + 4 = j * 5 + 1 := by omega
  have n20 : ¬ j * 5 + 2 = i * 5 := by omega
  have m20 : ¬ i * 5 = j * 5 + 2 := by omega
  have n21 : ¬ j * 5 + 2 = i * 5 + 1 := by omega
  have m21 : ¬ i * 5 + 1 = j * 5 + 2 := by omega
  have n22 : ¬ j * 5 + 2 = i * 5 + 2 := by omega
  have m22 : ¬ i * 5 + 2 = j * 5 + 2 := by omega
  have n23 : ¬ j * 5 + 2 = i * 5 + 3 := by omega
  have m23 : ¬ i * 5 + 3 = j * 5 + 2 := by omega
  have n24 : ¬ j * 5 + 2 = i * 5 + 4 := by omega
  have m24 : ¬ i * 5 + 4 = j * 5 + 2 := by omega
  have n30 : ¬ j * 5 + 3 = i * 5 := by omega
  have m30 : ¬ i * 5 = j * 5 + 3 := by omega
  have n31 : ¬ j * 5 + 3 = i * 5 + 1 := by omega
  have m31 : ¬ i * 5 + 1 = j * 5 + 3 := by omega
  have n32 : ¬ j * 5 + 3 = i * 5 + 2 := by omega
  have m32 : ¬ i * 5 + 2 = j * 5 + 3 := by omega
  have n33 : ¬ j * 5 + 3 = i * 5 + 3 := by omega
  have m33 : ¬ i * 5 + 3 = j * 5 + 3 := by omega
  have n34 : ¬ j * 5 + 3 = i * 5 + 4 := by omega
  have m34 : ¬ i * 5 + 4 = j * 5 + 3 := by omega
  have n40 : ¬ j * 5 + 4 = i * 5 := by omega
  have m40 : ¬ i * 5 = j * 5 + 4 := by omega
  have n41 : ¬ j * 5 + 4 = i * 5 + 1 := by omega
  have m41 : ¬ i * 5 + 1 = j * 5 + 4 := by omega
  have n42 : ¬ j * 5 + 4 = i * 5 + 2 := by omega
  have m42 : ¬ i * 5 + 2 = j * 5 + 4 := by omega
  have n43 : ¬ j * 5 + 4 = i * 5 + 3 := by omega
  have m43 : ¬ i * 5 + 3 = j * 5 + 4 := by omega
  have n44 : ¬ j * 5 + 4 = i * 5 + 4 := by omega
  have m44 : ¬ i * 5 + 4 = j * 5 + 4 := by omega
  clear ho fz hP hQ hpv hqv hn
  go_enter Tryz.func329, Tryz.ntmps329
  go_wp2_with fail
  go_region
  refine bodyPost_end (results_none rfl _ _ _) rfl ?_
  obtain ⟨o1, r1⟩ := own_set5 (i := i) HO.out (by rw [HN.out]; exact hi) Q rfl rfl rfl rfl rfl
  rw [HQV.out] at o1 r1
  have el : (L.set i Q).length = L.length := List.length_set
  rw [← el] at o1
  obtain ⟨o2, r2⟩ := own_set5 (i := j) o1 (by rw [el, HN.out]; exact hj) P rfl rfl rfl rfl rfl
  rw [HPV.out, el, HN.out] at o2
  rw [HPV.out] at r2
  exact ⟨rfl, o2.drew, grown_trans (grown_trans r1 r2) (grown_of (Below.refl _ _).drew _)⟩
set_option maxRecDepth 100000 in
set_option maxHeartbeats 6400000 in
theorem swap329_eq (L : List PM) (base g cap i : Nat) (P : PM) (w : World) (ho : w.ownsRow base 149 5 (.slice (some ⟨g, 0, none⟩) L.length cap) L.length (pmCells L)) (hP : L[i]? = some P) (hp : ∃ a n c, P.cv = .slice a n c) :
    Calls Tryz.prog 329 #[.slice (some ⟨g, 0, none⟩) L.length cap, .int .i64 i, .int .i64 i] w fun e w' => e = .returned (.tuple #[]) ∧ w'.ownsRow base 149 5 (.slice (some ⟨g, 0, none⟩) L.length cap) L.length (pmCells (exch L i i P P)) ∧ w.grownBy w' (some g) := by
  obtain ⟨p0, p1, p2, p3, p4⟩ := pm_at ho hP
  obtain ⟨pa, pn, pc, hpv⟩ := hp
  rw [hpv] at p4
  have hi : i < L.length := (List.getElem?_eq_some_iff.1 hP).1
  have h1 : (i : Int) < (L.length : Int) := by omega
  have fz := fun x => World.ownsRow.frozenAt ho x
  have f0 := fz (i * 5)
  have f1 := fz (i * 5 + 1)
  have f2 := fz (i * 5 + 2)
  have f3 := fz (i * 5 + 3)
  have f4 := fz (i * 5 + 4)
  have HO := hid ho
  have HPV := hid hpv
  obtain ⟨n, hn⟩ : ∃ n, L.length = n := ⟨_, rfl⟩
  have HN := hid hn
  rw [hn] at h1 hi ⊢
  clear ho fz hP hpv hn
  go_enter Tryz.func329, Tryz.ntmps329
  go_wp2_with fail
  go_region
  refine bodyPost_end (results_none rfl _ _ _) rfl ?_
  obtain ⟨o1, r1⟩ := own_set5 (i := i) HO.out (by rw [HN.out]; exact hi) P rfl rfl rfl rfl rfl
  rw [HPV.out] at o1 r1
  have el : (L.set i P).length = L.length := List.length_set
  rw [← el] at o1
  obtain ⟨o2, r2⟩ := own_set5 (i := i) o1 (by rw [el, HN.out]; exact hi) P rfl rfl rfl rfl rfl
  rw [HPV.out, el, HN.out] at o2
  rw [HPV.out] at r2
  exact ⟨rfl, o2.drew, grown_trans (grown_trans r1 r2) (grown_of (Below.refl _ _).drew _)⟩

theorem swap329_any (L : List PM) (base g cap i j : Nat) (P Q : PM) (w : World) (ho : w.ownsRow base 149 5 (.slice (some ⟨g, 0, none⟩) L.length cap) L.length (pmCells L)) (hP : L[i]? = some P) (hQ : L[j]? = some Q) (hp : ∃ a n c, P.cv = .slice a n c) (hq : ∃ a n c, Q.cv = .slice a n c) :
    Calls Tryz.prog 329 #[.slice (some ⟨g, 0, none⟩) L.length cap, .int .i64 i, .int .i64 j] w fun e w' => e = .returned (.tuple #[]) ∧ w'.ownsRow base 149 5 (.slice (some ⟨g, 0, none⟩) L.length cap) L.length (pmCells (exch L i j P Q)) ∧ w.grownBy w' (some g) := by
  by_cases hij : i = j
  · subst hij
    rw [hP] at hQ
    cases hQ
    exact swap329_eq L base g cap i P w ho hP hp
  · exact swap329_ne L base g cap i j hij P Q w ho hP hQ hp hq
end Go.Proofs.YtgdfipmdmgkidaaGreatDoor

/- Mathematics: the heap of patches, and the order that it tells. -/
namespace Go.Proofs.YtgdfipmdmgkidaaGreatDoor

/-- The rank at a place of a list of patches. -/
def kAt (L : List PM) (i : Nat) : Int := (L[i]?.map (fun P => pkey P.id)).getD 0
theorem kAt_some {L : List PM} {i : Nat} {P : PM} (h : L[i]? = some P) : kAt L i = pkey P.id := by simp [kAt, h]
theorem exch_at {L : List PM} {i j : Nat} {P Q : PM} (hP : L[i]? = some P) (hQ : L[j]? = some Q) (x : Nat) : (exch L i j P Q)[x]? = if x = j then some P else if x = i then some Q else L[x]? := by
  have hi := (List.getElem?_eq_some_iff.1 hP).1
  have hj := (List.getElem?_eq_some_iff.1 hQ).1
  unfold exch
  rw [List.getElem?_set, List.getElem?_set, List.length_set]
  by_cases h1 : j = x
  · subst h1
    simp [hj]
  · have h1' : ¬ x = j := fun e => h1 e.symm
    rw [if_neg h1, if_neg h1']
    by_cases h2 : i = x
    · subst h2
      simp [hi]
    · have h2' : ¬ x = i := fun e => h2 e.symm
      rw [if_neg h2, if_neg h2']
theorem kAt_exch {L : List PM} {i j : Nat} {P Q : PM} (hP : L[i]? = some P) (hQ : L[j]? = some Q) (x : Nat) : kAt (exch L i j P Q) x = if x = j then kAt L i else if x = i then kAt L j else kAt L x := by
  rw [kAt_some hP, kAt_some hQ]
  unfold kAt
  rw [exch_at hP hQ]
  split
  · rfl
  · split <;> rfl
theorem exch_perm {L : List PM} {i j : Nat} {P Q : PM} (hP : L[i]? = some P) (hQ : L[j]? = some Q) : (exch L i j P Q).Perm L := by
  obtain ⟨hi, eP⟩ := List.getElem?_eq_some_iff.1 hP
  obtain ⟨hj, eQ⟩ := List.getElem?_eq_some_iff.1 hQ
  have h := Array.swap_perm (xs := L.toArray) (i := i) (j := j) (by simpa using hi) (by simpa using hj)
  have h2 := h.toList
  rw [Array.toList_swap] at h2
  simpa [exch, eP, eQ] using h2

/-- A heap: none is less than the one above it. -/
def HeapN (L : List PM) (n : Nat) : Prop := ∀ i, 0 < i → i < n → kAt L ((i - 1) / 2) ≤ kAt L i
theorem HeapN.nil (L : List PM) : HeapN L 0 := fun i _ h => absurd h (by omega)
theorem HeapN.least {L : List PM} {n : Nat} (h : HeapN L n) : ∀ i, i < n → kAt L 0 ≤ kAt L i := by
  intro i
  induction i using Nat.strongRecOn with
  | _ i ih =>
    intro hi
    by_cases h0 : i = 0
    · subst h0
      exact Int.le_refl _
    · have h1 := ih ((i - 1) / 2) (by omega) (by omega)
      have h2 := h i (by omega) hi
      omega
/-- While one rises: it stands at j. -/
structure UpI (L : List PM) (j : Nat) : Prop where
  lt : j < L.length
  ok : ∀ i, 0 < i → i < L.length → i ≠ j → kAt L ((i - 1) / 2) ≤ kAt L i
  far : ∀ i, 0 < i → i < L.length → 0 < j → (i - 1) / 2 = j → kAt L ((j - 1) / 2) ≤ kAt L i
theorem UpI.step {L : List PM} {j : Nat} {P Q : PM} (h : UpI L j) (h0 : 0 < j) (hP : L[(j - 1) / 2]? = some P) (hQ : L[j]? = some Q) (hk : kAt L j < kAt L ((j - 1) / 2)) : UpI (exch L ((j - 1) / 2) j P Q) ((j - 1) / 2) := by
  obtain ⟨h1, h2, h3⟩ := h
  obtain ⟨p, hp⟩ : ∃ p, p = (j - 1) / 2 := ⟨_, rfl⟩
  rw [← hp] at hP hk h3 ⊢
  have hpj : p < j := by omega
  have e := kAt_exch hP hQ
  have ej : kAt (exch L p j P Q) j = kAt L p := by rw [e]; simp
  have ep : kAt (exch L p j P Q) p = kAt L j := by rw [e, if_neg (by omega)]; simp
  have eo : ∀ x, x ≠ j → x ≠ p → kAt (exch L p j P Q) x = kAt L x := fun x k1 k2 => by rw [e, if_neg k1, if_neg k2]
  refine ⟨by rw [exch_len]; omega, fun i i0 il ip => ?_, fun i i0 il p0 ip => ?_⟩
  · rw [exch_len] at il
    by_cases c1 : i = j
    · subst c1
      rw [ej, ← hp, ep]
      omega
    · rw [eo i c1 ip]
      by_cases c2 : (i - 1) / 2 = j
      · rw [c2, ej]
        exact h3 i i0 il h0 c2
      · have h4 := h2 i i0 il c1
        by_cases c3 : (i - 1) / 2 = p
        · rw [c3] at h4 ⊢
          rw [ep]
          omega
        · rw [eo _ c2 c3]
          exact h4
  · rw [exch_len] at il
    have k1 : (p - 1) / 2 ≠ j := by omega
    have k2 : (p - 1) / 2 ≠ p := by omega
    rw [eo _ k1 k2]
    have h5 := h2 p p0 (by omega) (by omega)
    by_cases c1 : i = j
    · subst c1
      rw [ej]
      exact h5
    · have h4 := h2 i i0 il c1
      rw [ip] at h4
      rw [eo i c1 (by omega)]
      omega
theorem UpI.end_ {L : List PM} {j : Nat} (h : UpI L j) (hk : j = 0 ∨ kAt L ((j - 1) / 2) ≤ kAt L j) : HeapN L L.length := by
  intro i i0 il
  by_cases c : i = j
  · subst c
    rcases hk with k | k
    · omega
    · exact k
  · exact h.ok i i0 il c
theorem kAt_append {L : List PM} {P : PM} {i : Nat} (h : i < L.length) : kAt (L ++ [P]) i = kAt L i := by
  unfold kAt
  rw [List.getElem?_append_left h]
theorem UpI.first {L : List PM} (h : HeapN L L.length) (P : PM) : UpI (L ++ [P]) L.length := by
  refine ⟨by simp, fun i i0 il ij => ?_, fun i i0 il _ ip => ?_⟩
  · simp only [List.length_append, List.length_singleton] at il
    rw [kAt_append (by omega), kAt_append (by omega)]
    exact h i i0 (by omega)
  · simp only [List.length_append, List.length_singleton] at il
    omega
/-- While one sinks among the first n: it stands at i. -/
structure DownI (L : List PM) (n i : Nat) : Prop where
  le : n ≤ L.length
  ok : ∀ c, 0 < c → c < n → (c - 1) / 2 ≠ i → kAt L ((c - 1) / 2) ≤ kAt L c
  far : ∀ c, 0 < c → c < n → 0 < i → (c - 1) / 2 = i → kAt L ((i - 1) / 2) ≤ kAt L c
theorem DownI.step {L : List PM} {n i j : Nat} {P Q : PM} (h : DownI L n i) (hj : 0 < j) (hjn : j < n) (hji : (j - 1) / 2 = i) (hP : L[i]? = some P) (hQ : L[j]? = some Q) (hk : kAt L j < kAt L i) (hl : ∀ c, 0 < c → c < n → (c - 1) / 2 = i → kAt L j ≤ kAt L c) : DownI (exch L i j P Q) n j := by
  obtain ⟨h1, h2, h3⟩ := h
  have e := kAt_exch hP hQ
  have hij : i < j := by omega
  have ej : kAt (exch L i j P Q) j = kAt L i := by rw [e]; simp
  have ei : kAt (exch L i j P Q) i = kAt L j := by rw [e, if_neg (by omega)]; simp
  have eo : ∀ x, x ≠ j → x ≠ i → kAt (exch L i j P Q) x = kAt L x := fun x k1 k2 => by rw [e, if_neg k1, if_neg k2]
  refine ⟨by rw [exch_len]; omega, fun c c0 cn cj => ?_, fun c c0 cn _ cj => ?_⟩
  · by_cases d1 : (c - 1) / 2 = i
    · rw [d1, ei]
      by_cases d2 : c = j
      · subst d2
        rw [ej]
        omega
      · rw [eo c d2 (by omega)]
        exact hl c c0 cn d1
    · rw [eo _ cj d1]
      by_cases d2 : c = j
      · subst d2
        omega
      · by_cases d3 : c = i
        · subst d3
          rw [ei]
          exact h3 j hj hjn (by omega) hji
        · rw [eo c d2 d3]
          exact h2 c c0 cn d1
  · rw [hji, ei, eo c (by omega) (by omega)]
    have := h2 c c0 cn (by omega)
    rw [cj] at this
    exact this
theorem DownI.end_ {L : List PM} {n i : Nat} (h : DownI L n i) (hk : ∀ c, 0 < c → c < n → (c - 1) / 2 = i → kAt L i ≤ kAt L c) : HeapN L n := by
  intro c c0 cn
  by_cases d : (c - 1) / 2 = i
  · rw [d]
    exact hk c c0 cn d
  · exact h.ok c c0 cn d
theorem DownI.first {L : List PM} {n : Nat} {P Q : PM} (h : HeapN L L.length) (hl : L.length = n + 1) (hP : L[0]? = some P) (hQ : L[n]? = some Q) : DownI (exch L 0 n P Q) n 0 := by
  have e := kAt_exch hP hQ
  refine ⟨by rw [exch_len]; omega, fun c c0 cn cj => ?_, fun c c0 cn k _ => absurd k (by omega)⟩
  rw [e, e, if_neg (by omega), if_neg (by omega), if_neg (by omega), if_neg (by omega)]
  exact h c c0 (by omega)
theorem kAt_take {L : List PM} {n i : Nat} (h : i < n) : kAt (L.take n) i = kAt L i := by
  unfold kAt
  rw [List.getElem?_take, if_pos h]
theorem HeapN.take {L : List PM} {n : Nat} (h : HeapN L n) (hn : n ≤ L.length) : HeapN (L.take n) (L.take n).length := by
  intro i i0 il
  rw [List.length_take] at il
  rw [kAt_take (by omega), kAt_take (by omega)]
  exact h i i0 (by omega)

/-- O tells patches of S, each behind what it needs, always the least of those that may come. -/
def Least (S : List PM) (N : PM → PM → Prop) (O : List PM) : Prop := ∀ k P, O[k]? = some P → (∀ q ∈ S, N P q → q ∈ O.take k) ∧ ∀ Q ∈ S, Q ∉ O.take k → (∀ q ∈ S, N Q q → q ∈ O.take k) → pkey P.id ≤ pkey Q.id
theorem Least.same {S S' : List PM} {N : PM → PM → Prop} {O O' : List PM} (h : Least S N O) (h' : Least S' N O') (hp : O.Perm S) (hp' : O'.Perm S') (hs : S.Perm S') (hnd : O.Nodup) (hnd' : O'.Nodup) (hinj : ∀ P ∈ S, ∀ Q ∈ S, pkey P.id = pkey Q.id → P = Q) : O = O' := by
  have hl : O.length = O'.length := hp.length_eq.trans (hs.length_eq.trans hp'.length_eq.symm)
  have hm : ∀ P, P ∈ S ↔ P ∈ S' := fun P => hs.mem_iff
  have nin : ∀ {X : List PM} {k : Nat} {P : PM}, X.Nodup → X[k]? = some P → P ∉ X.take k := fun {X k P} hX hk hP => by
    obtain ⟨j, hj⟩ := List.mem_iff_getElem?.1 hP
    rw [List.getElem?_take] at hj
    split at hj
    · rename_i hjk
      have := (List.getElem?_inj (List.getElem?_eq_some_iff.1 hj).1 hX).1 (hj.trans hk.symm)
      omega
    · cases hj
  have key : ∀ k, k ≤ O.length → O.take k = O'.take k := by
    intro k
    induction k with
    | zero => intro _; simp
    | succ k ih =>
      intro hk
      have ih := ih (by omega)
      have hP := List.getElem?_eq_getElem (l := O) (i := k) (by omega)
      have hQ := List.getElem?_eq_getElem (l := O') (i := k) (by omega)
      obtain ⟨P, hPe⟩ : ∃ P, O[k] = P := ⟨_, rfl⟩
      obtain ⟨Q, hQe⟩ : ∃ Q, O'[k] = Q := ⟨_, rfl⟩
      rw [hPe] at hP
      rw [hQe] at hQ
      obtain ⟨a1, a2⟩ := h k P hP
      obtain ⟨b1, b2⟩ := h' k Q hQ
      have pS : P ∈ S := hp.mem_iff.1 (List.mem_of_getElem? hP)
      have qS : Q ∈ S' := hp'.mem_iff.1 (List.mem_of_getElem? hQ)
      have l1 := a2 Q ((hm Q).2 qS) (by rw [ih]; exact nin hnd' hQ) (fun q hq hN => by rw [ih]; exact b1 q ((hm q).1 hq) hN)
      have l2 := b2 P ((hm P).1 pS) (by rw [← ih]; exact nin hnd hP) (fun q hq hN => by rw [← ih]; exact a1 q ((hm q).2 hq) hN)
      have e := hinj P pS Q ((hm Q).2 qS) (by omega)
      rw [List.take_add_one, List.take_add_one, ih, hP, hQ, e]
  have := key O.length (Nat.le_refl _)
  rw [List.take_length, hl, List.take_length] at this
  exact this
open Classical in
/-- How many of S that Q needs are not told in O. -/
noncomputable def cntN (S : List PM) (N : PM → PM → Prop) (O : List PM) (Q : PM) : Nat := (S.filter fun q => decide (N Q q ∧ q ∉ O)).length
theorem cntN_zero {S : List PM} {N : PM → PM → Prop} {O : List PM} {Q : PM} : cntN S N O Q = 0 ↔ ∀ q ∈ S, N Q q → q ∈ O := by
  classical
  unfold cntN
  rw [List.length_eq_zero_iff, List.filter_eq_nil_iff]
  simp only [decide_eq_true_eq, not_and, Classical.not_not]
theorem cntN_le (S : List PM) (N : PM → PM → Prop) (O : List PM) (Q : PM) : cntN S N O Q ≤ S.length := List.length_filter_le _ _
theorem cntN_no {S : List PM} {N : PM → PM → Prop} {O : List PM} {P Q : PM} (hn : ¬ N Q P) : cntN S N (O ++ [P]) Q = cntN S N O Q := by
  classical
  unfold cntN
  congr 1
  apply List.filter_congr
  intro q _
  by_cases e : q = P
  · subst e
    simp [hn]
  · simp [e]
theorem cntN_yes {S : List PM} {N : PM → PM → Prop} {O : List PM} {P Q : PM} (hS : S.Nodup) (hP : P ∈ S) (hO : P ∉ O) (hn : N Q P) : cntN S N O Q = cntN S N (O ++ [P]) Q + 1 := by
  classical
  unfold cntN
  induction S with
  | nil => cases hP
  | cons a S ih =>
    obtain ⟨ha, hS'⟩ := List.nodup_cons.1 hS
    rcases List.mem_cons.1 hP with rfl | hP'
    · have h1 : N Q P ∧ P ∉ O := ⟨hn, hO⟩
      have h2 : ¬ (N Q P ∧ P ∉ O ++ [P]) := by simp
      have h3 : S.filter (fun q => decide (N Q q ∧ q ∉ O)) = S.filter (fun q => decide (N Q q ∧ q ∉ O ++ [P])) := by
        apply List.filter_congr
        intro q hq
        have e : q ≠ P := fun e => ha (e ▸ hq)
        simp [e]
      rw [List.filter_cons, List.filter_cons, if_pos (decide_eq_true h1), if_neg (by rw [decide_eq_true_eq]; exact h2), List.length_cons, h3]
    · have e : a ≠ P := fun e => ha (e ▸ hP')
      have ih := ih hS' hP'
      rw [List.filter_cons, List.filter_cons]
      by_cases h2 : N Q a ∧ a ∉ O
      · have h3 : N Q a ∧ a ∉ O ++ [P] := ⟨h2.1, by simpa [e] using h2.2⟩
        rw [if_pos (decide_eq_true h2), if_pos (decide_eq_true h3), List.length_cons, List.length_cons, ih]
      · have h3 : ¬ (N Q a ∧ a ∉ O ++ [P]) := fun k => h2 ⟨k.1, fun m => k.2 (List.mem_append_left _ m)⟩
        rw [if_neg (by rw [decide_eq_true_eq]; exact h2), if_neg (by rw [decide_eq_true_eq]; exact h3), ih]
/-- Between two turns: O is told, L may come. -/
structure OInv (S : List PM) (N : PM → PM → Prop) (O L : List PM) : Prop where
  sub : ∀ P ∈ O, P ∈ S
  nd : O.Nodup
  ndl : L.Nodup
  least : Least S N O
  free : ∀ Q, Q ∈ L ↔ Q ∈ S ∧ Q ∉ O ∧ ∀ q ∈ S, N Q q → q ∈ O
theorem OInv.len {S : List PM} {N : PM → PM → Prop} {O L : List PM} (h : OInv S N O L) : O.length ≤ S.length := h.nd.length_le_of_subset h.sub
theorem OInv.start {S L : List PM} {N : PM → PM → Prop} (hL : L.Nodup) (h : ∀ Q, Q ∈ L ↔ Q ∈ S ∧ cntN S N [] Q = 0) : OInv S N [] L := by
  refine ⟨by simp, by simp, hL, fun k P hk => by simp at hk, fun Q => ?_⟩
  rw [h Q, cntN_zero]
  simp
/-- While the list is gone through behind the telling of P: t patches have been looked at. -/
structure OMid (S : List PM) (N : PM → PM → Prop) (O : List PM) (P : PM) (t : Nat) (L : List PM) : Prop where
  sub : ∀ R ∈ O ++ [P], R ∈ S
  nd : (O ++ [P]).Nodup
  ndl : L.Nodup
  least : Least S N (O ++ [P])
  free : ∀ Q, Q ∈ L ↔ Q ∈ S ∧ Q ∉ O ++ [P] ∧ (∀ q ∈ S, N Q q → q ∈ O ++ [P]) ∧ (N Q P → Q ∈ S.take t)
theorem OInv.pop {S : List PM} {N : PM → PM → Prop} {O L L' : List PM} {P : PM} (h : OInv S N O L) (hp : (P :: L').Perm L) (hl : ∀ Q ∈ L, pkey P.id ≤ pkey Q.id) : OMid S N O P 0 L' := by
  have hPL : P ∈ L := hp.mem_iff.1 List.mem_cons_self
  obtain ⟨pS, pO, pN⟩ := (h.free P).1 hPL
  have hnd : (P :: L').Nodup := hp.nodup_iff.2 h.ndl
  obtain ⟨hP', hL'⟩ := List.nodup_cons.1 hnd
  refine ⟨fun R hR => ?_, ?_, hL', fun k R hk => ?_, fun Q => ?_⟩
  · rcases List.mem_append.1 hR with hR | hR
    · exact h.sub R hR
    · rw [List.mem_singleton.1 hR]
      exact pS
  · rw [List.nodup_append]
    refine ⟨h.nd, by simp, fun a ha b hb e => ?_⟩
    rw [List.mem_singleton.1 hb] at e
    exact pO (e ▸ ha)
  · by_cases hko : k < O.length
    · rw [List.getElem?_append_left hko] at hk
      rw [List.take_append_of_le_length (by omega)]
      exact h.least k R hk
    · have hkl := (List.getElem?_eq_some_iff.1 hk).1
      simp only [List.length_append, List.length_singleton] at hkl
      have e : k = O.length := by omega
      subst e
      rw [List.getElem?_append_right (by omega)] at hk
      simp at hk
      subst hk
      rw [List.take_append_of_le_length (by omega), List.take_length]
      exact ⟨pN, fun Q hQ hQO hQN => hl Q ((h.free Q).2 ⟨hQ, hQO, hQN⟩)⟩
  · have e1 : Q ∈ L' ↔ Q ∈ L ∧ Q ≠ P := by
      rw [← hp.mem_iff, List.mem_cons]
      constructor
      · intro k
        exact ⟨.inr k, fun e => hP' (e ▸ k)⟩
      · rintro ⟨k | k, k2⟩
        · exact absurd k k2
        · exact k
    rw [e1, h.free Q]
    simp only [List.take_zero, List.not_mem_nil, imp_false, List.mem_append, List.mem_singleton, not_or]
    constructor
    · rintro ⟨⟨a1, a2, a3⟩, a4⟩
      exact ⟨a1, ⟨a2, a4⟩, fun q hq hN => .inl (a3 q hq hN), fun hN => pO (a3 P pS hN)⟩
    · rintro ⟨a1, ⟨a2, a4⟩, a3, a5⟩
      refine ⟨⟨a1, a2, fun q hq hN => ?_⟩, a4⟩
      rcases a3 q hq hN with k | k
      · exact k
      · rw [k] at hN
        exact absurd hN a5
theorem take_succ_mem {S : List PM} {t : Nat} {Q R : PM} (hQ : S[t]? = some Q) : R ∈ S.take (t + 1) ↔ R ∈ S.take t ∨ R = Q := by
  rw [List.take_add_one, hQ, List.mem_append]
  simp
theorem OMid.skip {S : List PM} {N : PM → PM → Prop} {O L : List PM} {P Q : PM} {t : Nat} (h : OMid S N O P t L) (hQ : S[t]? = some Q) (hn : ¬ N Q P ∨ cntN S N (O ++ [P]) Q ≠ 0) : OMid S N O P (t + 1) L := by
  refine ⟨h.sub, h.nd, h.ndl, h.least, fun R => ?_⟩
  rw [h.free R]
  constructor
  · rintro ⟨a1, a2, a3, a4⟩
    exact ⟨a1, a2, a3, fun hN => (take_succ_mem hQ).2 (.inl (a4 hN))⟩
  · rintro ⟨a1, a2, a3, a4⟩
    refine ⟨a1, a2, a3, fun hN => ?_⟩
    rcases (take_succ_mem hQ).1 (a4 hN) with k | k
    · exact k
    · subst k
      rcases hn with hn | hn
      · exact absurd hN hn
      · exact absurd (cntN_zero.2 a3) hn
theorem nin_take {X : List PM} {k : Nat} {P : PM} (hX : X.Nodup) (hk : X[k]? = some P) : P ∉ X.take k := fun hP => by
  obtain ⟨j, hj⟩ := List.mem_iff_getElem?.1 hP
  rw [List.getElem?_take] at hj
  split at hj
  · rename_i hjk
    have := (List.getElem?_inj (List.getElem?_eq_some_iff.1 hj).1 hX).1 (hj.trans hk.symm)
    omega
  · cases hj
theorem OMid.push {S : List PM} {N : PM → PM → Prop} {O L L' : List PM} {P Q : PM} {t : Nat} (h : OMid S N O P t L) (hS : S.Nodup) (hQ : S[t]? = some Q) (hn : N Q P) (hc : cntN S N (O ++ [P]) Q = 0) (hO : ∀ R ∈ O ++ [P], ¬ N R P) (hp : L'.Perm (L ++ [Q])) : OMid S N O P (t + 1) L' := by
  have hQL : Q ∉ L := fun k => nin_take hS hQ (((h.free Q).1 k).2.2.2 hn)
  refine ⟨h.sub, h.nd, hp.nodup_iff.2 ?_, h.least, fun R => ?_⟩
  · rw [List.nodup_append]
    refine ⟨h.ndl, by simp, fun a ha b hb e => ?_⟩
    rw [List.mem_singleton.1 hb] at e
    exact hQL (e ▸ ha)
  · rw [hp.mem_iff, List.mem_append, List.mem_singleton, h.free R]
    constructor
    · rintro (⟨a1, a2, a3, a4⟩ | rfl)
      · exact ⟨a1, a2, a3, fun hN => (take_succ_mem hQ).2 (.inl (a4 hN))⟩
      · exact ⟨List.mem_of_getElem? hQ, fun k => hO R k hn, cntN_zero.1 hc, fun _ => (take_succ_mem hQ).2 (.inr rfl)⟩
    · rintro ⟨a1, a2, a3, a4⟩
      by_cases e : R = Q
      · exact .inr e
      · refine .inl ⟨a1, a2, a3, fun hN => ?_⟩
        rcases (take_succ_mem hQ).1 (a4 hN) with k | k
        · exact k
        · exact absurd k e
theorem OMid.done {S : List PM} {N : PM → PM → Prop} {O L : List PM} {P : PM} (h : OMid S N O P S.length L) : OInv S N (O ++ [P]) L := by
  refine ⟨h.sub, h.nd, h.ndl, h.least, fun Q => ?_⟩
  rw [h.free Q, List.take_length]
  constructor
  · rintro ⟨a1, a2, a3, _⟩
    exact ⟨a1, a2, a3⟩
  · rintro ⟨a1, a2, a3⟩
    exact ⟨a1, a2, a3, fun _ => a1⟩
theorem OMid.early {S : List PM} {N : PM → PM → Prop} {O L : List PM} {P : PM} {t : Nat} (h : OMid S N O P t L) : ∀ R ∈ O ++ [P], ¬ N R P := by
  intro R hR hN
  obtain ⟨k, hk⟩ := List.mem_iff_getElem?.1 hR
  have h1 := (h.least k R hk).1 P (h.sub P (by simp)) hN
  have hl : (O ++ [P])[O.length]? = some P := by simp
  have hkl := (List.getElem?_eq_some_iff.1 hk).1
  simp only [List.length_append, List.length_singleton] at hkl
  rw [List.take_append_of_le_length (by omega)] at h1
  obtain ⟨hnd, _, hd⟩ := List.nodup_append.1 h.nd
  exact hd P (List.mem_of_mem_take h1) P (by simp) rfl
/-- All are told when none may come: no patch needs a later one. -/
theorem OInv.end_ {S : List PM} {N : PM → PM → Prop} {O : List PM} (h : OInv S N O []) (hS : S.Nodup) (hN : ∀ k P, S[k]? = some P → ∀ q ∈ S, N P q → q ∈ S.take k) : O.Perm S := by
  have all : ∀ k, k ≤ S.length → ∀ P ∈ S.take k, P ∈ O := by
    intro k
    induction k with
    | zero => intro _ P hP; simp at hP
    | succ k ih =>
      intro hk P hP
      have hQ := List.getElem?_eq_getElem (l := S) (i := k) (by omega)
      rcases (take_succ_mem hQ).1 hP with hP | rfl
      · exact ih (by omega) P hP
      · refine Classical.byContradiction fun hno => ?_
        have := (h.free _).2 ⟨List.getElem_mem (by omega), hno, fun q hq hn => ih (by omega) q (hN k _ hQ q hq hn)⟩
        simp at this
  refine (List.perm_ext_iff_of_nodup h.nd hS).2 fun P => ⟨h.sub P, fun hP => all S.length (Nat.le_refl _) P (by rw [List.take_length]; exact hP)⟩
theorem least_of {L : List PM} (h : L ≠ []) : ∃ P ∈ L, ∀ Q ∈ L, pkey P.id ≤ pkey Q.id := by
  induction L with
  | nil => exact absurd rfl h
  | cons a L ih =>
    by_cases hL : L = []
    · subst hL
      exact ⟨a, by simp, fun Q hQ => by simp at hQ; rw [hQ]; exact Int.le_refl _⟩
    · obtain ⟨P, hP, hm⟩ := ih hL
      by_cases hc : pkey a.id ≤ pkey P.id
      · refine ⟨a, by simp, fun Q hQ => ?_⟩
        rcases List.mem_cons.1 hQ with rfl | hQ
        · exact Int.le_refl _
        · have := hm Q hQ
          omega
      · refine ⟨P, List.mem_cons_of_mem _ hP, fun Q hQ => ?_⟩
        rcases List.mem_cons.1 hQ with rfl | hQ
        · omega
        · exact hm Q hQ
/-- No patch needs itself or a later one. -/
def Early (S : List PM) (N : PM → PM → Prop) : Prop := ∀ k P, S[k]? = some P → ∀ q ∈ S, N P q → q ∈ S.take k
theorem greedy_to {S : List PM} {N : PM → PM → Prop} (hS : S.Nodup) (hN : Early S N) : ∀ k, k ≤ S.length → ∃ O L, O.length = k ∧ OInv S N O L := by
  classical
  intro k
  induction k with
  | zero =>
    intro _
    refine ⟨[], S.filter (fun Q => decide (cntN S N [] Q = 0)), rfl, OInv.start (hS.filter _) (fun Q => ?_)⟩
    rw [List.mem_filter, decide_eq_true_eq]
  | succ k ih =>
    intro hk
    obtain ⟨O, L, hO, hG⟩ := ih (by omega)
    have hL : L ≠ [] := fun e => by
      subst e
      have := (hG.end_ hS hN).length_eq
      omega
    obtain ⟨P, hP, hm⟩ := least_of hL
    have hM := hG.pop (List.perm_cons_erase hP).symm hm
    refine ⟨O ++ [P], S.filter (fun Q => decide (Q ∉ O ++ [P] ∧ ∀ q ∈ S, N Q q → q ∈ O ++ [P])), by simp [hO], ⟨hM.sub, hM.nd, hS.filter _, hM.least, fun Q => ?_⟩⟩
    rw [List.mem_filter, decide_eq_true_eq]
theorem greedy_ex {S : List PM} {N : PM → PM → Prop} (hS : S.Nodup) (hN : Early S N) : ∃ O, O.Perm S ∧ Least S N O := by
  obtain ⟨O, L, hO, hG⟩ := greedy_to hS hN S.length (Nat.le_refl _)
  refine ⟨O, ?_, hG.least⟩
  refine (List.perm_ext_iff_of_nodup hG.nd hS).2 fun P => ⟨hG.sub P, fun hP => ?_⟩
  refine Classical.byContradiction fun hno => ?_
  have h2 : (P :: O).Nodup := List.nodup_cons.2 ⟨hno, hG.nd⟩
  have h3 := h2.length_le_of_subset (l₂ := S) (fun R hR => by
    rcases List.mem_cons.1 hR with rfl | hR
    · exact hP
    · exact hG.sub R hR)
  simp at h3
  omega
/-- The one that is wanted next needs none of those that it must pass. -/
theorem ord_free {S O A C : List PM} {N : PM → PM → Prop} {i : Nat} {P R : PM} (hL : Least S N O) (hX : (A ++ R :: P :: C).Perm S) (hn : (A ++ R :: P :: C).Nodup) (ht : (A ++ R :: P :: C).take i = O.take i) (hP : O[i]? = some P) (hA : i ≤ A.length) : ¬ N P R := fun h => by
  have h1 := (hL i P hP).1 R (hX.mem_iff.1 (by simp)) h
  rw [← ht, List.take_append_of_le_length hA] at h1
  obtain ⟨_, _, hd⟩ := List.nodup_append.1 hn
  exact hd R (List.mem_of_mem_take h1) R (by simp) rfl
theorem ord_take {A C : List PM} {i : Nat} {P R : PM} (hA : i ≤ A.length) : (A ++ P :: R :: C).take i = (A ++ R :: P :: C).take i := by
  rw [List.take_append_of_le_length hA, List.take_append_of_le_length hA]
theorem ord_perm {A C S : List PM} {P R : PM} (h : (A ++ R :: P :: C).Perm S) : (A ++ P :: R :: C).Perm S := (List.Perm.append_left A (List.Perm.swap R P C)).trans h
theorem ord_split {X : List PM} {j : Nat} {P : PM} (h : X[j + 1]? = some P) : ∃ A R C, X = A ++ R :: P :: C ∧ A.length = j := by
  obtain ⟨hl, e⟩ := List.getElem?_eq_some_iff.1 h
  refine ⟨X.take j, X[j], X.drop (j + 2), ?_, by rw [List.length_take]; omega⟩
  have e1 : X.drop j = X[j] :: X.drop (j + 1) := List.drop_eq_getElem_cons (by omega)
  have e2 : X.drop (j + 1) = X[j + 1] :: X.drop (j + 2) := List.drop_eq_getElem_cons hl
  rw [← e, ← e2, ← e1, List.take_append_drop]
theorem ord_moved {A C : List PM} {P R : PM} {j : Nat} (h : A.length = j) : (A ++ P :: R :: C)[j]? = some P := by
  rw [List.getElem?_append_right (by omega)]
  simp [h]
theorem ord_next {X O : List PM} {i : Nat} {P : PM} (ht : X.take i = O.take i) (hX : X[i]? = some P) (hO : O[i]? = some P) : X.take (i + 1) = O.take (i + 1) := by
  rw [List.take_add_one, List.take_add_one, ht, hX, hO]
/-- The one that is wanted next stands at or behind its place. -/
theorem ord_at {X O S : List PM} {i : Nat} {P : PM} (hX : X.Perm S) (hO : O.Perm S) (hn : O.Nodup) (ht : X.take i = O.take i) (hP : O[i]? = some P) : ∃ k, X[i + k]? = some P := by
  have h1 : P ∈ X := hX.mem_iff.2 (hO.mem_iff.1 (List.mem_of_getElem? hP))
  rw [← List.take_append_drop i X] at h1
  rcases List.mem_append.1 h1 with h1 | h1
  · rw [ht] at h1
    exact absurd h1 (nin_take hn hP)
  · obtain ⟨k, hk⟩ := List.mem_iff_getElem?.1 h1
    rw [List.getElem?_drop] at hk
    exact ⟨k, hk⟩
theorem ord_done {X O S : List PM} (hX : X.Perm S) (hO : O.Perm S) (ht : X.take O.length = O.take O.length) : X = O := by
  have hl : X.length = O.length := hX.length_eq.trans hO.length_eq.symm
  rw [List.take_length, ← hl, List.take_length] at ht
  exact ht
end Go.Proofs.YtgdfipmdmgkidaaGreatDoor
