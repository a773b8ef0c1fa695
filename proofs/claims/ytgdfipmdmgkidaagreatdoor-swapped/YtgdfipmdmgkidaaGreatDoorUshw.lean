/- The command show: a patch is told where it stands. -/
import Derived.Test.YtgdfipmdmgkidaaGreatDoorUst
import Derived.Test.YtgdfipmdmgkidaaGreatDoorUreca
import Derived.Test.YtgdfipmdmgkidaaGreatDoorUrev
import Derived.Test.YtgdfipmdmgkidaaGreatDoorQtold
namespace Go.Proofs.YtgdfipmdmgkidaaGreatDoor
open Go.RowKit

structure ShowS (N rg g o T mb : Nat) (i : Pid) (pv cv : Value) (w : World) : Prop where
  i0 : w.cell? ⟨N, 0, none⟩ = some (.int .u8 i.a)
  i1 : w.cell? ⟨N, 1, none⟩ = some (.int .u8 i.b)
  i2 : w.cell? ⟨N, 2, none⟩ = some (.int .u8 i.c)
  i3 : w.cell? ⟨N, 3, none⟩ = some (.int .u8 i.d)
  r0 : w.cell? ⟨rg, 0, none⟩ = some pv
  p0 : w.cell? ⟨g, o, none⟩ = some (.int .u8 i.a)
  p1 : w.cell? ⟨g, o + 1, none⟩ = some (.int .u8 i.b)
  p2 : w.cell? ⟨g, o + 2, none⟩ = some (.int .u8 i.c)
  p3 : w.cell? ⟨g, o + 3, none⟩ = some (.int .u8 i.d)
  p4 : w.cell? ⟨g, o + 4, none⟩ = some cv
  tr : w.cell? ⟨T, 0, none⟩ = some (.map (some mb))
theorem find_here {Ps : List PM} (hnd : (Ps.map (·.id)).Nodup) {k : Nat} {P : PM} (hk : Ps[k]? = some P) : (Ps.findIdx? fun R => decide (R.id = P.id)) = some k := by
  obtain ⟨hl, hP⟩ := List.getElem?_eq_some_iff.1 hk
  rw [List.findIdx?_eq_some_iff_getElem]
  refine ⟨hl, by rw [hP]; simp, fun j hj => ?_⟩
  simp only [decide_eq_true_eq]
  intro e
  have h1 : (Ps.map (·.id))[j]'(by simp; omega) = (Ps.map (·.id))[k]'(by simpa using hl) := by
    rw [List.getElem_map, List.getElem_map, hP, e]
  have := (List.getElem_inj hnd).1 h1
  omega
section
variable {w : World} {B pb rg cap gb : Nat} {pv : Value} {Ps : List PM} {fb fn : Nat} {f : ByteArray → Option ByteArray} {G : List Pid}
def shownB (i : Pid) (T : ByteArray) : ByteArray := (idText i ++ ⟨#[10]⟩) ++ T
set_option maxRecDepth 100000 in
set_option maxHeartbeats 6400000 in
theorem OneAt.show_ (h : OneAt w B pb rg cap gb pv Ps fb fn f G) {st : Nat → Nat → ByteArray → PL} {cnt : Nat → Nat} (hS : Stands Ps st cnt) {k : Nat} {P : PM} (hk : Ps[k]? = some P) (hnd : (Ps.map (·.id)).Nodup) (hl : Ps.length ≤ 1000) (t : Nat → ByteArray) (ht : ∀ j c, P.Cs[j]? = some c → TellsP c.2 c.1 (st k 0 c.1) (t j)) (hts : ∀ j, (t j).size ≤ 1000000) (hCs : P.Cs.length ≤ 100) :
    Calls Tryz.prog 69 #[.pointer (some ⟨rg, 0, none⟩), .agg #[.int .u8 P.id.a, .int .u8 P.id.b, .int .u8 P.id.c, .int .u8 P.id.d]] w fun e w' => e = .returned (.tuple #[.string (shownB P.id ⟨(toldTo t P.Cs.length).toArray⟩), .int .i64 0]) ∧ Below w.heap.size w w' := by
  obtain ⟨w1, hw1⟩ : ∃ w1, w1 = w.alloc (.cells #[.int .u8 P.id.a, .int .u8 P.id.b, .int .u8 P.id.c, .int .u8 P.id.d] 113) := ⟨_, rfl⟩
  have hb1 : Below w.heap.size w w1 := by rw [hw1]; exact (Below.refl _ _).alloc (Nat.le_refl _) _
  have hk1 := (MapKept.heap_alloc w (.cells #[.int .u8 P.id.a, .int .u8 P.id.b, .int .u8 P.id.c, .int .u8 P.id.d] 113)).1
  rw [← hw1] at hk1
  have hs1 : w.heap.size < w1.heap.size := by rw [hw1]; simp
  obtain ⟨i0, i1, i2, i3⟩ := cells4_at hk1
  have h1 := h.below hb1
  have hkl := (List.getElem?_eq_some_iff.1 hk).1
  have hPm := List.mem_of_getElem? hk
  have HC : Hid (Calls Tryz.prog 122 #[.pointer (some ⟨rg, 0, none⟩), .agg #[.int .u8 P.id.a, .int .u8 P.id.b, .int .u8 P.id.c, .int .u8 P.id.d]] w1 fun e w' => e = .returned (.int .i64 (k : Nat)) ∧ Below w1.heap.size w1 w') := by
    have := place122_any Ps pv P.id rg 0 w1 h1.view (by omega) h1.r0 h1.lts.2.1
    rw [find_here hnd hk] at this
    exact this
  obtain ⟨g, cp, hpv, hgs⟩ : ∃ g cp, pv = .slice (some ⟨g, 0, none⟩) Ps.length cp ∧ Ps.length ≤ cp := by
    obtain ⟨ao, cc, hv⟩ := own_shape h.own
    subst hv
    obtain ⟨g, rfl, k1, _⟩ := own_at h.own (by omega)
    exact ⟨g, cc, rfl, own_cap h.own⟩
  subst hpv
  obtain ⟨pa, pn, pc, hcv⟩ := (h1.chs P hPm).slice_
  have hsz : (⟨(toldTo t P.Cs.length).toArray⟩ : ByteArray).size ≤ 100000000 := by
    have h9 := toldTo_len t 1000000 hts P.Cs.length
    have e9 : (⟨(toldTo t P.Cs.length).toArray⟩ : ByteArray).size = (toldTo t P.Cs.length).length := List.size_toArray
    have : P.Cs.length * 1000000 ≤ 100 * 1000000 := Nat.mul_le_mul_right _ hCs
    omega
  obtain ⟨TT, hTT⟩ : ∃ TT : ByteArray, (⟨(toldTo t P.Cs.length).toArray⟩ : ByteArray) = TT := ⟨_, rfl⟩
  have hpre : Stands (Ps.take k) st cnt := by
    have e := List.take_append_drop k Ps
    rw [← e] at hS
    exact hS.pre
  have htl : (Ps.take k).length = k := by rw [List.length_take]; omega
  have hview : ∀ u, Below w1.heap.size w1 u → PV u (.slice (some ⟨g, 0, none⟩) k cp) (Ps.take k) := fun u hu => by
    obtain ⟨ao, cc, e, hcc⟩ := (h1.below hu).view
    simp only [Value.slice.injEq, true_and] at e
    obtain ⟨rfl, rfl⟩ := e
    refine ⟨_, cp, by rw [htl], fun j R hj => hcc j R ?_⟩
    have hjl := (List.getElem?_eq_some_iff.1 hj).1
    rw [htl] at hjl
    rw [List.getElem?_take_of_lt hjl] at hj
    exact hj
  have HG : Hid (∀ u, Below w1.heap.size w1 u → Calls Tryz.prog 123 #[.slice (some ⟨g, 0, none⟩) k cp] u fun e w' => ∃ mb n, e = .returned (.agg #[.map (some mb)]) ∧ TreeAt w' mb (st k 0) n ∧ n ≤ 100000 ∧ Below u.heap.size u w') := fun u hu => by
    have := grow95_any (Ps.take k) _ st cnt u (hview u hu) (hpre.grows (hview u hu)) (by omega)
    rw [htl] at this
    refine this.mono ?_
    rintro e w' ⟨mb, n, k1, k2, k3, _, k5⟩
    exact ⟨mb, n, k1, k2, k3, k5⟩
  have HT : Hid (∀ u mb n, Below w1.heap.size w1 u → TreeAt u mb (st k 0) n → n ≤ 100000 → Calls Tryz.prog 113 #[.agg #[.int .u8 P.id.a, .int .u8 P.id.b, .int .u8 P.id.c, .int .u8 P.id.d, .slice pa pn pc], .agg #[.map (some mb)]] u fun e w' => e = .returned (.string TT) ∧ Below u.heap.size u w') := fun u mb n hu hT hn => by
    have hc := (h1.below hu).chs P hPm
    rw [hcv] at hc
    have := told_any P.id hc hT (by omega) hCs (fun c hc' => hS.names P hPm c hc') t ht hts
    rw [hTT] at this
    exact this
  have HSH : Hid (∀ u T mb, Below w1.heap.size w1 u → u.cell? ⟨T, 0, none⟩ = some (.map (some mb)) → ShowS w.heap.size rg g (k * 5) T mb P.id (.slice (some ⟨g, 0, none⟩) Ps.length cp) (.slice pa pn pc) u) := fun u T mb hu hT => by
    have hu2 := h1.below hu
    obtain ⟨a0, a1, a2, a3, a4⟩ := pm_at hu2.own hk
    rw [hcv] at a4
    obtain ⟨j0, j1, j2, j3⟩ := cells4_at ((hu.block _ hs1).trans hk1)
    exact ⟨j0, j1, j2, j3, hu2.r0, a0, a1, a2, a3, a4, hT⟩
  have HR0 : Hid (∀ u, Below w1.heap.size w1 u → u.cell? ⟨rg, 0, none⟩ = some (.slice (some ⟨g, 0, none⟩) Ps.length cp)) := fun u hu => (h1.below hu).r0
  have HB1 : Hid (Below w.heap.size w w1) := hb1
  have hid4 := idText_size P.id
  have z1 : ¬ 9223372036854775807 < (idText P.id).size + 1 := by omega
  have z2 : ¬ 9223372036854775807 < (idText P.id).size + 1 + TT.size := by rw [← hTT]; omega
  obtain ⟨IT, hIT⟩ : ∃ IT, idText P.id = IT := ⟨_, rfl⟩
  have HS5 : Hid (∀ u, Calls Tryz.prog 115 #[.agg #[.int .u8 P.id.a, .int .u8 P.id.b, .int .u8 P.id.c, .int .u8 P.id.d]] u fun e w' => e = .returned (.string IT) ∧ Below u.heap.size u w') := fun u => by
    have := string115_any P.id u
    rw [hIT] at this
    exact this
  obtain ⟨n, hn⟩ : ∃ n, Ps.length = n := ⟨_, rfl⟩
  rw [hn] at HSH HR0 hkl hgs
  rw [hIT] at z1 z2
  have HFIN : Hid (shownB P.id ⟨(toldTo t P.Cs.length).toArray⟩ = (IT ++ ⟨#[10]⟩) ++ TT) := by show _ = _; unfold shownB; rw [hIT, hTT]
  have kc : (k : Int) ≤ (cp : Int) := by omega
  have kn : (k : Int) < (n : Int) := by omega
  clear h h1 hb1 hk1 hS hnd hl ht hts hCs hview hpre htl hcv hsz hTT hid4 hIT hn hPm hk
  go_enter Tryz.func69, Tryz.ntmps69
  go_wp2_with fail
  rw [← hw1]
  clear hw1
  go_wp2_with fail
  refine HC.out.mono ?_
  rintro e w2 ⟨rfl, hb2⟩
  clear HC i0 i1 i2 i3
  have r2 := HR0.out w2 hb2
  have HB2 : Hid (Below w1.heap.size w1 w2) := hb2
  have HG2 := HG.out w2 hb2
  have HG3 : Hid (Calls Tryz.prog 123 #[.slice (some ⟨g, 0, none⟩) k cp] w2 fun e w' => ∃ mb n, e = .returned (.agg #[.map (some mb)]) ∧ TreeAt w' mb (st k 0) n ∧ n ≤ 100000 ∧ Below w2.heap.size w2 w') := HG2
  clear hb2 HG2 HG
  go_wp2_with fail
  refine HG3.out.mono ?_
  rintro e w3 ⟨mb, m, rfl, hT3, hm, hb3⟩
  clear HG3
  obtain ⟨w4, hw4⟩ : ∃ w4, w4 = w3.alloc (.cells #[.map (some mb)] 121) := ⟨_, rfl⟩
  have hb34 : Below w3.heap.size w3 w4 := by rw [hw4]; exact (Below.refl _ _).alloc (Nat.le_refl _) _
  have hk4 : w4.heap[w3.heap.size]? = some (.cells #[.map (some mb)] 121 (0, 0)) := by rw [hw4]; exact (MapKept.heap_alloc w3 _).1
  have hs4 : w3.heap.size < w4.heap.size := by rw [hw4]; simp
  have hb13 : Below w1.heap.size w1 w3 := HB2.out.trans (hb3.mono HB2.out.size)
  have hb14 : Below w1.heap.size w1 w4 := hb13.trans (hb34.mono hb13.size)
  have hd4 : Below w4.heap.size w4 w4.drew := (Below.refl _ _).drew
  have hcell : ∀ u, Below w4.heap.size w4 u → u.cell? ⟨w3.heap.size, 0, none⟩ = some (.map (some mb)) := fun u hu => by
    have := (hu.block _ hs4).trans hk4
    simp [World.cell?, this]
  have HSU : Hid (∀ u, Below w4.heap.size w4 u → ShowS w.heap.size rg g (k * 5) w3.heap.size mb P.id (.slice (some ⟨g, 0, none⟩) n cp) (.slice pa pn pc) u) := fun u hu => HSH.out u _ mb (hb14.trans (hu.mono hb14.size)) (hcell u hu)
  have HS0 : Hid (ShowS w.heap.size rg g (k * 5) w3.heap.size mb P.id (.slice (some ⟨g, 0, none⟩) n cp) (.slice pa pn pc) w4.drew) := HSU.out _ hd4
  have HT4 : Hid (∀ u, Below w4.heap.size w4 u → Calls Tryz.prog 113 #[.agg #[.int .u8 P.id.a, .int .u8 P.id.b, .int .u8 P.id.c, .int .u8 P.id.d, .slice pa pn pc], .agg #[.map (some mb)]] u fun e w' => e = .returned (.string TT) ∧ Below u.heap.size u w') := fun u hu => HT.out u mb m (hb14.trans (hu.mono hb14.size)) ((hT3.below hb34 (Nat.le_refl _)).below hu (Nat.le_refl _)) hm
  have HB4 : Hid (Below w.heap.size w w4) := HB1.out.trans (hb14.mono (by omega))
  clear hT3 hm hb3 hb34 hk4 hb13 hb14 hcell HSH HT HR0 r2 HB2 HB1 hd4
  go_wp2_with fail
  rw [← hw4]
  clear hw4
  refine wp_region_Z (ShowS w.heap.size rg g (k * 5) w3.heap.size mb P.id (.slice (some ⟨g, 0, none⟩) n cp) (.slice pa pn pc)) 99 (by kernel_rfl) ?_
  refine wpZ_take 0 _ (v := ?z0) rfl (by kernel_rfl) (by kernel_rfl) (by kernel_rfl) (fun _ _ _ h => h) (by kernel_rfl) (by decide) HS0.out rfl (fun w0 hS0 => ?hy) ?_
  case hy =>
    obtain ⟨s0, s1, s2, s3, s4, t0, t1, t2, t3, t4, u0⟩ := hS0
    go_simp
    with_reducible rfl
  simp only [Act.put, List.setIfInBounds_toArray]
  refine wpZ_take 3 _ (v := ?z3) rfl (by kernel_rfl) (by kernel_rfl) (by kernel_rfl) (fun _ _ _ h => h) (by kernel_rfl) (by decide) HS0.out rfl (fun w0 hS0 => ?hy) ?_
  case hy =>
    obtain ⟨s0, s1, s2, s3, s4, t0, t1, t2, t3, t4, u0⟩ := hS0
    go_simp
    with_reducible rfl
  simp only [Act.put]
  refine wpZ_take 4 _ (v := ?z4) rfl (by kernel_rfl) (by kernel_rfl) (by kernel_rfl) (fun _ _ _ h => h) (by kernel_rfl) (by decide) HS0.out rfl (fun w0 hS0 => ?hy) ?_
  case hy =>
    obtain ⟨s0, s1, s2, s3, s4, t0, t1, t2, t3, t4, u0⟩ := hS0
    go_simp
    with_reducible rfl
  simp only [Act.put]
  refine wpZ_take 5 _ (v := ?z5) rfl (by kernel_rfl) (by kernel_rfl) (by kernel_rfl) (fun _ _ _ h => h) (by kernel_rfl) (by decide) HS0.out rfl (fun w0 hS0 => ?hy) ?_
  case hy =>
    obtain ⟨s0, s1, s2, s3, s4, t0, t1, t2, t3, t4, u0⟩ := hS0
    go_simp
    with_reducible rfl
  simp only [Act.put]
  refine wpZ_take 6 _ (v := ?z6) rfl (by kernel_rfl) (by kernel_rfl) (by kernel_rfl) (fun _ _ _ h => h) (by kernel_rfl) (by decide) HS0.out rfl (fun w0 hS0 => ?hy) ?_
  case hy =>
    obtain ⟨s0, s1, s2, s3, s4, t0, t1, t2, t3, t4, u0⟩ := hS0
    go_simp
    with_reducible rfl
  simp only [Act.put]
  refine wpZ_take 7 _ (v := ?z7) rfl (by kernel_rfl) (by kernel_rfl) (by kernel_rfl) (fun _ _ _ h => h) (by kernel_rfl) (by decide) HS0.out rfl (fun w0 hS0 => ?hy) ?_
  case hy =>
    obtain ⟨s0, s1, s2, s3, s4, t0, t1, t2, t3, t4, u0⟩ := hS0
    go_simp
    with_reducible rfl
  simp only [Act.put]
  refine wpZ_take 8 _ (v := ?z8) rfl (by kernel_rfl) (by kernel_rfl) (by kernel_rfl) (fun _ _ _ h => h) (by kernel_rfl) (by decide) HS0.out rfl (fun w0 hS0 => ?hy) ?_
  case hy =>
    obtain ⟨s0, s1, s2, s3, s4, t0, t1, t2, t3, t4, u0⟩ := hS0
    go_simp
    with_reducible rfl
  simp only [Act.put]
  refine wpZ_take 9 _ (v := ?z9) rfl (by kernel_rfl) (by kernel_rfl) (by kernel_rfl) (fun _ _ _ h => h) (by kernel_rfl) (by decide) HS0.out rfl (fun w0 hS0 => ?hy) ?_
  case hy =>
    obtain ⟨s0, s1, s2, s3, s4, t0, t1, t2, t3, t4, u0⟩ := hS0
    go_simp
    with_reducible rfl
  simp only [Act.put]
  refine wpZ_take 10 _ (v := ?z10) rfl (by kernel_rfl) (by kernel_rfl) (by kernel_rfl) (fun _ _ _ h => h) (by kernel_rfl) (by decide) HS0.out rfl (fun w0 hS0 => ?hy) ?_
  case hy =>
    obtain ⟨s0, s1, s2, s3, s4, t0, t1, t2, t3, t4, u0⟩ := hS0
    go_simp
    with_reducible rfl
  simp only [Act.put]
  refine wpZ_one 1 _ rfl (by kernel_rfl) (fun KK hK => ?_)
  go_simp
  refine (HS5.out _).mono ?_
  rintro e w5 ⟨rfl, hb5⟩
  dsimp only
  have hb45 : Below w4.heap.size w4 w5 := (Below.refl _ w4).drew.trans hb5
  have HSa : Hid (ShowS w.heap.size rg g (k * 5) w3.heap.size mb P.id (.slice (some ⟨g, 0, none⟩) n cp) (.slice pa pn pc) w5) := HSU.out w5 hb45
  refine hK.out _ _ (fun _ => HSa.out) ?_
  clear hK
  refine wpZ_take 2 _ (v := ?z2) rfl (by kernel_rfl) (by kernel_rfl) (by kernel_rfl) (fun _ _ _ h => h) (by kernel_rfl) (by decide) HSa.out rfl (fun w0 hS0 => ?hy) ?_
  case hy =>
    obtain ⟨s0, s1, s2, s3, s4, t0, t1, t2, t3, t4, u0⟩ := hS0
    go_simp
    with_reducible rfl
  simp only [Act.put, List.setIfInBounds_toArray]
  refine wpZ_one 11 _ rfl (by kernel_rfl) (fun KK hK => ?_)
  go_simp
  refine (HT4.out w5 hb45).mono ?_
  rintro e w6 ⟨rfl, hb6⟩
  dsimp only
  have hb46 : Below w4.heap.size w4 w6 := hb45.trans (hb6.mono hb45.size)
  have HSb : Hid (ShowS w.heap.size rg g (k * 5) w3.heap.size mb P.id (.slice (some ⟨g, 0, none⟩) n cp) (.slice pa pn pc) w6) := HSU.out w6 hb46
  refine hK.out _ _ (fun _ => HSb.out) ?_
  clear hK
  refine wpZ_take 12 _ (v := ?z12) rfl (by kernel_rfl) (by kernel_rfl) (by kernel_rfl) (fun _ _ _ h => h) (by kernel_rfl) (by decide) HSb.out rfl (fun w0 hS0 => ?hy) ?_
  case hy =>
    obtain ⟨s0, s1, s2, s3, s4, t0, t1, t2, t3, t4, u0⟩ := hS0
    go_simp
    with_reducible rfl
  simp only [Act.put, List.setIfInBounds_toArray]
  refine wpZ_one 13 _ rfl (by kernel_rfl) (fun KK hK => ?_)
  go_simp
  refine hK.out _ _ (fun _ => HSb.out) ?_
  clear hK
  refine wpZ_one 14 _ rfl (by kernel_rfl) (fun KK hK => ?_)
  go_simp
  refine hK.out _ _ (fun _ => HSb.out) ?_
  clear hK
  refine wpZ_done (by kernel_rfl) ?_ _
  have HBE : Hid (Below w.heap.size w w6) := HB4.out.trans (hb46.mono HB4.out.size)
  clear hb5 hb45 hb6 hb46 HSa HSb HSU HT4 HS5 HS0
  go_wp2_with fail
  go_ret2
  rw [HFIN.out]
  exact ⟨rfl, HBE.out⟩
end
end Go.Proofs.YtgdfipmdmgkidaaGreatDoor

/- The statement's names and ids. -/
namespace Go.Proofs.YtgdfipmdmgkidaaGreatDoor
open Go.RowKit

set_option maxRecDepth 100000 in
set_option maxHeartbeats 1600000 in
theorem kname49_det (c : Int) (h0 : -9223372036854775808 ≤ c) (h1 : c ≤ 9223372036854775807) :
    ∃ x ∈ names3, ∀ w, Calls Tryz.prog 49 #[.int .i64 c] w fun e w' => e = .returned (.string x) ∧ w' = w := by
  obtain ⟨k, hk, hp⟩ := kpick23_det c 3 (by omega) (by omega) h0 h1
  have HP : Hid (∀ w, Calls Tryz.prog 31 #[.int .i64 c, .int .i64 3] w fun e w' => e = .returned (.int .i64 k) ∧ w' = w) := hp
  clear hp
  obtain rfl | rfl | rfl : k = 0 ∨ k = 1 ∨ k = 2 := by omega
  · refine ⟨nmA, by simp [names3], fun w => ?_⟩
    go_enter Tryz.func49, Tryz.ntmps49
    go_wp2_with (go_at_call 31; refine (HP.out _).mono ?_; rintro e w1 ⟨rfl, rfl⟩)
    go_ret
    exact ⟨rfl, rfl⟩
  · refine ⟨nmB, by simp [names3], fun w => ?_⟩
    go_enter Tryz.func49, Tryz.ntmps49
    go_wp2_with (go_at_call 31; refine (HP.out _).mono ?_; rintro e w1 ⟨rfl, rfl⟩)
    go_ret
    exact ⟨rfl, rfl⟩
  · refine ⟨nmG, by simp [names3], fun w => ?_⟩
    go_enter Tryz.func49, Tryz.ntmps49
    go_wp2_with (go_at_call 31; refine (HP.out _).mono ?_; rintro e w1 ⟨rfl, rfl⟩)
    go_ret
    exact ⟨rfl, rfl⟩

abbrev hexS : ByteArray := ⟨#[48, 49, 50, 51, 52, 53, 54, 55, 56, 57, 97, 98, 99, 100, 101, 102]⟩
def hexN (V : Nat) : Nat → ByteArray
  | 0 => ⟨#[]⟩
  | k + 1 => hexS.extract (V / 16 ^ k % 16) (V / 16 ^ k % 16 + 1) ++ hexN V k
theorem hexN_size (V : Nat) : ∀ k, (hexN V k).size ≤ k
  | 0 => Nat.le_refl _
  | k + 1 => by
    have := hexN_size V k
    show (_ ++ hexN V k).size ≤ _
    rw [ByteArray.size_append, ByteArray.size_extract]
    omega
def idW (n : Nat) : ByteArray := hexN (n * 7919 % 65536) 4
set_option maxRecDepth 100000 in
set_option maxHeartbeats 1600000 in
theorem kid28_any (n : Nat) (hn : n ≤ 1000) (w : World) :
    Calls Tryz.prog 28 #[.int .i64 n] w fun e w' => e = .returned (.string (idW n)) ∧ w' = w := by
  have e1 : ((n : Int) * 7919).tmod 65536 = ((n * 7919 % 65536 : Nat) : Int) := by
    rw [Int.tmod_eq_emod_of_nonneg (by omega)]
    omega
  obtain ⟨V, hV⟩ : ∃ V, n * 7919 % 65536 = V := ⟨_, rfl⟩
  have HV : Hid (idW n = hexN V 4) := by show _ = _; unfold idW; rw [hV]
  rw [hV] at e1
  have hVl : V < 65536 := by omega
  clear hV
  go_enter Tryz.func28, Tryz.ntmps28
  go_wp2
  go_loopw [3, 4, 5] (fun v s i wr => ∃ k : Nat, k ≤ 4 ∧ i = .int .i64 k ∧ v = .int .i64 ((V / 16 ^ k : Nat) : Int) ∧ s = .string (hexN V k) ∧ wr = w) (fun _ _ i _ => 4 - (intOf i).toNat)
  case atStart => exact ⟨0, by omega, rfl, by simp, rfl, rfl⟩
  case round =>
    obtain ⟨k, hk, rfl, rfl, rfl, rfl⟩ := hrel
    obtain ⟨U, hU⟩ : ∃ U, V / 16 ^ k = U := ⟨_, rfl⟩
    have hUl : U ≤ 65535 := by rw [← hU]; have := Nat.div_le_self V (16 ^ k); omega
    have hsz := hexN_size V k
    obtain ⟨S, hS⟩ : ∃ S, hexN V k = S := ⟨_, rfl⟩
    rw [hS] at hsz
    rw [hU, hS]
    have HN : Hid (V / 16 ^ (k + 1) = U / 16) := by show _ = _; rw [← hU, Nat.pow_succ, Nat.div_div_eq_div_mul]
    have HH : Hid (hexN V (k + 1) = hexS.extract (U % 16) (U % 16 + 1) ++ S) := by show hexN V (k + 1) = _; rw [hexN, hU, hS]
    have HS : Hid (hexN V k = S) := hS
    by_cases hlt : k < 4
    · have d1 : ((U : Nat) : Int).tmod 16 = ((U % 16 : Nat) : Int) := by rw [Int.tmod_eq_emod_of_nonneg (by omega)]; omega
      have d2 : ((U : Nat) : Int).tdiv 16 = ((U / 16 : Nat) : Int) := by rw [Int.tdiv_eq_ediv_of_nonneg (by omega)]; omega
      clear hU hS
      go_wp2
      go_roundw
      case rel => exact ⟨k + 1, by omega, by go_num, by rw [HN.out]; go_num, by rw [HH.out], trivial⟩
      case measure => simp [intOf]; omega
    · have e : k = 4 := by omega
      subst e
      clear hU hS
      go_wp2
      go_ret
      exact ⟨by rw [HV.out, HS.out]; rfl, rfl⟩
end Go.Proofs.YtgdfipmdmgkidaaGreatDoor

/- The ids as bytes; the commands' words. -/
namespace Go.Proofs.YtgdfipmdmgkidaaGreatDoor
open Go.RowKit

def uc (n i : Nat) : UInt8 := UInt8.ofNat (gb (idW n) i)
/-- The id of a number, as the program has it. -/
def idN (n : Nat) : Pid := ⟨(uc n 0).toNat, (uc n 1).toNat, (uc n 2).toNat, (uc n 3).toNat⟩
def recHead : ByteArray := ⟨#[114, 101, 99, 111, 114, 100, 32]⟩
def unrHead : ByteArray := ⟨#[117, 110, 114, 101, 99, 111, 114, 100, 32]⟩
abbrev spB : ByteArray := ⟨#[32]⟩
theorem ids_words : ∀ n ∈ List.range 42, idW n = ⟨#[uc n 0, uc n 1, uc n 2, uc n 3]⟩ ∧ wordsOk (recHead ++ idW n) = true ∧ splitAll (recHead ++ idW n) = [wdRecord, idW n] ∧ wordsOk (unrHead ++ idW n) = true ∧ splitAll (unrHead ++ idW n) = [wdUnrecord, idW n] := by decide +kernel
theorem ids_words3 : ∀ n ∈ List.range 42, ∀ x ∈ names3, wordsOk (recHead ++ idW n ++ (spB ++ x)) = true ∧ splitAll (recHead ++ idW n ++ (spB ++ x)) = [wdRecord, idW n, x] := by decide +kernel
theorem ids_apart : ∀ n ∈ List.range 42, ∀ m ∈ List.range 42, idN n = idN m → n = m := by decide +kernel
theorem ids_zero : ∀ n ∈ List.range 42, 1 ≤ n → idN n ≠ zid := by decide +kernel
theorem idN_ok (n : Nat) : IdOK (idN n) := by
  have h : ∀ u : UInt8, (0 : Int) ≤ (u.toNat : Int) ∧ (u.toNat : Int) < 256 := fun u => by
    have := u.toNat_lt
    omega
  exact ⟨h _, h _, h _, h _⟩
theorem idW_size {n : Nat} (h : n ≤ 41) : (idW n).size = 4 := by
  rw [(ids_words n (List.mem_range.2 (by omega))).1]
  rfl
theorem cLog_ok : wordsOk wdLog = true ∧ splitAll wdLog = [wdLog] := by decide +kernel
theorem cRevert_ok : wordsOk wdRevert = true ∧ splitAll wdRevert = [wdRevert] := by decide +kernel

/-- The ids that were given, when the next is the n-th. -/
def idsTo (n : Nat) : List Pid := (List.range' 1 (n - 1)).map idN
theorem idsTo_len (n : Nat) : (idsTo n).length = n - 1 := by simp [idsTo]
theorem idsTo_next {n : Nat} (h : 1 ≤ n) : idsTo (n + 1) = idsTo n ++ [idN n] := by
  unfold idsTo
  have : n + 1 - 1 = (n - 1) + 1 := by omega
  rw [this, List.range'_concat, List.map_append]
  simp
  congr 1
  omega
theorem idsTo_fresh {n : Nat} (h1 : 1 ≤ n) (h : n ≤ 41) : idN n ∉ idsTo n := by
  unfold idsTo
  intro hm
  obtain ⟨m, hm, e⟩ := List.mem_map.1 hm
  rw [List.mem_range'] at hm
  obtain ⟨i, hi, rfl⟩ := hm
  have := ids_apart _ (List.mem_range.2 (by omega)) n (List.mem_range.2 (by omega)) e
  omega
end Go.Proofs.YtgdfipmdmgkidaaGreatDoor

/- The commands swap and show. -/
namespace Go.Proofs.YtgdfipmdmgkidaaGreatDoor
open Go.RowKit

abbrev wdSwap : ByteArray := ⟨#[115, 119, 97, 112]⟩
abbrev wdShow : ByteArray := ⟨#[115, 104, 111, 119]⟩
def swpHead : ByteArray := ⟨#[115, 119, 97, 112, 32]⟩
def shwHead : ByteArray := ⟨#[115, 104, 111, 119, 32]⟩
set_option maxRecDepth 100000 in
set_option maxHeartbeats 3200000 in
theorem carry45_swap (pb rg wb wo wc : Nat) (a b c d : UInt8) (w : World) (Q : ByteArray → Int → World → Prop) (hw : w.cell? ⟨wb, wo, none⟩ = some (.string wdSwap)) (hw1 : w.cell? ⟨wb, wo + 1, none⟩ = some (.string ⟨#[a, b, c, d]⟩))
    (hN : ∀ u, Below w.heap.size w u → Calls Tryz.prog 75 #[.pointer (some ⟨rg, 0, none⟩), .agg #[.int .u8 a.toNat, .int .u8 b.toNat, .int .u8 c.toNat, .int .u8 d.toNat]] u fun e w' => ∃ x cd, e = .returned (.tuple #[.string x, .int .i64 cd]) ∧ Q x cd w') :
    Calls Tryz.prog 45 #[.pointer (some ⟨pb, 0, none⟩), .pointer (some ⟨rg, 0, none⟩), .slice (some ⟨wb, wo, none⟩) 2 wc] w fun e w' => ∃ x cd, e = .returned (.tuple #[.string x, .int .i64 cd]) ∧ Q x cd w' := by
  have HN : Hid (∀ u, Below w.heap.size w u → Calls Tryz.prog 75 #[.pointer (some ⟨rg, 0, none⟩), .agg #[.int .u8 a.toNat, .int .u8 b.toNat, .int .u8 c.toNat, .int .u8 d.toNat]] u fun e w' => ∃ x cd, e = .returned (.tuple #[.string x, .int .i64 cd]) ∧ Q x cd w') := hN
  have HI : Hid (Calls Tryz.prog 70 #[.string ⟨#[a, b, c, d]⟩] w fun e w' => e = .returned (.agg #[.int .u8 a.toNat, .int .u8 b.toNat, .int .u8 c.toNat, .int .u8 d.toNat]) ∧ Below w.heap.size w w') := idOf51_any a b c d w
  clear hN
  go_enter Tryz.func45, Tryz.ntmps45
  go_wp2_with fail
  refine HI.out.mono ?_
  rintro e w1 ⟨rfl, hb1⟩
  clear HI
  have HN1 := HN.out w1 hb1
  clear HN hw hw1
  have HN2 : Hid (Calls Tryz.prog 75 #[.pointer (some ⟨rg, 0, none⟩), .agg #[.int .u8 a.toNat, .int .u8 b.toNat, .int .u8 c.toNat, .int .u8 d.toNat]] w1 fun e w' => ∃ x cd, e = .returned (.tuple #[.string x, .int .i64 cd]) ∧ Q x cd w') := HN1
  clear HN1
  go_wp2_with fail
  refine HN2.out.mono ?_
  rintro e w2 ⟨x, cd, rfl, hq⟩
  clear HN2
  go_wp2
  go_ret2
  exact ⟨x, cd, rfl, hq⟩

set_option maxRecDepth 100000 in
set_option maxHeartbeats 3200000 in
theorem carry45_show (pb rg wb wo wc : Nat) (a b c d : UInt8) (w : World) (Q : ByteArray → Int → World → Prop) (hw : w.cell? ⟨wb, wo, none⟩ = some (.string wdShow)) (hw1 : w.cell? ⟨wb, wo + 1, none⟩ = some (.string ⟨#[a, b, c, d]⟩))
    (hN : ∀ u, Below w.heap.size w u → Calls Tryz.prog 69 #[.pointer (some ⟨rg, 0, none⟩), .agg #[.int .u8 a.toNat, .int .u8 b.toNat, .int .u8 c.toNat, .int .u8 d.toNat]] u fun e w' => ∃ x cd, e = .returned (.tuple #[.string x, .int .i64 cd]) ∧ Q x cd w') :
    Calls Tryz.prog 45 #[.pointer (some ⟨pb, 0, none⟩), .pointer (some ⟨rg, 0, none⟩), .slice (some ⟨wb, wo, none⟩) 2 wc] w fun e w' => ∃ x cd, e = .returned (.tuple #[.string x, .int .i64 cd]) ∧ Q x cd w' := by
  have HN : Hid (∀ u, Below w.heap.size w u → Calls Tryz.prog 69 #[.pointer (some ⟨rg, 0, none⟩), .agg #[.int .u8 a.toNat, .int .u8 b.toNat, .int .u8 c.toNat, .int .u8 d.toNat]] u fun e w' => ∃ x cd, e = .returned (.tuple #[.string x, .int .i64 cd]) ∧ Q x cd w') := hN
  have HI : Hid (Calls Tryz.prog 70 #[.string ⟨#[a, b, c, d]⟩] w fun e w' => e = .returned (.agg #[.int .u8 a.toNat, .int .u8 b.toNat, .int .u8 c.toNat, .int .u8 d.toNat]) ∧ Below w.heap.size w w') := idOf51_any a b c d w
  clear hN
  go_enter Tryz.func45, Tryz.ntmps45
  go_wp2_with fail
  refine HI.out.mono ?_
  rintro e w1 ⟨rfl, hb1⟩
  clear HI
  have HN1 := HN.out w1 hb1
  clear HN hw hw1
  have HN2 : Hid (Calls Tryz.prog 69 #[.pointer (some ⟨rg, 0, none⟩), .agg #[.int .u8 a.toNat, .int .u8 b.toNat, .int .u8 c.toNat, .int .u8 d.toNat]] w1 fun e w' => ∃ x cd, e = .returned (.tuple #[.string x, .int .i64 cd]) ∧ Q x cd w') := HN1
  clear HN1
  go_wp2_with fail
  refine HN2.out.mono ?_
  rintro e w2 ⟨x, cd, rfl, hq⟩
  clear HN2
  go_wp2
  go_ret2
  exact ⟨x, cd, rfl, hq⟩

theorem ids_swap : ∀ n ∈ List.range 42, wordsOk (swpHead ++ idW n) = true ∧ splitAll (swpHead ++ idW n) = [wdSwap, idW n] ∧ wordsOk (shwHead ++ idW n) = true ∧ splitAll (shwHead ++ idW n) = [wdShow, idW n] := by decide +kernel
end Go.Proofs.YtgdfipmdmgkidaaGreatDoor

/- Mathematics: two patches of a repository change places: all holds as before. -/
namespace Go.Proofs.YtgdfipmdmgkidaaGreatDoor
open Go.RowKit

theorem RepoG.swap {A C : List PM} {P Q : PM} {s : ByteArray → PL} (h : RepoG (A ++ P :: Q :: C) s) (hn : ¬ NeedsP Q P) : RepoG (A ++ Q :: P :: C) s := by
  obtain ⟨st, cnt, hS, hs, hc, hG, hl, hids, hH, hW, hSm⟩ := h
  have hp : (A ++ Q :: P :: C).Perm (A ++ P :: Q :: C) := List.Perm.append_left _ (List.Perm.swap P Q C)
  have hlen : (A ++ Q :: P :: C).length = (A ++ P :: Q :: C).length := hp.length_eq
  have hH' := hH.swap hn
  have hW' : weight (A ++ Q :: P :: C) ≤ 60 * (A ++ Q :: P :: C).length := by rw [weight_perm hp, hlen]; exact hW
  have hSm' : SmallP (A ++ Q :: P :: C) := ⟨fun R hR => hSm.few R (hp.mem_iff.1 hR), fun R hR => hSm.names R (hp.mem_iff.1 hR), fun R hR => hSm.small R (hp.mem_iff.1 hR)⟩
  obtain ⟨st', cnt', k1, k2, k3⟩ := hH'.stands (by omega) hSm' (by omega)
  refine ⟨st', cnt', k1, k2, k3, ⟨hH'.good.1, hH'.good.2, hH'.noz, fun R hR => hG.small R (hp.mem_iff.1 hR), fun x => ?_, hG.lines, hG.lsz⟩, by omega, hH'.nd, hH', hW', hSm'⟩
  rw [hlen]
  exact hG.len x
theorem RepoG.apart {A C : List PM} {P Q : PM} {s : ByteArray → PL} (h : RepoG (A ++ P :: Q :: C) s) : ¬ NeedsP P Q := by
  obtain ⟨_, _, _, _, _, _, _, _, hH, _⟩ := h
  exact hH.apart
theorem FS.swap {A C : List PM} {P Q : PM} {f : ByteArray → Option ByteArray} {s : ByteArray → PL} (h : FS (A ++ P :: Q :: C) f s) (hn : ¬ NeedsP Q P) : FS (A ++ Q :: P :: C) f s := ⟨h.rep.swap hn, h.fnm, h.snm⟩
theorem FS.ids {Ps : List PM} {f : ByteArray → Option ByteArray} {s : ByteArray → PL} (h : FS Ps f s) : (Ps.map (·.id)).Nodup := by
  obtain ⟨_, _, _, _, _, _, _, hids, _⟩ := h.rep
  exact hids
end Go.Proofs.YtgdfipmdmgkidaaGreatDoor

/- Kept of a name of which nothing is kept. -/
namespace Go.Proofs.YtgdfipmdmgkidaaGreatDoor
open Go.RowKit

section
variable {B pb rg cap gb : Nat} {pv : Value} {Ps : List PM} {fb fn : Nat} {f : ByteArray → Option ByteArray} {G : List Pid}
set_option maxRecDepth 100000 in
set_option maxHeartbeats 3200000 in
theorem keptText46_dead {w : World} (h : OneAt w B pb rg cap gb pv Ps fb fn f G) {st : Nat → Nat → ByteArray → PL} {cnt : Nat → Nat} (hs : Stands Ps st cnt) (hPs : Ps.length ≤ 1000) (x : ByteArray) (hx : x.size ≤ 1000) (hnm : nameB x = true) (hal : (st Ps.length 0 x).alive = false) (hS : (st Ps.length 0 x).S.length ≤ 1000000) (hT : (rowText (st Ps.length 0 x).S).size ≤ 1000000000) :
    Calls Tryz.prog 46 #[.pointer (some ⟨rg, 0, none⟩), .string x] w fun e w' => e = .returned (.tuple #[.string ⟨#[]⟩, .int .i64 5]) ∧ Below w.heap.size w w' := by
  have HN : Hid (Calls Tryz.prog 61 #[.string x] w fun e w' => e = .returned (.bool true) ∧ Below w.heap.size w w') := by
    have := isName42_any x w
    rw [hnm] at this
    exact this
  have hkp : keptPL (st Ps.length 0) x = .agg #[.string x, .bool false, .string ⟨#[]⟩] := by unfold keptPL; rw [if_neg (by rw [hal]; simp)]; rfl
  have HF : Hid (∀ w' mb n, n ≤ 100000 → TreeAt w' mb (st Ps.length 0) n → Calls Tryz.prog 78 #[.agg #[.map (some mb)], .string x] w' fun e w'' => e = .returned (.agg #[.string x, .bool false, .string ⟨#[]⟩]) ∧ Below w'.heap.size w' w'') := fun w' mb n hn ht => by
    have := file55_any (st Ps.length 0) mb n x (by omega) w' ht (by omega) hS hT
    rw [hkp] at this
    exact this
  have HK : Hid (∀ u, Below w.heap.size w u → Calls Tryz.prog 77 #[.pointer (some ⟨rg, 0, none⟩)] u fun e w' => ∃ mb n, e = .returned (.agg #[.map (some mb)]) ∧ TreeAt w' mb (st Ps.length 0) n ∧ n ≤ 100000 ∧ u.heap.size ≤ mb ∧ Below u.heap.size u w') := fun u hu => by
    have h1 := h.below hu
    exact kept_any hs h1.view (by omega) h1.r0 h1.lts.2.1
  clear h hs hkp hT hS hal hnm
  go_enter Tryz.func46, Tryz.ntmps46
  go_wp2_with fail
  refine HN.out.mono ?_
  rintro e w1 ⟨rfl, hb1⟩
  clear HN
  go_wp2_with fail
  refine (HK.out w1 hb1).mono ?_
  rintro e w2 ⟨mb, n, rfl, ht, hn, _, hb2⟩
  have HF2 : Hid (Calls Tryz.prog 78 #[.agg #[.map (some mb)], .string x] w2 fun e w'' => e = .returned (.agg #[.string x, .bool false, .string ⟨#[]⟩]) ∧ Below w2.heap.size w2 w'') := HF.out w2 mb n hn ht
  have hs1 := hb1.size
  have hs2 := hb2.size
  clear HK HF ht
  go_wp2_with fail
  refine HF2.out.mono ?_
  rintro e w3 ⟨rfl, hb3⟩
  clear HF2
  have hb4 : Below w.heap.size w w3 := (hb1.trans (hb2.mono hs1)).trans (hb3.mono (by omega))
  go_wp2
  go_ret2
  exact ⟨rfl, hb4.alloc hb4.size _⟩

set_option maxRecDepth 100000 in
set_option maxHeartbeats 1600000 in
/-- World.Kept. -/
theorem kept18_one {w : World} (h : OneAt w B pb rg cap gb pv Ps fb fn f G) {st : Nat → Nat → ByteArray → PL} {cnt : Nat → Nat} (hs : Stands Ps st cnt) (hPs : Ps.length ≤ 1000) (x : ByteArray) (hx : x.size ≤ 1000) (hnm : nameB x = true) (hS : (st Ps.length 0 x).S.length ≤ 1000000) (hT : (rowText (st Ps.length 0 x).S).size ≤ 1000000000) :
    Calls Tryz.prog 18 #[.pointer (some ⟨pb, 0, none⟩), .int .i64 0, .string x] w fun e w' => e = .returned (.tuple #[.string (if (st Ps.length 0 x).alive = true then rowText (st Ps.length 0 x).S else ⟨#[]⟩), .int .i64 (if (st Ps.length 0 x).alive = true then 0 else 5)]) ∧ Below w.heap.size w w' := by
  cases hal : (st Ps.length 0 x).alive
  · have HA : Hid (Calls Tryz.prog 42 #[.pointer (some ⟨pb, 0, none⟩), .int .i64 0] w fun e w' => e = .returned (.bool true) ∧ w' = w) := has26_zero h
    have HK : Hid (Calls Tryz.prog 46 #[.pointer (some ⟨rg, 0, none⟩), .string x] w fun e w' => e = .returned (.tuple #[.string ⟨#[]⟩, .int .i64 5]) ∧ Below w.heap.size w w') := keptText46_dead h hs hPs x hx hnm hal hS hT
    have c0 := h.c0
    have hcap := h.cap1
    clear h hs hal hS hT
    go_enter Tryz.func18, Tryz.ntmps18
    go_wp2_with fail
    refine HA.out.mono ?_
    rintro e w0 ⟨rfl, rfl⟩
    clear HA
    go_wp2_with fail
    refine HK.out.mono ?_
    rintro e w1 ⟨rfl, h2⟩
    clear HK
    go_wp2
    go_ret2
    exact ⟨rfl, h2⟩
  · exact kept13_alive h hs hPs x hx hnm hal hS hT
end
end Go.Proofs.YtgdfipmdmgkidaaGreatDoor
