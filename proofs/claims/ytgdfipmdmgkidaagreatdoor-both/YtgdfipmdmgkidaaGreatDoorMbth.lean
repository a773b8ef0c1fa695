/- Two that went on by themselves: either both can take the other's, or neither can. -/
import Derived.Test.YtgdfipmdmgkidaaGreatDoorQboth
namespace Go.Proofs.YtgdfipmdmgkidaaGreatDoor
open Go.RowKit
theorem HWt.fit_at {Q C : List PM} {s t : ByteArray → PL} {m : Nat} {P : PM} (h : HWt (Q ++ C) s) (ht : HWt (Q ++ C.take m) t) (hP : C[m]? = some P) : fitsP P t = true := by
  obtain ⟨st, cnt, hS, _⟩ := h.stands
  have hm := (List.getElem?_eq_some_iff.1 hP).1
  have k := h.at_ hS (Q.length + m) (by simp; omega)
  have e : (Q ++ C).take (Q.length + m) = Q ++ C.take m := by rw [List.take_append, List.take_of_length_le (by omega), Nat.add_sub_cancel_left]
  rw [e] at k
  rw [k.uniq ht]
  exact h.fits hS m P hP
theorem both_cases {C A B : List PM} {sa sb : ByteArray → PL} (hA : HWt (C ++ A) sa) (hB : HWt (C ++ B) sb) (hd : ∀ a ∈ A, ∀ b ∈ B, a.id ≠ b.id) (hBf : ∀ b ∈ B, b.id ∉ (C ++ A).map (·.id)) (hAf : ∀ a ∈ A, a.id ∉ (C ++ B).map (·.id)) (hl : (C ++ A ++ B).length ≤ 40) :
    (∃ t, HWt (C ++ A ++ B) t ∧ HWt (C ++ B ++ A) t) ∨ ∃ m t m' t', m < B.length ∧ HWt (C ++ A ++ B.take m) t ∧ (∀ P, B[m]? = some P → fitsP P t = false) ∧ m' < A.length ∧ HWt (C ++ B ++ A.take m') t' ∧ ∀ P, A[m']? = some P → fitsP P t' = false := by
  obtain ⟨m, t, hm, h1, h2⟩ := hA.far hB hBf hl
  obtain ⟨m', t', hm', k1, k2⟩ := hB.far hA hAf (by simp only [List.length_append] at hl ⊢; omega)
  by_cases e : m = B.length
  · subst e
    rw [List.take_length] at h1
    exact .inl ⟨t, h1, Hist.flip hA hB hd h1⟩
  · by_cases e' : m' = A.length
    · exfalso
      subst e'
      rw [List.take_length] at k1
      have h3 := Hist.flip hB hA (fun b hb a ha e => hd a ha b hb e.symm) k1
      obtain ⟨P, hP⟩ : ∃ P, B[m]? = some P := ⟨_, List.getElem?_eq_getElem (by omega)⟩
      have f1 := h3.fit_at h1 hP
      rw [h2 (by omega) P hP] at f1
      cases f1
    · exact .inr ⟨m, t, m', t', by omega, h1, h2 (by omega), by omega, k1, k2 (by omega)⟩
theorem miss_app (Q X Y : List PM) : missP Q (X ++ Y) = missP Q X ++ missP Q Y := List.filter_append ..
theorem miss_none {Q X : List PM} (h : ∀ P ∈ X, P ∈ Q) : missP Q X = [] := by
  unfold missP
  rw [List.filter_eq_nil_iff]
  intro P hP
  have : hereB Q P = true := List.any_eq_true.2 ⟨P, h P hP, by simp⟩
  simp [this]
theorem miss_id {Q X : List PM} (h : ∀ P ∈ X, P.id ∉ Q.map (·.id)) : missP Q X = X := by
  unfold missP
  rw [List.filter_eq_self]
  intro P hP
  have : hereB Q P = false := by
    unfold hereB
    rw [List.any_eq_false]
    intro R hR e
    exact h P hP (List.mem_map.2 ⟨R, hR, by simpa using e⟩)
  simp [this]
theorem eds_mono {w : World} {B B' : Nat} {so : Option Addr} {L : List Ed} (h : EdsAt w B so L) (hB : B ≤ B') : EdsAt w B' so L := by
  rcases h with h | ⟨b, o, rfl, h1, h2, h3⟩
  · exact .inl h
  · exact .inr ⟨b, o, rfl, Nat.lt_of_lt_of_le h1 hB, h2, h3⟩
section
variable {w : World} {B rb pb rg : Nat} {c : Cfg} {gb fb n : Nat} {Q : List PM} {f : ByteArray → Option ByteArray} {t : ByteArray → PL}
theorem RG.rw_ (h : RG w B rb pb rg c gb fb n Q f t (idsTo n)) (hf : FS Q f t) (hi : ∀ P ∈ Q, P.id ∈ idsTo n) (h1 : 1 ≤ n) (h2 : n ≤ 41) (hl : B ≤ rb) : RW w B rb pb rg c gb fb n Q f t := ⟨⟨hf, h.uw.one⟩, hi, h1, h2, h.run, hl⟩
theorem RW.look (h : RW w B rb pb rg c gb fb n Q f t) {i : Nat} (hi : c.oth i) {pv : Value} {X : List PM} {fb' : Nat} {f' : ByteArray → Option ByteArray} {s : ByteArray → PL} (hR : c.rep i = ⟨pv, X, fb', 3, f'⟩) (hf : FS X f' s) (hid : ∀ P ∈ X, P.id ∈ idsTo n) :
    ∃ c', c'.r = i ∧ c'.nr = c.nr ∧ (∃ pv', c'.rep c.r = ⟨pv', Q, fb, 3, f⟩) ∧ RW w B rb pb rg c' gb fb' n X f' s := by
  obtain ⟨c', h1, h2, h3, _, h5⟩ := h.rg_.look hi (s := s) (by rw [hR]; exact hf.hw) (by rw [hR]; exact fun x hx => hf.mem (.inl hx))
  rw [hR] at h5
  exact ⟨c', h1, h2, h3, h5.rw_ hf hid h.lo h.hi h.lor⟩
end
end Go.Proofs.YtgdfipmdmgkidaaGreatDoor

/- The walk of the statement Both. -/
namespace Go.Proofs.YtgdfipmdmgkidaaGreatDoor
open Go.RowKit
theorem pullHd0 : pullHead 0 = ⟨#[112, 117, 108, 108, 32, 48]⟩ := rfl
theorem pullHd1 : pullHead 1 = ⟨#[112, 117, 108, 108, 32, 49]⟩ := rfl
theorem HWt.kn {Q : List PM} {t : ByteArray → PL} (h : HWt Q t) : ∀ x, (keptO t x).isSome = true → x ∈ names3 := fun x hx => by
  unfold keptO at hx
  split at hx
  · rename_i ha
    exact h.alive ha
  · cases hx
theorem RG.kp {w : World} {B rb pb rg : Nat} {c : Cfg} {gb fb n : Nat} {Q : List PM} {f : ByteArray → Option ByteArray} {t : ByteArray → PL} {G : List Pid} (h : RG w B rb pb rg c gb fb n Q f t G) {r : Int} (hr : (c.r : Int) = r) {u : World} (hu : Below w.heap.size w u) :
    Calls Tryz.prog 26 #[.pointer (some ⟨rb, 0, none⟩), .int .i64 r] u fun e w' => ∃ ao cc, e = .returned (.slice ao 3 cc) ∧ w'.ownsRow u.heap.size 9 1 (.slice ao 3 cc) 3 (strs (keptX t 3)) ∧ Below u.heap.size u w' := by
  have := run_kept (h.below hu)
  rw [hr, show (keptX t 3).length = 3 by simp [keptX]] at this
  refine this.mono ?_
  rintro e w' ⟨v, rfl, hown, hb⟩
  obtain ⟨ao, cc, rfl⟩ := own_shape hown
  exact ⟨ao, cc, rfl, hown, hb⟩
set_option maxRecDepth 100000 in
set_option maxHeartbeats 12800000 in
theorem both12_any (w : World) (L : List Ed) (so : Option Addr) (sc : Nat) (hL : EdsAt w w.heap.size so L) (hok : ∀ p ∈ L, EdOK p) (hlen : L.length ≤ 9223372036854775807) (L1 : List Ed) (s1 : Option Addr) (k1 : Nat) (hL1 : EdsAt w w.heap.size s1 L1) (hok1 : ∀ p ∈ L1, EdOK p) (hlen1 : L1.length ≤ 9223372036854775807) (L2 : List Ed) (s2 : Option Addr) (k2 : Nat) (hL2 : EdsAt w w.heap.size s2 L2) (hok2 : ∀ p ∈ L2, EdOK p) (hlen2 : L2.length ≤ 9223372036854775807) :
    Calls Tryz.prog 12 #[.slice so L.length sc, .slice s1 L1.length k1, .slice s2 L2.length k2] w fun e w' => e = .returned (.bool true) ∧ Below w.heap.size w w' := by
  have HBG := hid (begun_any w 2 (by omega) (by omega) L so sc hL hok hlen)
  have HL1 := hid hL1
  have HL2 := hid hL2
  have HK1 := hid hok1
  have HK2 := hid hok2
  clear hL hok hlen hL1 hL2 hok1 hok2
  go_enter Tryz.func12, Tryz.ntmps12
  go_wp2_with fail
  refine HBG.out.mono ?_
  rintro e w1 ⟨rb, rfl, hbg⟩
  clear HBG
  obtain ⟨B, pb, rg, cap, gb, fb, n0, C, f, s, hBw, hn3, hnr, hr0, hemp, h1, -⟩ := hbg.st
  have hb1 := hbg.below
  clear hbg
  have o1 : cap.oth 1 := ⟨by omega, by omega⟩
  obtain ⟨b1, hb1e⟩ := hemp 1 o1
  have HRV := h1.uw.revert
  rw [hr0] at HRV
  have HRV := hid HRV
  have c0 := h1.at_.c0
  have H1 := hid h1
  have HB1 := hid hb1
  have HB1E := hid hb1e
  have HNR := hid hnr
  have HR0 := hid hr0
  clear h1 hb1 hemp hb1e hnr hr0 o1
  go_wp2_with fail
  refine HRV.out.mono ?_
  rintro e w2 ⟨rfl, hu2, hb2, hh2⟩
  clear HRV c0
  -- the second takes all
  have h2 := H1.out.put hu2 H1.out.ids hh2
  have hB2 : Below w.heap.size w w2 := HB1.out.trans (hb2.mono hBw)
  obtain ⟨c1, c1r, c1n, ⟨pv0, c10⟩, c1o, hc1⟩ := h2.rg_.look (i := 1) ⟨by rw [HNR.out]; omega, by rw [HR0.out]; omega⟩ (s := fun _ => pl0) (by rw [HB1E.out]; exact FS.nil.hw) (fun x hx => by rw [HB1E.out] at hx; cases hx)
  rw [HR0.out] at c10
  rw [HB1E.out] at hc1
  have c1n2 : c1.nr = 2 := by rw [c1n, HNR.out]
  have e1 : (c1.r : Int) = 1 := by rw [c1r]; rfl
  have hm0 : missP [] C = C := miss_id (fun P _ => by simp)
  have hc1' : RG w2 B rb pb rg c1 gb b1 n0 [] (keptO fun _ => pl0) (fun _ => pl0) (idsTo n0) := by rw [← keptO_nil]; exact hc1
  have HPL := hc1'.uw.pull_all (d := 0) (t' := s) ⟨by rw [c1n2]; omega, by rw [c1r]; omega⟩ (by omega) (by rw [c10]; show HWt ([] ++ missP [] C) s; rw [hm0]; exact h2.uw.fs.hw) (by rw [c10]; exact h2.uw.fs.hw.len)
  rw [c10, e1, pullHd0] at HPL
  have HPL := hid HPL
  have c0 := h2.at_.c0
  have H2 := hid h2
  have HB2 := hid hB2
  have HC1 := hid hc1'
  have HC10 := hid c10
  have HC1R := hid c1r
  have HC1N := hid c1n2
  have HM0 := hid hm0
  clear h2 hB2 hc1 hc1' c10 c1r c1n c1n2 c1o hm0 hu2 hb2 hh2 H1 HB1
  go_wp2_with fail
  refine HPL.out.mono ?_
  rintro e w3 ⟨T, rfl, hu3, hb3, hh3⟩
  clear HPL c0
  have hu3' : UH w3 B pb rg c1 gb b1 C (keptO s) s (idsTo n0) := by
    have h := hu3
    rw [show ([] : List PM) ++ missP [] C = C by rw [HM0.out]; rfl] at h
    exact h
  have h3 := (HC1.out.moved hu3' hh3).rw_ H2.out.uw.fs H2.out.ids H2.out.lo H2.out.hi H2.out.lor
  have hB3 : Below w.heap.size w w3 := HB2.out.trans (hb3.mono hBw)
  obtain ⟨c2, c2r, c2n, ⟨pv1, c21⟩, h3'⟩ := h3.look (i := 0) ⟨by rw [HC1N.out]; omega, by rw [HC1R.out]; omega⟩ HC10.out H2.out.uw.fs H2.out.ids
  rw [HC1R.out] at c21
  rw [HC1N.out] at c2n
  have e2 : (c2.r : Int) = 0 := by rw [c2r]; rfl
  have HAL := alike33_true h3'.rg_ h3.rg_ rfl (fun P hP => List.mem_map.2 ⟨P, hP, rfl⟩) rfl
  rw [e1, e2] at HAL
  have HAL := hid HAL
  have H3 := hid h3'
  have HFS := hid H2.out.uw.fs
  have HB3 := hid hB3
  have HC21 := hid c21
  have HC2R := hid c2r
  have HC2N := hid c2n
  clear hu3 hu3' h3 h3' hB3 hb3 hh3 c21 c2r c2n HC1 HC10 HC1R HC1N HM0 H2 HB2 e1
  go_wp2_with fail
  refine HAL.out.mono ?_
  rintro e w4 ⟨rfl, hb4⟩
  clear HAL
  -- the first goes on
  have h4 := H3.out.below hb4
  have hB4 : Below w.heap.size w w4 := HB3.out.trans (hb4.mono HB3.out.size)
  have HSA := run_steps h4 L1 s1 k1 (eds_mono (HL1.out.below hB4) hBw) HK1.out hlen1
  rw [e2] at HSA
  have HSA := hid HSA
  have HIDC := hid h4.ids
  have HB4 := hid hB4
  clear h4 hB4 hb4 H3 HB3 HL1 HK1
  go_wp2_with fail
  refine HSA.out.mono ?_
  rintro e w5 ⟨rfl, hg5⟩
  clear HSA
  obtain ⟨n1, A, f1, sa, hn1, h5, hAf⟩ := hg5.st
  have hB5 : Below w.heap.size w w5 := HB4.out.trans (hg5.below.mono hBw)
  obtain ⟨c3, c3r, c3n, ⟨pv2, c30⟩, h5'⟩ := h5.look (i := 1) ⟨by rw [HC2N.out]; omega, by rw [HC2R.out]; omega⟩ HC21.out HFS.out (fun P hP => idsTo_mono hn1 (HIDC.out P hP))
  rw [HC2R.out] at c30
  rw [HC2N.out] at c3n
  have e3 : (c3.r : Int) = 1 := by rw [c3r]; rfl
  have HSB := run_steps h5' L2 s2 k2 (eds_mono (HL2.out.below hB5) hBw) HK2.out hlen2
  rw [e3] at HSB
  have HSB := hid HSB
  have HFA := hid h5.uw.fs
  have HIDA := hid h5.ids
  have HAF := hid hAf
  have HB5 := hid hB5
  have HC30 := hid c30
  have HC3R := hid c3r
  have HC3N := hid c3n
  clear h5 h5' hB5 hg5 hAf c30 c3r c3n HL2 HK2 HB4 HC21 HC2R HC2N e2
  go_wp2_with fail
  refine HSB.out.mono ?_
  rintro e w6 ⟨rfl, hg6⟩
  clear HSB
  obtain ⟨n2, D, f2, sb, hn2, h6, hDf⟩ := hg6.st
  have hB6 : Below w.heap.size w w6 := HB5.out.trans (hg6.below.mono hBw)
  obtain ⟨c4, c4r, c4n, ⟨pv3, c41⟩, h6'⟩ := h6.look (i := 0) ⟨by rw [HC3N.out]; omega, by rw [HC3R.out]; omega⟩ HC30.out HFA.out (fun P hP => idsTo_mono hn2 (HIDA.out P hP))
  rw [HC3R.out] at c41
  rw [HC3N.out] at c4n
  have e4 : (c4.r : Int) = 0 := by rw [c4r]; rfl
  have HR7 := h6'.uw.revert
  rw [e4] at HR7
  have HR7 := hid HR7
  have c0 := h6'.at_.c0
  have HFD := hid h6.uw.fs
  have HIDD := hid h6.ids
  have HDF := hid hDf
  have H6 := hid h6'
  have HB6 := hid hB6
  have HC41 := hid c41
  have HC4R := hid c4r
  have HC4N := hid c4n
  have hn41 := h6.hi
  clear h6 h6' hB6 hg6 hDf c41 c4r c4n HB5 HC30 HC3R HC3N e3
  go_wp2_with fail
  refine HR7.out.mono ?_
  rintro e w7 ⟨rfl, hu7, hb7, hh7⟩
  clear HR7 c0
  have h7 := H6.out.put hu7 H6.out.ids hh7
  have hB7 : Below w.heap.size w w7 := HB6.out.trans (hb7.mono hBw)
  obtain ⟨c5, c5r, c5n, ⟨pv4, c50⟩, h7'⟩ := h7.look (i := 1) ⟨by rw [HC4N.out]; omega, by rw [HC4R.out]; omega⟩ HC41.out HFD.out HIDD.out
  rw [HC4R.out] at c50
  rw [HC4N.out] at c5n
  have e5 : (c5.r : Int) = 1 := by rw [c5r]; rfl
  have HR8 := h7'.uw.revert
  rw [e5] at HR8
  have HR8 := hid HR8
  have c0 := h7'.at_.c0
  have HFA2 := hid h7.uw.fs
  have HIDA2 := hid h7.ids
  have H7 := hid h7'
  have HB7 := hid hB7
  have HC50 := hid c50
  have HC5R := hid c5r
  have HC5N := hid c5n
  clear h7 h7' hB7 hu7 hb7 hh7 c50 c5r c5n H6 HB6 HC41 HC4R HC4N e4
  go_wp2_with fail
  refine HR8.out.mono ?_
  rintro e w8 ⟨rfl, hu8, hb8, hh8⟩
  clear HR8 c0
  have h8 := H7.out.put hu8 H7.out.ids hh8
  have hB8 : Below w.heap.size w w8 := HB7.out.trans (hb8.mono hBw)
  obtain ⟨c6, c6r, c6n, ⟨pv5, c61⟩, h8'⟩ := h8.look (i := 0) ⟨by rw [HC5N.out]; omega, by rw [HC5R.out]; omega⟩ HC50.out HFA2.out HIDA2.out
  rw [HC5R.out] at c61
  rw [HC5N.out] at c6n
  have e6 : (c6.r : Int) = 0 := by rw [c6r]; rfl
  have g0 := h8'.rg_
  have g1 := h8.rg_
  -- ids
  have hA1 : ∀ a ∈ A, a.id ∈ idsTo n1 := fun a ha => HIDA.out a (List.mem_append.2 (.inr ha))
  have hd : ∀ a ∈ A, ∀ b ∈ D, a.id ≠ b.id := fun a ha b hb e => HDF.out b hb (e ▸ hA1 a ha)
  have hDn : ∀ b ∈ D, b.id ∉ (C ++ A).map (·.id) := fun b hb hm => by
    obtain ⟨P, hP, e⟩ := List.mem_map.1 hm
    exact HDF.out b hb (e ▸ HIDA.out P hP)
  have hAn : ∀ a ∈ A, a.id ∉ (C ++ D).map (·.id) := fun a ha hm => by
    obtain ⟨P, hP, e⟩ := List.mem_map.1 hm
    rcases List.mem_append.1 hP with q | q
    · exact HAF.out a ha (e ▸ HIDC.out P q)
    · exact hd a ha P q e.symm
  have hwA := HFA.out.hw
  have hwD := HFD.out.hw
  have hl40 : (C ++ A ++ D).length ≤ 40 := by
    have hnd : ((C ++ A ++ D).map (·.id)).Nodup := by
      rw [List.map_append, List.nodup_append]
      refine ⟨hwA.hist.nd, ?_, fun a ha b hb e => ?_⟩
      · have := hwD.hist.nd
        rw [List.map_append] at this
        exact (List.nodup_append.1 this).2.1
      · obtain ⟨P, hP, rfl⟩ := List.mem_map.1 hb
        exact hDn P hP (e ▸ ha)
    have hsub : ∀ i ∈ (C ++ A ++ D).map (·.id), i ∈ idsTo n2 := fun i hi => by
      obtain ⟨P, hP, rfl⟩ := List.mem_map.1 hi
      rcases List.mem_append.1 hP with q | q
      · exact idsTo_mono hn2 (HIDA.out P q)
      · exact HIDD.out P (List.mem_append.2 (.inr q))
    have := nodup_len hnd hsub
    rw [List.length_map, idsTo_len] at this
    omega
  have hm1 : missP (C ++ A) (C ++ D) = D := by rw [miss_app, miss_none (fun P hP => List.mem_append.2 (.inl hP)), miss_id hDn, List.nil_append]
  have hm2 : missP (C ++ D) (C ++ A) = A := by rw [miss_app, miss_none (fun P hP => List.mem_append.2 (.inl hP)), miss_id hAn, List.nil_append]
  have hm3 : missP (C ++ D) (C ++ A ++ D) = A := by rw [miss_app, hm2, miss_none (fun P hP => List.mem_append.2 (.inr hP)), List.append_nil]
  have HCS := hid (both_cases hwA hwD hd hDn hAn hl40)
  have HG0 := hid g0
  have HG1 := hid g1
  have HWA := hid hwA
  have HWD := hid hwD
  have HL40 := hid hl40
  have HM1 := hid hm1
  have HM2 := hid hm2
  have HM3 := hid hm3
  have HB8 := hid hB8
  have HC61 := hid c61
  have HC6R := hid c6r
  have HC6N := hid c6n
  have HKX := hid (g0.kp e6 (Below.refl _ _))
  clear h8 h8' g0 g1 hwA hwD hd hDn hAn hA1 hl40 hm1 hm2 hm3 hB8 hu8 hb8 hh8 c61 c6r c6n H7 HB7 HFA2 HIDA2 HFA HFD HIDA HIDD HDF HAF HIDC HFS
  go_wp2_with fail
  refine HKX.out.mono ?_
  rintro e w9 ⟨xa, xc, rfl, hxo, hb9⟩
  have HXO := hid hxo
  have HKY := hid (HG1.out.kp e5 hb9)
  have HB9 := hid hb9
  clear HKX hxo hb9
  go_wp2_with fail
  refine HKY.out.mono ?_
  rintro e wA ⟨ya, yc, rfl, hyo, hbA⟩
  have hb8A : Below w8.heap.size w8 wA := HB9.out.trans (hbA.mono HB9.out.size)
  have g0 := HG0.out.below hb8A
  have g1 := HG1.out.below hb8A
  have HXO2 := hid (own_below HXO.out hbA (Nat.le_refl _))
  have HYO := hid hyo
  have hBA : Below w.heap.size w wA := HB8.out.trans (hb8A.mono HB8.out.size)
  have c0 := (run_at g0.run).c0
  clear HKY hyo hbA hb8A HXO HB9 HB8
  rcases HCS.out with ⟨t, hT1, hT2⟩ | ⟨m, t, m', t', hm, hT, hend, hm', hT', hend'⟩
  · -- each takes what the other has
    clear HCS HXO2 HYO g1 HG0 HG1
    have HP1 := g0.uw.pull_all (d := 1) (t' := t) ⟨by rw [HC6N.out]; omega, by rw [HC6R.out]; omega⟩ (by omega) (by rw [HC61.out]; show HWt (C ++ A ++ missP (C ++ A) (C ++ D)) t; rw [HM1.out]; exact hT1) (by rw [HC61.out]; exact HWD.out.len)
    rw [HC61.out, e6, pullHd1] at HP1
    have HP1 := hid HP1
    have HG := hid g0
    have HT1 := hid hT1
    have HT2 := hid hT2
    have HBA := hid hBA
    clear g0 hT1 hT2 hBA
    go_wp2_with fail
    refine HP1.out.mono ?_
    rintro e wB ⟨T1, rfl, huB, hbB, hhB⟩
    clear HP1 c0
    have huB' : UH wB B pb rg c6 gb fb (C ++ A ++ D) (keptO t) t (idsTo n2) := by
      have h := huB
      rw [show (C ++ A ++ missP (C ++ A) (C ++ D)) = C ++ A ++ D by rw [HM1.out]] at h
      exact h
    have gB := HG.out.moved huB' hhB
    have hBB : Below w.heap.size w wB := HBA.out.trans (hbB.mono hBw)
    obtain ⟨c7, c7r, c7n, ⟨pv6, c70⟩, _, gB'⟩ := gB.look (i := 1) ⟨by rw [HC6N.out]; omega, by rw [HC6R.out]; omega⟩ (s := sb) (by rw [HC61.out]; exact HWD.out) (by rw [HC61.out]; exact HWD.out.kn)
    rw [HC61.out] at gB'
    rw [HC6R.out] at c70
    rw [HC6N.out] at c7n
    have e7 : (c7.r : Int) = 1 := by rw [c7r]; rfl
    have HP2 := gB'.uw.pull_all (d := 0) (t' := t) ⟨by rw [c7n]; omega, by rw [c7r]; omega⟩ (by omega) (by rw [c70]; show HWt (C ++ D ++ missP (C ++ D) (C ++ A ++ D)) t; rw [HM3.out]; exact HT2.out) (by rw [c70]; exact HL40.out)
    rw [c70, e7, pullHd0] at HP2
    have HP2 := hid HP2
    have c0 := (run_at gB.run).c0
    have HGB := hid gB'
    have HC70 := hid c70
    have HC7R := hid c7r
    have HC7N := hid c7n
    have HBB := hid hBB
    clear huB huB' hbB hhB gB gB' hBB c70 c7r c7n HG HBA
    go_wp2_with fail
    refine HP2.out.mono ?_
    rintro e wC ⟨T2, rfl, huC, hbC, hhC⟩
    clear HP2 c0
    have huC' : UH wC B pb rg c7 gb b1 (C ++ D ++ A) (keptO t) t (idsTo n2) := by
      have h := huC
      rw [show (C ++ D ++ missP (C ++ D) (C ++ A ++ D)) = C ++ D ++ A by rw [HM3.out]] at h
      exact h
    have gC := HGB.out.moved huC' hhC
    have hBC : Below w.heap.size w wC := HBB.out.trans (hbC.mono hBw)
    obtain ⟨c8, c8r, _, _, _, gC'⟩ := gC.look (i := 0) ⟨by rw [HC7N.out]; omega, by rw [HC7R.out]; omega⟩ (s := t) (by rw [HC70.out]; exact HT1.out) (by rw [HC70.out]; exact HT1.out.kn)
    rw [HC70.out] at gC'
    have e8 : (c8.r : Int) = 0 := by rw [c8r]; rfl
    have HAK := alike33_true gC' gC (by simp only [List.length_append]; omega) (fun P hP => List.mem_map.2 ⟨P, by simp only [List.mem_append] at hP ⊢; rcases hP with (q | q) | q <;> simp [q], rfl⟩) rfl
    rw [e8, e7] at HAK
    have HAK := hid HAK
    have HBC := hid hBC
    clear huC huC' hbC hhC gC gC' hBC HGB HBB c8r
    go_wp2_with fail
    refine HAK.out.mono ?_
    rintro e wD ⟨rfl, hbD⟩
    clear HAK
    go_wp2
    go_ret
    exact ⟨rfl, HBC.out.trans (hbD.mono HBC.out.size)⟩
  · -- neither can
    clear HCS
    have HP1 := g0.uw.pull_clash (d := 1) (m := m) (t' := t) ⟨by rw [HC6N.out]; omega, by rw [HC6R.out]; omega⟩ (by omega) (by rw [HC61.out]; show HWt (C ++ A ++ (missP (C ++ A) (C ++ D)).take m) t; rw [HM1.out]; exact hT) (by rw [HC61.out]; show m < (missP (C ++ A) (C ++ D)).length; rw [HM1.out]; exact hm) (by rw [HC61.out]; show ∀ P, (missP (C ++ A) (C ++ D))[m]? = some P → _; rw [HM1.out]; exact hend) (by rw [HC61.out]; exact HWD.out.sm) (by rw [HC61.out]; exact HWD.out.len)
    rw [e6, pullHd1] at HP1
    have HP1 := hid HP1
    have HG0 := hid g0
    have HG1 := hid g1
    have HT' := hid hT'
    have HEND' := hid hend'
    have HBA := hid hBA
    clear g0 g1 hT hend hT' hend' hBA hm
    go_wp2_with fail
    refine HP1.out.mono ?_
    rintro e wB ⟨Pa, rfl, hbB⟩
    clear HP1 c0
    have g1 := HG1.out.below hbB
    have c0 := (run_at g1.run).c0
    have HP2 := g1.uw.pull_clash (d := 0) (m := m') (t' := t') ⟨by rw [HC5N.out]; omega, by rw [HC5R.out]; omega⟩ (by omega) (by rw [HC50.out]; show HWt (C ++ D ++ (missP (C ++ D) (C ++ A)).take m') t'; rw [HM2.out]; exact HT'.out) (by rw [HC50.out]; show m' < (missP (C ++ D) (C ++ A)).length; rw [HM2.out]; exact hm') (by rw [HC50.out]; show ∀ P, (missP (C ++ D) (C ++ A))[m']? = some P → _; rw [HM2.out]; exact HEND'.out) (by rw [HC50.out]; exact HWA.out.sm) (by rw [HC50.out]; exact HWA.out.len)
    rw [e5, pullHd0] at HP2
    have HP2 := hid HP2
    have HBB := hid hbB
    have z1 := idText_size Pa.id
    obtain ⟨ta, hta⟩ : ∃ ta, idText Pa.id = ta := ⟨_, rfl⟩
    rw [hta] at z1 ⊢
    clear g1 hbB HT' HEND' hm' hta
    go_wp2_with fail
    refine HP2.out.mono ?_
    rintro e wC ⟨Pb, rfl, hbC⟩
    clear HP2 c0
    have hbAC : Below wA.heap.size wA wC := HBB.out.trans (hbC.mono HBB.out.size)
    have z2 := idText_size Pb.id
    obtain ⟨tb, htb⟩ : ∃ tb, idText Pb.id = tb := ⟨_, rfl⟩
    rw [htb] at z2 ⊢
    have HKa := hid (HG0.out.kp e6 hbAC)
    have HBAC := hid hbAC
    clear htb hbC hbAC HBB
    go_wp2_with fail
    refine HKa.out.mono ?_
    rintro e wD ⟨aa, ac, rfl, hao, hbD⟩
    have hbAD : Below wA.heap.size wA wD := HBAC.out.trans (hbD.mono HBAC.out.size)
    have HAO := hid hao
    have HKb := hid (HG1.out.kp e5 hbAD)
    have HBAD := hid hbAD
    clear HKa hao hbD hbAD HBAC
    go_wp2_with fail
    refine HKb.out.mono ?_
    rintro e wE ⟨ba, bc, rfl, hbo, hbE⟩
    have hbAE : Below wA.heap.size wA wE := HBAD.out.trans (hbE.mono HBAD.out.size)
    have HS1 := hid (same21_any (show (keptX sa 3).length = 3 by simp [keptX]) (own_below HAO.out hbE (Nat.le_refl _)) (own_below HXO2.out hbAE (Nat.le_refl _)) (by omega))
    have HBO := hid hbo
    have HBAE := hid hbAE
    clear HKb hbo hbE hbAE HBAD HAO HXO2
    go_wp2_with fail
    refine HS1.out.mono ?_
    rintro e wF ⟨rfl, hbF⟩
    have hbAF : Below wA.heap.size wA wF := HBAE.out.trans (hbF.mono HBAE.out.size)
    have HS2 := hid (same21_any (show (keptX sb 3).length = 3 by simp [keptX]) (own_below HBO.out hbF (Nat.le_refl _)) (own_below HYO.out hbAF (Nat.le_refl _)) (by omega))
    have HBAF := hid hbAF
    clear HS1 hbF hbAF HBO HYO HBAE
    go_wp2_with fail
    refine HS2.out.mono ?_
    rintro e wG ⟨rfl, hbG⟩
    have hbAG : Below wA.heap.size wA wG := HBAF.out.trans (hbG.mono HBAF.out.size)
    clear HS2
    have q1 : ((ta.size : Int) == 4) = true := by rw [z1]; rfl
    have q2 : ((tb.size : Int) == 4) = true := by rw [z2]; rfl
    go_wp2
    go_ret
    exact ⟨rfl, HBA.out.trans (hbAG.mono HBA.out.size)⟩
end Go.Proofs.YtgdfipmdmgkidaaGreatDoor
