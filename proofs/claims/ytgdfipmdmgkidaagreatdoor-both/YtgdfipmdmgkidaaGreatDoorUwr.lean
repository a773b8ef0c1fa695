/- A step of a script writes a file. -/
import Derived.Test.YtgdfipmdmgkidaaGreatDoorUedit
import Derived.Test.YtgdfipmdmgkidaaGreatDoorUwrc
import Derived.Test.YtgdfipmdmgkidaaGreatDoorQneed
import Derived.Test.YtgdfipmdmgkidaaGreatDoorQgood
import Derived.Test.YtgdfipmdmgkidaaGreatDoorPstand
import Derived.Lib.SliceRun
import Derived.Deep.QuietTactic
import Derived.BigQuiet
namespace Go.Proofs.YtgdfipmdmgkidaaGreatDoor
open Go.RowKit
section
variable {w : World} {B rb pb rg : Nat} {cap : Cfg} {gb fb n : Nat} {Ps : List PM} {f : ByteArray → Option ByteArray} {s : ByteArray → PL}
theorem run_write (h : RW w B rb pb rg cap gb fb n Ps f s) (p : Ed) (hp : EdOK p) :
    Calls Tryz.prog 24 #[.pointer (some ⟨rb, 0, none⟩), .int .i64 cap.r, edV p] w fun e w' => e = .returned (.bool true) ∧ ∃ f', RW w' B rb pb rg cap gb fb n Ps f' s ∧ Below B w w' ∧ HeldT kin w w' := by
  obtain ⟨x, hx, hnx⟩ := kname49_det p.a hp.2.1.1 hp.2.1.2
  cases hf : f x with
  | none => exact run_write_new h p hp hx hnx hf
  | some t =>
    have htx := (h.uw.fs.fnm x t hf).2
    by_cases hne : cutAll t = []
    · have e : t = ⟨#[]⟩ := by
        have h1 := htx.lines.2.2
        rw [hne] at h1
        rw [← h1]
        rfl
      subst e
      exact run_write_empty h p hp hx hnx hf
    · exact run_write_old h p hp hx hnx hf htx hne
end
end Go.Proofs.YtgdfipmdmgkidaaGreatDoor

/- A step of a script; all of them. -/
set_option maxHeartbeats 3200000
set_option maxRecDepth 100000
namespace Go.Proofs.YtgdfipmdmgkidaaGreatDoor
open Go.RowKit
structure StepS (rb pb eb : Nat) (a : Int) (w : World) : Prop where
  c0 : w.cell? ⟨rb, 0, none⟩ = some (.pointer (some ⟨pb, 0, none⟩))
  c1 : w.cell? ⟨eb, 1, none⟩ = some (.int .i64 a)
section
variable {w : World} {B rb pb rg : Nat} {cap : Cfg} {gb fb n : Nat} {Ps : List PM} {f : ByteArray → Option ByteArray} {s : ByteArray → PL}
theorem run_step (h : RW w B rb pb rg cap gb fb n Ps f s) (p : Ed) (hp : EdOK p) :
    Calls Tryz.prog 51 #[.pointer (some ⟨rb, 0, none⟩), .int .i64 cap.r, edV p] w fun e w' => e = .returned (.bool true) ∧ Goes w w' B rb pb rg cap gb fb n Ps := by
  obtain ⟨kd, a, b, c⟩ := p
  obtain ⟨⟨k1, k2⟩, ⟨a1, a2⟩, _, _⟩ := id hp
  obtain ⟨k, hk, hpk⟩ := kpick23_det kd 8 (by omega) (by omega) k1 k2
  obtain ⟨x, hx, hnx⟩ := kname49_det a a1 a2
  have HP := hid hpk
  have HX := hid hnx
  obtain ⟨w1, hw1⟩ : ∃ w1, w1 = w.alloc (.cells #[.int .i64 kd, .int .i64 a, .int .i64 b, .int .i64 c] 45) := ⟨_, rfl⟩
  have hb1 : Below w.heap.size w w1 := by rw [hw1]; exact (Below.refl _ _).alloc (Nat.le_refl _) _
  have hk1 : w1.heap[w.heap.size]? = some (.cells #[.int .i64 kd, .int .i64 a, .int .i64 b, .int .i64 c] 45 (0, 0)) := by rw [hw1]; exact (MapKept.heap_alloc w _).1
  have hs1 : w.heap.size < w1.heap.size := by rw [hw1]; simp
  obtain ⟨e0, e1, e2, e3⟩ := cells4_of hk1
  have h1 := h.below hb1
  have HH := hid h1
  have HB1 := hid hb1
  have hB := h.base
  have HOK := hid hp
  clear hpk hnx h hb1 hp
  go_enter Tryz.func51, Tryz.ntmps51
  go_wp2_with fail
  rw [← hw1]
  clear hw1
  refine (HP.out _).mono ?_
  rintro e w' ⟨rfl, hww⟩
  have hww' := hww.symm
  clear hww
  subst hww'
  clear HP
  by_cases hk4 : k = 4
  · subst hk4
    have hb2 : Below w1.heap.size w1 w1.drew := (Below.refl _ _).drew
    have h2 := h1.below hb2
    have HS0 : Hid (StepS rb pb w.heap.size a w1.drew) := ⟨h2.at_.c0, e1⟩
    have htb : TB w1.drew w.heap.size 45 := ⟨_, _, hk1⟩
    have HE : Hid (Calls Tryz.prog 80 #[.pointer (some ⟨pb, 0, none⟩), .int .i64 cap.r, .string x] w1.drew fun e w' => ∃ c : Int, e = .returned (.int .i64 c) ∧ (c = 0 ∨ c = 5) ∧ Goes w1 w' B rb pb rg cap gb fb n Ps ∧ StepS rb pb w.heap.size a w') := by
      refine (h2.uw.erase hx).mono ?_
      rintro e w' ⟨c, rfl, hc, hu, hb, hh⟩
      refine ⟨c, rfl, hc, (Goes.put h2 hu h2.ids hb (kin3k hh)).ahead hb2 h1.base, ⟨?_, ?_⟩⟩
      · exact ((h2.put hu h2.ids (kin3k hh)).at_).c0
      · exact (cell_same (hh.keep _ 45 htb (.inr (.inr rfl))) _).trans e1
    clear h1 h2 htb hk1
    go_wp2_with fail
    refine wp_region_Z (StepS rb pb w.heap.size a) 99 (by kernel_rfl) ?_
    refine zt 0 (v := ?z1) HS0.out (fun w0 hS0 => ?hy) ?_
    case hy => obtain ⟨s1, s2⟩ := hS0; go_simp; with_reducible rfl
    simp only [Act.put, List.setIfInBounds_toArray]
    refine zt 1 (v := ?z2) HS0.out (fun w0 hS0 => ?hy) ?_
    case hy => obtain ⟨s1, s2⟩ := hS0; go_simp; with_reducible rfl
    simp only [Act.put]
    refine zt 2 (v := ?z3) HS0.out (fun w0 hS0 => ?hy) ?_
    case hy => obtain ⟨s1, s2⟩ := hS0; go_simp; with_reducible rfl
    simp only [Act.put]
    refine zt 3 (v := ?z4) HS0.out (fun w0 hS0 => ?hy) ?_
    case hy => obtain ⟨s1, s2⟩ := hS0; go_simp; with_reducible rfl
    simp only [Act.put]
    refine zt 4 (v := ?z5) HS0.out (fun w0 hS0 => ?hy) ?_
    case hy => obtain ⟨s1, s2⟩ := hS0; go_simp; with_reducible rfl
    simp only [Act.put]
    refine zt 5 (v := ?z6) HS0.out (fun w0 hS0 => ?hy) ?_
    case hy => obtain ⟨s1, s2⟩ := hS0; go_simp; with_reducible rfl
    simp only [Act.put]
    refine zt 6 (v := ?z7) HS0.out (fun w0 hS0 => ?hy) ?_
    case hy => obtain ⟨s1, s2⟩ := hS0; go_simp; with_reducible rfl
    simp only [Act.put]
    refine wpZ_one 7 _ rfl (by kernel_rfl) (fun KK hK => ?_)
    go_simp
    refine (HX.out _).mono ?_
    rintro e w2 ⟨rfl, rfl⟩
    dsimp only
    refine hK.out _ _ (fun _ => HS0.out) ?_
    clear hK
    refine wpZ_one 8 _ rfl (by kernel_rfl) (fun KK hK => ?_)
    go_simp
    refine HE.out.mono ?_
    rintro e w2 ⟨cd, rfl, hc, hg, hs⟩
    dsimp only
    have HS2 := hid hs
    have HG := hid hg
    refine hK.out _ _ (fun _ => hs) ?_
    clear hK hs hg
    refine zt 9 (v := ?z8) HS2.out (fun w0 hS0 => ?hy) ?_
    case hy => obtain ⟨s1, s2⟩ := hS0; go_simp; with_reducible rfl
    simp only [Act.put, List.setIfInBounds_toArray]
    refine wpZ_done (by kernel_rfl) ?_ _
    rcases hc with rfl | rfl
    · go_wp2_with fail
      go_ret
      exact ⟨rfl, HG.out.ahead HB1.out hB⟩
    · go_wp2_with fail
      go_ret
      exact ⟨rfl, HG.out.ahead HB1.out hB⟩
  by_cases hk5 : k = 5
  · subst hk5
    have HR : Hid (Calls Tryz.prog 29 #[.pointer (some ⟨rb, 0, none⟩), .int .i64 cap.r, .string ⟨#[]⟩] w1 fun e w' => ∃ T, e = .returned (.tuple #[.string T, .bool true]) ∧ Goes w1 w' B rb pb rg cap gb fb n Ps) := (run_all h1).mono fun e w' ⟨T, k1, k2⟩ => ⟨T, k1, k2.goes h1⟩
    clear h1
    go_wp2_with fail
    refine HR.out.mono ?_
    rintro e w2 ⟨T, rfl, hg⟩
    go_wp2_with fail
    go_ret
    exact ⟨rfl, hg.ahead HB1.out hB⟩
  by_cases hk6 : k = 6
  · subst hk6
    have z1 : ¬ 9223372036854775807 < 1 + x.size := by have := (names3_ok x hx).2; omega
    have HR : Hid (Calls Tryz.prog 29 #[.pointer (some ⟨rb, 0, none⟩), .int .i64 cap.r, .string (⟨#[32]⟩ ++ x)] w1 fun e w' => ∃ T, e = .returned (.tuple #[.string T, .bool true]) ∧ Goes w1 w' B rb pb rg cap gb fb n Ps) := (run_one h1 hx).mono fun e w' ⟨T, k1, k2⟩ => ⟨T, k1, k2.goes h1⟩
    clear h1
    go_wp2_with fail
    refine (HX.out _).mono ?_
    rintro e w' ⟨rfl, hww⟩
    have hww' := hww.symm
    clear hww
    subst hww'
    go_wp2_with fail
    refine HR.out.mono ?_
    rintro e w2 ⟨T, rfl, hg⟩
    go_wp2_with fail
    go_ret
    exact ⟨rfl, hg.ahead HB1.out hB⟩
  by_cases hk7 : k = 7
  · subst hk7
    have HR : Hid (Calls Tryz.prog 17 #[.pointer (some ⟨pb, 0, none⟩), .int .i64 cap.r, .string ⟨#[114, 101, 118, 101, 114, 116]⟩] w1 fun e w' => e = .returned (.tuple #[.string ⟨#[]⟩, .int .i64 0]) ∧ Goes w1 w' B rb pb rg cap gb fb n Ps) := h1.uw.revert.mono fun e w' ⟨k1, k2, k3, k4⟩ => ⟨k1, Goes.put h1 k2 h1.ids k3 k4⟩
    obtain ⟨c0, c1⟩ := h1.at_
    clear h1
    go_wp2_with fail
    refine HR.out.mono ?_
    rintro e w2 ⟨rfl, hg⟩
    go_wp2_with fail
    go_ret
    exact ⟨rfl, hg.ahead HB1.out hB⟩
  have HR : Hid (Calls Tryz.prog 24 #[.pointer (some ⟨rb, 0, none⟩), .int .i64 cap.r, .agg #[.int .i64 kd, .int .i64 a, .int .i64 b, .int .i64 c]] w1 fun e w' => e = .returned (.bool true) ∧ Goes w1 w' B rb pb rg cap gb fb n Ps) := (run_write h1 ⟨kd, a, b, c⟩ HOK.out).mono fun e w' ⟨k1, f', k2, k3, k4⟩ => ⟨k1, ⟨n, [], _, _, Nat.le_refl _, by rw [List.append_nil]; exact k2, fun Q hQ => by cases hQ⟩, k3, kin9 k4⟩
  clear h1
  obtain rfl | rfl | rfl | rfl : k = 0 ∨ k = 1 ∨ k = 2 ∨ k = 3 := by omega
  all_goals
    go_wp2_with fail
    refine HR.out.mono ?_
    rintro e w2 ⟨rfl, hg⟩
    go_wp2_with fail
    go_ret
    exact ⟨rfl, hg.ahead HB1.out hB⟩
theorem run_steps (h : RW w B rb pb rg cap gb fb n Ps f s) (L : List Ed) (so : Option Addr) (sc : Nat) (hL : EdsAt w B so L) (hok : ∀ p ∈ L, EdOK p) (hlen : L.length ≤ 9223372036854775807) :
    Calls Tryz.prog 34 #[.pointer (some ⟨rb, 0, none⟩), .int .i64 cap.r, .slice so L.length sc] w fun e w' => e = .returned (.bool true) ∧ Goes w w' B rb pb rg cap gb fb n Ps := by
  have HH : Hid (Goes w w B rb pb rg cap gb fb n Ps) := ⟨⟨n, [], _, _, Nat.le_refl _, by rw [List.append_nil]; exact h, fun Q hQ => by cases hQ⟩, Below.refl _ _, HeldT.refl _⟩
  have HL := hid hL
  have HOK := hid hok
  clear h hL hok
  go_enter Tryz.func34, Tryz.ntmps34
  go_wp2
  go_loopw [7, 8] (fun i _ wr => ∃ k : Nat, k ≤ L.length ∧ i = .int .i64 k ∧ Goes w wr B rb pb rg cap gb fb n Ps) (fun i _ _ => L.length - (intOf i).toNat)
  case atStart => exact ⟨0, Nat.zero_le _, rfl, HH.out⟩
  case round =>
    obtain ⟨k, hk, rfl, hg⟩ := hrel
    clear HH
    by_cases hlt : k < L.length
    · obtain ⟨n', Ps', f', s', hn', hr, hfr⟩ := hg.st
      have hp := List.getElem?_eq_getElem hlt
      obtain ⟨p, hpe⟩ : ∃ p, L[k] = p := ⟨_, rfl⟩
      rw [hpe] at hp
      have hpok := HOK.out p (List.mem_of_getElem? hp)
      rcases HL.out.below hg.below with h0 | ⟨bb, o, rfl, b1, b2, b3⟩
      · subst h0
        simp at hlt
      · obtain ⟨k0, k1, k2, k3⟩ := b3 k p hp
        have HR : Hid (Calls Tryz.prog 51 #[.pointer (some ⟨rb, 0, none⟩), .int .i64 cap.r, edV p] wr fun e w' => e = .returned (.bool true) ∧ Goes w w' B rb pb rg cap gb fb n Ps) := by
          refine (run_step hr p hpok).mono ?_
          rintro e w' ⟨rfl, g2⟩
          obtain ⟨n2, X2, f2, s2, hn2, hr2, hf2⟩ := g2.st
          exact ⟨rfl, ⟨n2, Ps' ++ X2, _, _, by omega, by rw [← List.append_assoc]; exact hr2, fun Q hQ => (List.mem_append.1 hQ).elim (hfr Q) (fun hQ hi => hf2 Q hQ (idsTo_mono hn' hi))⟩, hg.below.trans g2.below, hg.held.trans g2.held⟩
        have q1 : (k : Int) < (L.length : Int) := by omega
        have q2 : IntKind.i64.wrap ((k : Int) + 1) = ((k + 1 : Nat) : Int) := by simp [IntKind.wrap, IntKind.signed, IntKind.bits]; omega
        clear hr hg b3 hp hpok HL HOK
        go_wp2_with fail
        refine HR.out.mono ?_
        rintro e w2 ⟨rfl, hg⟩
        go_wp2
        go_roundw
        case rel => exact ⟨k + 1, by omega, by go_num, hg⟩
        case measure => simp [intOf]; omega
    · have q1 : ¬ (k : Int) < (L.length : Int) := by omega
      go_wp2
      go_ret
      exact ⟨rfl, hg⟩
end
end Go.Proofs.YtgdfipmdmgkidaaGreatDoor

/- A run is begun: two patches, then a script. -/
namespace Go.Proofs.YtgdfipmdmgkidaaGreatDoor
open Go.RowKit
structure Begun (w w' : World) (rb N : Nat) : Prop where
  st : ∃ B pb rg cap gb fb n Ps f s, w.heap.size ≤ B ∧ 3 ≤ n ∧ cap.nr = N ∧ cap.r = 0 ∧ (∀ i, cap.oth i → ∃ b, cap.rep i = emptyRep b) ∧ RW w' B rb pb rg cap gb fb n Ps f s ∧ ∃ P1 P2 X, Ps = P1 :: P2 :: X ∧ (∀ c ∈ P1.Cs, c.1 = nmA) ∧ ∀ c ∈ P2.Cs, c.1 = nmB
  below : Below w.heap.size w w'
set_option maxRecDepth 100000 in
set_option maxHeartbeats 6400000 in
theorem begun_any (w : World) (N : Nat) (h1N : 1 ≤ N) (hN3 : N ≤ 3) (L : List Ed) (so : Option Addr) (sc : Nat) (hL : EdsAt w w.heap.size so L) (hok : ∀ p ∈ L, EdOK p) (hlen : L.length ≤ 9223372036854775807) :
    Calls Tryz.prog 23 #[.int .i64 N, .slice so L.length sc] w fun e w' => ∃ rb, e = .returned (.pointer (some ⟨rb, 0, none⟩)) ∧ Begun w w' rb N := by
  have HL := hid hL
  have HOK := hid hok
  clear hL hok
  go_enter Tryz.func23, Tryz.ntmps23
  go_wp2_with fail
  refine (new10_any w N h1N hN3).mono ?_
  rintro e w1 ⟨pb, rg, cap, gb, fb, rfl, hnr, hr0, hep, h1, hb1⟩
  have HNR := hid hnr
  have HR0 := hid hr0
  have HEP := hid hep
  have HRZ : Hid ((cap.r : Int) = 0) := by show _ = _; omega
  clear hnr hr0 hep h1N hN3
  have hs1 := hb1.size
  have hu1 : UW w1 w.heap.size pb rg cap gb fb [] (fun _ => none) (fun _ => pl0) [] := UW.of FS.nil h1
  obtain ⟨w2, hw2⟩ : ∃ w2, w2 = w1.alloc (.cells #[.pointer (some ⟨pb, 0, none⟩), .int .i64 1] 53) := ⟨_, rfl⟩
  have hb2 : Below w1.heap.size w1 w2 := by rw [hw2]; exact (Below.refl _ _).alloc (Nat.le_refl _) _
  have hk2 : w2.heap[w1.heap.size]? = some (.cells #[.pointer (some ⟨pb, 0, none⟩), .int .i64 1] 53 (0, 0)) := by rw [hw2]; exact (MapKept.heap_alloc w1 _).1
  obtain ⟨rb, hrb⟩ : ∃ rb, rb = w1.heap.size := ⟨_, rfl⟩
  have h2 : RW w2 w.heap.size rb pb rg cap gb fb 1 [] (fun _ => none) (fun _ => pl0) := ⟨by have := hu1.below hb2; exact this, (fun P hP => by cases hP), by omega, by omega, by rw [hrb]; exact hk2, by omega⟩
  have HB2 : Hid (Below w.heap.size w w2) := hb1.trans (hb2.mono hs1)
  -- the first file
  have HW3 : Hid (Calls Tryz.prog 16 #[.pointer (some ⟨pb, 0, none⟩), .int .i64 0, .string ⟨#[97]⟩, .string ⟨#[120, 10, 121, 10, 122, 10]⟩] w2 fun e w' => e = .returned (.int .i64 0) ∧ RW w' w.heap.size rb pb rg cap gb fb 1 [] (fun y => if y = nmA then some tx1 else none) (fun _ => pl0) ∧ Below w.heap.size w w') := by
    have e := h2.uw.write (x := nmA) (t := tx1) (by simp [names3]) tx1_ok
    rw [HRZ.out] at e
    refine e.mono ?_
    rintro e w' ⟨rfl, k1, k2, k3⟩
    exact ⟨rfl, h2.put k1 h2.ids (kin3k k3), HB2.out.trans k2⟩
  clear h1 hb1 hu1 hb2 hk2 h2
  go_wp2_with fail
  rw [← hw2, ← hrb]
  clear hw2 hrb hs1
  refine HW3.out.mono ?_
  rintro e w3 ⟨rfl, h3, hb3⟩
  clear HW3
  have hc1 : chgOf (fun y => if y = nmA then some tx1 else none) (fun _ => pl0) (K0 (fun y => if y = nmA then some tx1 else none) (fun _ => pl0)) = [flOf (fun y => if y = nmA then some tx1 else none) nmA] :=
    chg_only _ _ (by simp [names3]) (by simp) rfl (fun y _ hy => by simp [hy, keptO, pl0])
  have HR4 : Hid (Calls Tryz.prog 29 #[.pointer (some ⟨rb, 0, none⟩), .int .i64 0, .string ⟨#[]⟩] w3 fun e w' => ∃ T, e = .returned (.tuple #[.string T, .bool true]) ∧ T = told1a ∧ (∃ P1 s, RW w' w.heap.size rb pb rg cap gb fb 2 [P1] (fun y => if y = nmA then some tx1 else none) s ∧ (∀ c ∈ P1.Cs, c.1 = nmA) ∧ (s nmA).alive = true ∧ rowText (s nmA).S = tx1 ∧ (∀ y, y ≠ nmA → s y = pl0)) ∧ Below w.heap.size w w') := by
    have e := run_all h3
    rw [HRZ.out] at e
    refine e.mono ?_
    rintro e w' ⟨T, rfl, hA⟩
    rw [hc1] at hA
    rcases hA with ⟨_, hR⟩ | ⟨_, _, h | h | h⟩
    · obtain ⟨P, s', _, k1, k2, k3, _, _, k9⟩ := hR.st
      obtain ⟨g1, g2⟩ := k2 _ (List.mem_singleton.2 rfl)
      refine ⟨T, rfl, ?_, ⟨P, s', k1, (fun c hc => by obtain ⟨g, hg, e⟩ := k9 c hc; rw [List.mem_singleton.1 hg] at e; exact e), by simpa [flOf] using g1, ?_, fun y hy => ?_⟩, hb3.trans hR.below⟩
      · have := tell_add (hR.told.one) rfl
        rw [this]
        exact told1_eq
      · have := g2 (by simp [flOf])
        simpa [flOf] using this
      · exact k3 y (fun g hg e => hy (by rw [List.mem_singleton.1 hg] at e; exact e.symm))
    · cases h
    · cases h
    · cases h
  have HB3 := hid hb3
  clear h3 hb3 hc1 HB2
  go_wp2_with fail
  refine HR4.out.mono ?_
  rintro e w4 ⟨T1, rfl, hT1, ⟨P1, s, h4, hP1, sa1, sa2, sa3⟩, hb4⟩
  clear HR4 HB3
  have HW5 : Hid (Calls Tryz.prog 16 #[.pointer (some ⟨pb, 0, none⟩), .int .i64 0, .string ⟨#[98]⟩, .string ⟨#[120, 10, 121]⟩] w4 fun e w' => e = .returned (.int .i64 0) ∧ RW w' w.heap.size rb pb rg cap gb fb 2 [P1] (fun y => if y = nmB then some tx2 else if y = nmA then some tx1 else none) s ∧ Below w.heap.size w w') := by
    have e := h4.uw.write (x := nmB) (t := tx2) (by simp [names3]) tx2_ok
    rw [HRZ.out] at e
    refine e.mono ?_
    rintro e w' ⟨rfl, k1, k2, k3⟩
    exact ⟨rfl, h4.put k1 h4.ids (kin3k k3), hb4.trans k2⟩
  have hc2 : chgOf (fun y => if y = nmB then some tx2 else if y = nmA then some tx1 else none) s (K0 (fun y => if y = nmB then some tx2 else if y = nmA then some tx1 else none) s) = [flOf (fun y => if y = nmB then some tx2 else if y = nmA then some tx1 else none) nmB] := by
    refine chg_only _ _ (by simp [names3]) (by simp) (by rw [sa3 nmB nmAB]; rfl) (fun y _ hy => ?_)
    by_cases hya : y = nmA
    · subst hya
      simp [keptO, sa1, sa2, hy]
    · simp [hy, hya, keptO, sa3 y hya, pl0]
  have HSB : Hid ((s nmB).alive = false) := by show _ = _; rw [sa3 nmB nmAB]; rfl
  have hT1L : T1.toList = [97, 100, 100, 32, 97, 10, 43, 120, 10, 43, 121, 10, 43, 122, 10] := by rw [hT1]; decide +kernel
  have HC2 := hid hc2
  clear h4 hb4 hc2 sa1 sa2 sa3 hT1
  go_wp2_with fail
  refine HW5.out.mono ?_
  rintro e w5 ⟨rfl, h5, hb5⟩
  clear HW5
  have HR6 : Hid (Calls Tryz.prog 29 #[.pointer (some ⟨rb, 0, none⟩), .int .i64 0, .string ⟨#[]⟩] w5 fun e w' => ∃ T, e = .returned (.tuple #[.string T, .bool true]) ∧ T = told2b ∧ (∃ P2 f s, RW w' w.heap.size rb pb rg cap gb fb 3 [P1, P2] f s ∧ ∀ c ∈ P2.Cs, c.1 = nmB) ∧ Below w.heap.size w w') := by
    have e := run_all h5
    rw [HRZ.out] at e
    refine e.mono ?_
    rintro e w' ⟨T, rfl, hA⟩
    rw [HC2.out] at hA
    rcases hA with ⟨_, hR⟩ | ⟨_, _, h | h | h⟩
    · obtain ⟨P, s', _, k1, _, _, _, _, k9⟩ := hR.st
      refine ⟨T, rfl, ?_, ⟨P, _, _, k1, (fun c hc => by obtain ⟨g, hg, e⟩ := k9 c hc; rw [List.mem_singleton.1 hg] at e; exact e)⟩, hb5.trans hR.below⟩
      have := tell_add (hR.told.one) HSB.out
      rw [this]
      exact told2_eq
    · cases h
    · cases h
    · cases h
  clear h5 hb5 HC2 HSB
  go_wp2_with fail
  refine HR6.out.mono ?_
  rintro e w6 ⟨T2, rfl, hT2, ⟨P2, f2, s2, h6, hP2⟩, hb6⟩
  clear HR6
  have hT2L : T2.toList = [97, 100, 100, 32, 98, 10, 43, 120, 10, 43, 121, 36, 10] := by rw [hT2]; decide +kernel
  have HS7 : Hid (Calls Tryz.prog 34 #[.pointer (some ⟨rb, 0, none⟩), .int .i64 0, .slice so L.length sc] w6 fun e w' => e = .returned (.bool true) ∧ Begun w w' rb N) := by
    have e := run_steps h6 L so sc (HL.out.below hb6) HOK.out hlen
    rw [HRZ.out] at e
    refine e.mono ?_
    rintro e w' ⟨rfl, hg⟩
    obtain ⟨n', X, f', s', hn', hr, -⟩ := hg.st
    exact ⟨rfl, ⟨_, pb, rg, cap, gb, fb, n', _, f', s', Nat.le_refl _, hn', HNR.out, HR0.out, HEP.out, hr, P1, P2, X, rfl, hP1, hP2⟩, hb6.trans hg.below⟩
  clear h6 hb6 hT2
  go_wp2_with fail
  refine HS7.out.mono ?_
  rintro e w7 ⟨rfl, hbg⟩
  have HBG := hid hbg
  clear hbg HS7
  go_wp2_with fail
  go_ret
  exact ⟨rb, rfl, HBG.out⟩
end Go.Proofs.YtgdfipmdmgkidaaGreatDoor

/- Another repository is looked at. -/
namespace Go.Proofs.YtgdfipmdmgkidaaGreatDoor
open Go.RowKit
def Cfg.turn (c : Cfg) (i : Nat) (R : Rep) : Cfg := { c with r := i, rep := fun j => if j = c.r then R else c.rep j }
theorem Cfg.turn_old (c : Cfg) (i : Nat) (R : Rep) : (c.turn i R).rep c.r = R := by simp [Cfg.turn]
theorem Cfg.turn_other {c : Cfg} {i j : Nat} {R : Rep} (h : j ≠ c.r) : (c.turn i R).rep j = c.rep j := by simp [Cfg.turn, h]
section
variable {w : World} {B pb rg : Nat} {cap : Cfg} {gb : Nat} {pv : Value} {Ps : List PM} {fb fn : Nat} {f : ByteArray → Option ByteArray} {G : List Pid}
theorem OneAt.turn (h : OneAt w B pb rg cap gb pv Ps fb fn f G) {i : Nat} (hi : cap.oth i) : OneAt w B pb rg (cap.turn i ⟨pv, Ps, fb, fn, f⟩) gb (cap.rep i).pv (cap.rep i).Ps (cap.rep i).fb (cap.rep i).fn (cap.rep i).f G := by
  have hR := h.oths i hi
  obtain ⟨A, hA, hA0, hA1, hAo⟩ := h.row
  obtain ⟨c1, c2, c3, c4⟩ := h.cap1
  refine ⟨⟨h.lo.1, h.lo.2.1, h.lo.2.2.1, hR.lo⟩, h.wb, ⟨A, hA, (hAo i hi).1, (hAo i hi).2, fun j hj => ?_⟩, h.given, hR.own, hR.chs, hR.files, fun e => hR.ng e.symm, ⟨hi.1, c2, c3, fun j k hj hk hjk => ?_⟩, fun j hj => ?_⟩
  · by_cases e : j = cap.r
    · subst e
      rw [Cfg.turn_old]
      exact ⟨hA0, hA1⟩
    · rw [Cfg.turn_other e]
      exact hAo j ⟨hj.1, e⟩
  · by_cases e : j = cap.r
    · subst e
      rw [Cfg.turn_old, Cfg.turn_other (fun q => hjk q.symm)]
      have hk' := h.oths k ⟨hk.1, fun q => hjk q.symm⟩
      exact ⟨fun q => hk'.nf q.symm, fun q hq hq2 => hk'.far q hq2 hq⟩
    · rw [Cfg.turn_other e]
      by_cases e2 : k = cap.r
      · subst e2
        rw [Cfg.turn_old]
        have hj' := h.oths j ⟨hj.1, e⟩
        exact ⟨hj'.nf, hj'.far⟩
      · rw [Cfg.turn_other e2]
        exact c4 j k ⟨hj.1, e⟩ ⟨hk.1, e2⟩ hjk
  · by_cases e : j = cap.r
    · subst e
      rw [Cfg.turn_old]
      exact ⟨h.lo.2.2.2, h.own, h.chs, h.files, fun q => h.ne q.symm, fun q => hR.nf q.symm, fun k hk hk2 => hR.far k hk2 hk⟩
    · rw [Cfg.turn_other e]
      have hj' := h.oths j ⟨hj.1, e⟩
      obtain ⟨a1, a2⟩ := c4 j i ⟨hj.1, e⟩ hi hj.2
      exact ⟨hj'.lo, hj'.own, hj'.chs, hj'.files, hj'.ng, a1, a2⟩
end
end Go.Proofs.YtgdfipmdmgkidaaGreatDoor

/- The names of a patch; a copy of a list of patches. -/
namespace Go.Proofs.YtgdfipmdmgkidaaGreatDoor
open Go.RowKit
def namesP (P : PM) : List ByteArray := P.Cs.map (·.1)
set_option maxRecDepth 100000 in
set_option maxHeartbeats 3200000 in
theorem names128_any (P : PM) (w : World) (hP : CV w P.cv P.Cs) (hl : P.Cs.length ≤ 1000) :
    Calls Tryz.prog 128 #[pmV P] w fun e w' => ∃ v, e = .returned v ∧ w'.ownsRow w.heap.size 9 1 v (namesP P).length (strs (namesP P)) ∧ Below w.heap.size w w' := by
  obtain ⟨i0, hi0, hz0, hz1, hz2⟩ := info_parts Tryz.info9
  have HQ := hid hP
  obtain ⟨ca, cc, hcv, hcc⟩ := hP
  clear hcc
  rw [hcv] at HQ
  unfold pmV
  rw [hcv]
  have hnl : (namesP P).length = P.Cs.length := by simp [namesP]
  rw [hnl]
  have HNT : Hid (∀ k c, P.Cs[k]? = some c → strs ((namesP P).take (k + 1)) = strs ((namesP P).take k) ++ [.string c.1]) := fun k c hk => by
    have e : (namesP P)[k]? = some c.1 := by unfold namesP; rw [List.getElem?_map, hk]; rfl
    rw [List.take_add_one, e]
    simp [strs]
  obtain ⟨Cs, hCs⟩ : ∃ Cs, P.Cs = Cs := ⟨_, rfl⟩
  rw [hCs] at HQ HNT hl ⊢
  obtain ⟨w2, hw2⟩ : ∃ w2, w2 = w.alloc (.cells #[.int .u8 P.id.a, .int .u8 P.id.b, .int .u8 P.id.c, .int .u8 P.id.d, .slice ca Cs.length cc] 149) := ⟨_, rfl⟩
  have hb2 : Below w.heap.size w w2 := by rw [hw2]; exact (Below.refl _ _).alloc (Nat.le_refl _) _
  have hk2 : w2.heap[w.heap.size]? = some (.cells #[.int .u8 P.id.a, .int .u8 P.id.b, .int .u8 P.id.c, .int .u8 P.id.d, .slice ca Cs.length cc] 149 (0, 0)) := by rw [hw2]; exact (MapKept.heap_alloc w _).1
  have c4 := (cells5_of hk2).2.2.2.2
  have HNL : Hid ((namesP P).length = Cs.length) := by show _ = _; rw [hnl, hCs]
  clear hcv hk2 hCs hnl
  go_enter Tryz.func128, Tryz.ntmps128
  go_upto_region 2 with fail
  rw [← hw2]
  clear hw2
  go_wp2
  clear c4
  go_loopw [3, 9] (fun v x wr => ∃ k : Nat, k ≤ Cs.length ∧ x = .int .i64 k ∧ Hid (wr.ownsRow w.heap.size 9 1 v k (strs ((namesP P).take k))) ∧ Below w.heap.size w wr) (fun _ x _ => Cs.length - (intOf x).toNat)
  case atStart => exact ⟨0, Nat.zero_le _, rfl, World.ownsRow_nil _ _ _ _, hb2⟩
  case round =>
    obtain ⟨k, hk, rfl, HO, hbw⟩ := hrel
    have hsz := hbw.size
    by_cases hlt : k < Cs.length
    · have hd : Cs[k]? = some Cs[k] := List.getElem?_eq_getElem hlt
      have HN1 := hid (HNT.out k _ hd)
      obtain ⟨_, _, e1, hcc⟩ := HQ.out.below hbw (Nat.le_refl _)
      cases e1
      obtain ⟨b, o, rfl, hb, d0, d1, hok⟩ := hcc k _ hd
      obtain ⟨⟨dn, dc⟩, hde⟩ : ∃ d, Cs[k] = d := ⟨_, rfl⟩
      rw [hde] at d0 d1 HN1
      simp only [chV] at d0 d1
      obtain ⟨w4, hw4⟩ : ∃ w4, w4 = wr.alloc (.cells #[.string dn, .iface (chT dc) (chIn dc)] 226) := ⟨_, rfl⟩
      have hb4 : Below wr.heap.size wr w4 := by rw [hw4]; exact (Below.refl _ _).alloc (Nat.le_refl _) _
      have hk4 := (MapKept.heap_alloc wr (.cells #[.string dn, .iface (chT dc) (chIn dc)] 226)).1
      rw [← hw4] at hk4
      have n0 : w4.cell? ⟨wr.heap.size, 0, none⟩ = some (.string dn) := by simp [World.cell?, hk4]
      have ho4 := own_below HO.out hb4 (Nat.le_refl _)
      obtain ⟨va, vc, rfl⟩ := own_shape ho4
      have hb04 : Below w.heap.size w w4 := hbw.trans (hb4.mono hsz)
      have hs4 := hb04.size
      clear hcc hd hde hok hk4 HO hb4
      go_upto_region 5 with fail
      rw [← hw4]
      clear hw4 d0 d1
      go_wp2_with (at_builtin; refine wpList_append_lies _ rfl _ _ _ rfl w.heap.size 9 i0 _ 1 16 Tryz.underlying35 hi0 hz0 hz1 hz2 rfl (by omega) (.slice va k vc) k (strs ((namesP P).take k)) rfl (ho4.alloc _) ⟨w4.heap.size, 0, none⟩ 1 1 [.string dn] rfl rfl (World.news_of_block (cs := #[.string dn]) (t := 9) (fr := (0, 0)) (heap_alloc_new w4 _)) (by simp [Value.oneCell']) (by omega) (by unfold maxLen; omega) (by omega) (by simp; omega) (w4.heap.size + 1) (by simp) ?_; intro g cp wa hownA hgrA hatA hltA)
      have hbA : Below w.heap.size w wa := (hb04.alloc (by omega) _).grown hgrA (by simp; omega) (fun q hq => (ho4.lt q hq).1)
      go_roundw
      case rel =>
        refine ⟨k + 1, by omega, by go_num, ?_, hbA⟩
        rw [HN1.out]
        exact hownA
      case measure => simp [intOf]; omega
    · have e : k = Cs.length := by omega
      subst e
      have e2 : (namesP P).take Cs.length = namesP P := List.take_of_length_le (by rw [HNL.out]; exact Nat.le_refl _)
      rw [e2] at HO
      clear e2
      go_wp2
      go_ret
      exact ⟨_, rfl, HO.out, hbw⟩
end Go.Proofs.YtgdfipmdmgkidaaGreatDoor

/- The patches that are not here. -/
set_option maxHeartbeats 3200000
set_option maxRecDepth 100000
namespace Go.Proofs.YtgdfipmdmgkidaaGreatDoor
open Go.RowKit
theorem pm_cellsOf {w : World} {b o c : Nat} {L : List PM} (h : PV w (.slice (some ⟨b, o, none⟩) L.length c) L) : ∀ j u, (pmCells L)[j]? = some u → w.cell? ⟨b, o + j, none⟩ = some u := by
  intro j u hj
  have hjl := (List.getElem?_eq_some_iff.1 hj).1
  rw [pm_len] at hjl
  have hk : j / 5 < L.length := by omega
  have hL := List.getElem?_eq_getElem hk
  obtain ⟨_, _, e, hc⟩ := h
  cases e
  obtain ⟨b', o', e, _, d0, d1, d2, d3, d4, _⟩ := hc (j / 5) _ hL
  cases e
  obtain ⟨f0, f1, f2, f3, f4⟩ := pm_flat L (j / 5) _ hL
  have hm : j % 5 = 0 ∨ j % 5 = 1 ∨ j % 5 = 2 ∨ j % 5 = 3 ∨ j % 5 = 4 := by omega
  rcases hm with q | q | q | q | q
  · have e : j = j / 5 * 5 := by omega
    rw [e] at hj ⊢
    rw [f0] at hj
    rw [d0, hj]
  · have e : j = j / 5 * 5 + 1 := by omega
    rw [e] at hj ⊢
    rw [f1] at hj
    rw [← Nat.add_assoc, d1, hj]
  · have e : j = j / 5 * 5 + 2 := by omega
    rw [e] at hj ⊢
    rw [f2] at hj
    rw [← Nat.add_assoc, d2, hj]
  · have e : j = j / 5 * 5 + 3 := by omega
    rw [e] at hj ⊢
    rw [f3] at hj
    rw [← Nat.add_assoc, d3, hj]
  · have e : j = j / 5 * 5 + 4 := by omega
    rw [e] at hj ⊢
    rw [f4] at hj
    rw [← Nat.add_assoc, d4, hj]
theorem pm_oneCell {L : List PM} (h : ∀ P ∈ L, ∃ a n c, P.cv = .slice a n c) : ∀ u ∈ pmCells L, u.oneCell' = true := by
  intro u hu
  unfold pmCells at hu
  obtain ⟨P, hP, hu⟩ := List.mem_flatMap.1 hu
  obtain ⟨a, n, c, e⟩ := h P hP
  rw [e] at hu
  simp at hu
  rcases hu with rfl | rfl | rfl | rfl | rfl <;> rfl
theorem clone198_any (L : List PM) (pv : Value) (w : World) (h : PV w pv L) (hl : L.length ≤ 10000) :
    Calls Tryz.prog 198 #[pv] w fun e w' => ∃ v', e = .returned v' ∧ w'.ownsRow w.heap.size 149 5 v' L.length (pmCells L) ∧ Below w.heap.size w w' := by
  obtain ⟨i0, hi0, hz0, hz1, hz2⟩ := info_parts Tryz.info149
  have q84 : ∀ (w : World) (a : Option Addr) (n c n' c' : Nat), (binOp .eql 84 (.slice a n c) (.slice none n' c')).run Tryz.prog w = .ok (.bool a.isNone) w := fun w a n c n' c' => Lib.run_eql_slice_nil w _ _ a n c n' c' Tryz.underlying84
  have hP := h
  obtain ⟨ao, c, rfl, hcc⟩ := h
  have HCV : Hid (∀ P ∈ L, ∃ a n c, P.cv = .slice a n c) := fun P hP' => (hP.cv hP').cvS
  cases ao with
  | none =>
    have hL : L = [] := by
      cases L with
      | nil => rfl
      | cons P L =>
        obtain ⟨_, _, e, _⟩ := hcc 0 P rfl
        cases e
    subst hL
    clear hcc hP HCV
    go_enter Tryz.func198, Tryz.ntmps198
    go_wp2
    go_ret
    exact ⟨_, rfl, World.ownsRow_nil _ _ _ _, Below.refl _ _⟩
  | some ad =>
    have HN : Hid (∀ j u, (pmCells L)[j]? = some u → w.cell? (ad.add j) = some u) := fun j u hj => by
      cases L with
      | nil => simp [pmCells] at hj
      | cons P L =>
        obtain ⟨b, o, e, _⟩ := hcc 0 P rfl
        cases e
        rw [Addr.add_lit]
        exact pm_cellsOf hP j u hj
    have hsz := pm_len L
    clear hcc hP
    go_enter Tryz.func198, Tryz.ntmps198
    go_wp2_with (at_builtin; refine wpList_append_own _ rfl _ _ 84 rfl w.heap.size 149 i0 _ 5 32 Tryz.underlying84 hi0 hz0 hz1 hz2 rfl (by decide) _ _ _ rfl (World.ownsRow_made w #[] 0 (Nat.le_refl _) (Nat.zero_le _) rfl) ad L.length c (pmCells L) rfl ?qc1 ?qc2 ?qc3 ?qc4 ?qc5 ?qc6 ?_)
    case qc1 => exact hsz
    case qc2 => exact fun j u hj => Lib.cell?_alloc_some _ (HN.out j u hj)
    case qc3 => exact pm_oneCell HCV.out
    case qc4 => unfold maxLen; omega
    case qc5 => omega
    case qc6 => simp
    intro v' w1 hown hgrow hnil
    go_wp2
    go_ret
    refine ⟨v', rfl, by simpa using hown, ?_⟩
    exact ((Below.refl _ w).alloc (Nat.le_refl _) _).grown hgrow (by simp) (by intro k hk; simp [Value.ownBlock] at hk; omega)
theorem own_mono {w : World} {B B' n size : Nat} {e : TypeId} {v : Value} {xs : List Value} (h : w.ownsRow B e size v n xs) (hB : B' ≤ B) : w.ownsRow B' e size v n xs :=
  ⟨h.1, h.2.imp id fun ⟨g, cap, cur, e, hb, rest⟩ => ⟨g, cap, cur, e, Nat.le_trans hB hb, rest⟩⟩
def hereB (Ps : List PM) (P : PM) : Bool := Ps.any fun Q => decide (Q.id = P.id)
theorem here197_any (P : PM) (Ps : List PM) (pv : Value) (rg ro ib : Nat) (w : World) (hcv : ∃ a n c, P.cv = .slice a n c) (hi : w.heap[ib]? = some (.cells #[.pointer (some ⟨rg, ro, none⟩)] 93 (0, 0))) (hp : PV w pv Ps) (hl : Ps.length ≤ 10000) (hr : w.cell? ⟨rg, ro, none⟩ = some pv) (hrg : rg < w.heap.size) :
    Calls Tryz.prog 197 #[pmV P, .pointer (some ⟨ib, 0, none⟩)] w fun e w' => e = .returned (.bool (hereB Ps P)) ∧ Below w.heap.size w w' := by
  obtain ⟨ca, cn, cc, hcv⟩ := hcv
  have hib := (Array.getElem?_eq_some_iff.1 hi).1
  obtain ⟨w1, hw1⟩ : ∃ w1, w1 = w.alloc (.cells #[.int .u8 P.id.a, .int .u8 P.id.b, .int .u8 P.id.c, .int .u8 P.id.d, .slice ca cn cc] 149) := ⟨_, rfl⟩
  have hb1 : Below w.heap.size w w1 := by rw [hw1]; exact (Below.refl _ _).alloc (Nat.le_refl _) _
  have hk1 := (MapKept.heap_alloc w (.cells #[.int .u8 P.id.a, .int .u8 P.id.b, .int .u8 P.id.c, .int .u8 P.id.d, .slice ca cn cc] 149)).1
  rw [← hw1] at hk1
  obtain ⟨p0, p1, p2, p3, _⟩ := cells5_of hk1
  have hi1 := (hb1.block ib hib).trans hi
  have c0 : w1.cell? ⟨ib, 0, none⟩ = some (.pointer (some ⟨rg, ro, none⟩)) := by simp [World.cell?, hi1]
  have hx := idx_any Ps (fun Q => decide (Q.id = P.id))
  have HPL := hid (place122_any Ps pv P.id rg ro w1 (hp.below hb1 (Nat.le_refl _)) hl ((hb1.cell (p := ⟨rg, ro, none⟩) hrg).trans hr) (Nat.lt_of_lt_of_le hrg hb1.size))
  have HHB : Hid (decide (idxInt (Ps.findIdx? fun Q => decide (Q.id = P.id)) ≥ 0) = hereB Ps P) := hx
  obtain ⟨xi, hxi⟩ : ∃ xi, idxInt (Ps.findIdx? fun Q => decide (Q.id = P.id)) = xi := ⟨_, rfl⟩
  rw [hxi] at HPL HHB
  unfold pmV
  rw [hcv]
  clear hk1 hi hi1 hx hxi hp hr hcv
  go_enter Tryz.func197, Tryz.ntmps197
  go_upto_region 1 with fail
  rw [← hw1]
  clear hw1
  go_wp2_with fail
  refine HPL.out.mono ?_
  rintro e w2 ⟨rfl, hb2⟩
  clear HPL
  go_wp2
  go_ret
  exact ⟨by rw [← HHB.out]; rfl, hb1.trans (hb2.mono hb1.size)⟩
theorem miss134_any (Os Ps : List PM) (ov pv : Value) (rg ro : Nat) (w : World) (ho : PV w ov Os) (hol : Os.length ≤ 10000) (hp : PV w pv Ps) (hl : Ps.length ≤ 10000) (hr : w.cell? ⟨rg, ro, none⟩ = some pv) (hrg : rg < w.heap.size) :
    Calls Tryz.prog 134 #[.pointer (some ⟨rg, ro, none⟩), ov] w fun e w' => ∃ v, e = .returned v ∧ w'.ownsRow w.heap.size 149 5 v (Os.filter fun P => !hereB Ps P).length (pmCells (Os.filter fun P => !hereB Ps P)) ∧ Below w.heap.size w w' := by
  obtain ⟨w1, hw1⟩ : ∃ w1, w1 = w.alloc (.cells #[.pointer (some ⟨rg, ro, none⟩)] 93) := ⟨_, rfl⟩
  have hb1 : Below w.heap.size w w1 := by rw [hw1]; exact (Below.refl _ _).alloc (Nat.le_refl _) _
  have hk1 : w1.heap[w.heap.size]? = some (.cells #[.pointer (some ⟨rg, ro, none⟩)] 93 (0, 0)) := by rw [hw1]; exact (MapKept.heap_alloc w _).1
  have hs1 : w.heap.size < w1.heap.size := by rw [hw1]; simp
  have HCL := hid (clone198_any Os ov w1 (ho.below hb1 (Nat.le_refl _)) hol)
  have HO := hid ho
  have HP := hid hp
  have HR := hid hr
  have HK1 := hid hk1
  have HB1 := hid hb1
  clear ho hp hr hk1 hb1
  obtain ⟨oa, on, oc, rfl⟩ : ∃ a n c, ov = .slice a n c := by
    obtain ⟨a, c, e, _⟩ := HO.out
    exact ⟨a, _, c, e⟩
  subst hw1
  go_enter Tryz.func134, Tryz.ntmps134
  go_wp2_with fail
  refine HCL.out.mono ?_
  rintro e w2 ⟨v2, rfl, ho2, hb2⟩
  clear HCL
  have hb02 : Below w.heap.size w w2 := HB1.out.trans (hb2.mono (by omega))
  have hk2 := (hb2.block _ hs1).trans HK1.out
  have hbase := fun q hq => (ho2.lt q hq).1
  have HDL := hid (del191_any Os (hereB Ps) 197 w.heap.size _ (fun _ _ => by kernel_rfl) v2 _ w2 ho2 (fun P hP => (HO.out.cv hP).below hb02 (Nat.le_refl _)) (by omega) hk2 (fun A fz e => by simp at e) (fun P hP u hu => by
    have hbu : Below w.heap.size w u := hb02.trans ⟨hu.os, hu.tape, hu.output, hu.size, fun k hk => hu.block k (by have := hb02.size; omega) (fun e => by have := hbase k e.symm; omega)⟩
    have hku := (hu.block w.heap.size (by have := hb2.size; omega) (fun e => by have := hbase _ e.symm; omega)).trans hk2
    exact here197_any P Ps pv rg ro w.heap.size u ((HO.out.cv hP).cvS) hku (HP.out.below hbu (Nat.le_refl _)) hl ((hbu.cell (p := ⟨rg, ro, none⟩) hrg).trans HR.out) (Nat.lt_of_lt_of_le hrg hbu.size)))
  have HBS := hid hbase
  have HB02 := hid hb02
  obtain ⟨va, vc, rfl⟩ := own_shape ho2
  clear ho2 hb2 hb02 hk2 hbase HO HP HR HK1 HB1
  go_wp2_with fail
  refine HDL.out.mono ?_
  rintro e w3 ⟨v3, rfl, ho3, hg3⟩
  clear HDL
  have hb03 : Below w.heap.size w w3 := HB02.out.trans ⟨hg3.os, hg3.tape, hg3.output, hg3.size, fun k hk => hg3.block k (by have := HB02.out.size; omega) (fun e => by have := HBS.out k e.symm; omega)⟩
  go_wp2
  go_ret
  exact ⟨v3, rfl, own_mono ho3 (by omega), hb03⟩
end Go.Proofs.YtgdfipmdmgkidaaGreatDoor

/- Two rows of cells are held against each other. -/
namespace Go.Proofs.YtgdfipmdmgkidaaGreatDoor
open Go.RowKit
theorem run_ne_spot (s t : Spot) (w : World) : (binOp .neq 313 (spV s) (spV t)).run Tryz.prog w = .ok (.bool (!decide (s = t))) w := by
  have h := run_eq_spot s t w
  unfold spV at h ⊢
  unfold binOp at h ⊢
  simp only [Sem.run_bind] at h ⊢
  cases e : (Op.equal 313 (.agg #[.int .u8 s.a, .int .u8 s.b, .int .u8 s.c, .int .u8 s.d, .int .i64 s.num, .string s.line, .bool s.alive]) (.agg #[.int .u8 t.a, .int .u8 t.b, .int .u8 t.c, .int .u8 t.d, .int .i64 t.num, .string t.line, .bool t.alive])).run Tryz.prog w with
  | ok b w' =>
    rw [e] at h
    simp only [Result.andThen_ok, Sem.run_pure, Result.ok.injEq, Value.bool.injEq] at h
    simp [h.1, h.2]
  | halt q w' =>
    rw [e] at h
    cases h
set_option maxRecDepth 100000 in
set_option maxHeartbeats 6400000 in
theorem equal346_any (S T : List Spot) (v1 v2 : Value) (w : World) (h1 : SV w v1 S) (h2 : SV w v2 T) (hl : S.length ≤ 1000000) (_hl2 : T.length ≤ 1000000) :
    Calls Tryz.prog 346 #[v1, v2] w fun e w' => e = .returned (.bool (decide (S = T))) ∧ ∃ q, w' = w.drewN q := by
  obtain ⟨a1, c1, rfl⟩ := h1.shape
  obtain ⟨a2, c2, rfl⟩ := h2.shape
  have H1 := hid h1
  have H2 := hid h2
  clear h1 h2
  by_cases hn : S.length = T.length
  · have hn0 : ((S.length : Int) != (T.length : Int)) = false := by simp [hn]
    have hn1 : ¬ ((S.length : Int) ≠ (T.length : Int)) := by simp [hn]
    go_enter Tryz.func346, Tryz.ntmps346
    go_wp2
    go_loopw [13] (fun x wr => ∃ k : Nat, k ≤ S.length ∧ x = .int .i64 k ∧ Hid (S.take k = T.take k) ∧ Hid (∃ q, wr = w.drewN q)) (fun x _ => S.length - (intOf x).toNat)
    case atStart => exact ⟨0, Nat.zero_le _, rfl, (by show _ = _; simp), ⟨0, rfl⟩⟩
    case round =>
      obtain ⟨k, hk, rfl, HK, HQ⟩ := hrel
      have hbw : Below w.heap.size w wr := by
        obtain ⟨q, rfl⟩ := HQ.out
        exact below_drewN (Below.refl _ _) q
      have HQ2 : Hid (∀ m, ∃ q, wr.drewN m = w.drewN q) := fun m => by
        obtain ⟨q, rfl⟩ := HQ.out
        exact ⟨_, World.drewN_drewN _ _ _⟩
      by_cases hlt : k < S.length
      · have hs : S[k]? = some S[k] := List.getElem?_eq_getElem hlt
        have ht : T[k]? = some (T[k]'(by omega)) := List.getElem?_eq_getElem (by omega)
        obtain ⟨b, o, rfl, hb, p0, p1, p2, p3, p4, p5, p6⟩ := (H1.out.below hbw (Nat.le_refl _)).at hs
        obtain ⟨b', o', rfl, hb', q0, q1, q2, q3, q4, q5, q6⟩ := (H2.out.below hbw (Nat.le_refl _)).at ht
        obtain ⟨s, hss⟩ : ∃ s, S[k] = s := ⟨_, rfl⟩
        obtain ⟨t, htt⟩ : ∃ t, (T[k]'(by omega)) = t := ⟨_, rfl⟩
        rw [hss] at p0 p1 p2 p3 p4 p5 p6 hs
        rw [htt] at q0 q1 q2 q3 q4 q5 q6 ht
        have HS := hid hs
        have HT := hid ht
        have j1 : (k : Int) < (T.length : Int) := by omega
        clear hss htt hs ht hb hb'
        by_cases he : s = t
        · have hq : ∀ u : World, (binOp .neq 313 (.agg #[.int .u8 s.a, .int .u8 s.b, .int .u8 s.c, .int .u8 s.d, .int .i64 s.num, .string s.line, .bool s.alive]) (.agg #[.int .u8 t.a, .int .u8 t.b, .int .u8 t.c, .int .u8 t.d, .int .i64 t.num, .string t.line, .bool t.alive])).run Tryz.prog u = .ok (.bool false) u := fun u => by
            have := run_ne_spot s t u
            rw [decide_eq_true he] at this
            exact this
          have HE := hid he
          clear he
          go_wp2_with fail
          go_quiet (fail)
          go_wp2
          go_roundw
          case rel =>
            refine ⟨k + 1, by omega, by go_num, ?_, HQ2.out _⟩
            show _ = _
            rw [List.take_add_one, List.take_add_one, HK.out, HS.out, HT.out, HE.out]
          case measure => simp [intOf]; omega
        · have hq : ∀ u : World, (binOp .neq 313 (.agg #[.int .u8 s.a, .int .u8 s.b, .int .u8 s.c, .int .u8 s.d, .int .i64 s.num, .string s.line, .bool s.alive]) (.agg #[.int .u8 t.a, .int .u8 t.b, .int .u8 t.c, .int .u8 t.d, .int .i64 t.num, .string t.line, .bool t.alive])).run Tryz.prog u = .ok (.bool true) u := fun u => by
            have := run_ne_spot s t u
            rw [decide_eq_false he] at this
            exact this
          have HE : Hid (S ≠ T) := fun e => he (by
            have := HS.out
            rw [e, HT.out] at this
            simpa using this.symm)
          clear he
          go_wp2_with fail
          go_quiet (fail)
          go_wp2
          go_ret
          exact ⟨by rw [decide_eq_false HE.out]; rfl, HQ2.out _⟩
      · have e : S = T := by
          have := HK.out
          rw [List.take_of_length_le (by omega), List.take_of_length_le (by omega)] at this
          exact this
        have HE := hid e
        clear e
        go_wp2
        go_ret
        exact ⟨by rw [decide_eq_true HE.out]; rfl, HQ.out⟩
  · have hn0 : ((S.length : Int) != (T.length : Int)) = true := by simp; omega
    have hn1 : ((S.length : Int) ≠ (T.length : Int)) := by omega
    have HE : Hid (S ≠ T) := fun e => hn (by rw [e])
    go_enter Tryz.func346, Tryz.ntmps346
    go_wp2
    go_ret
    exact ⟨by rw [decide_eq_false HE.out]; rfl, 0, rfl⟩
end Go.Proofs.YtgdfipmdmgkidaaGreatDoor
