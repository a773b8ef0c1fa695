/- A step of a script writes a file. -/
import Derived.Test.YtgdfipmdmgkidaaGreatDoorUwrb
import Derived.Test.YtgdfipmdmgkidaaGreatDoorUwrc
namespace Go.Proofs.YtgdfipmdmgkidaaGreatDoor
open Go.RowKit
section
variable {w : World} {B rb pb rg cap gb fb n : Nat} {Ps : List PM} {f : ByteArray → Option ByteArray} {s : ByteArray → PL}
theorem run_write (h : RW w B rb pb rg cap gb fb n Ps f s) (p : Ed) (hp : EdOK p) :
    Calls Tryz.prog 24 #[.pointer (some ⟨rb, 0, none⟩), .int .i64 0, edV p] w fun e w' => e = .returned (.bool true) ∧ ∃ f', RW w' B rb pb rg cap gb fb n Ps f' s ∧ Below B w w' ∧ HeldT kin w w' := by
  obtain ⟨x, hx, hnx⟩ := kname49_det p.a hp.2.1.1 hp.2.1.2
  cases hf : f x with
  | none => exact run_write_new h p hp hx hnx hf
  | some t =>
    have htx := (h.uw.fs.fnm x t hf).2
    by_cases hne : cutAll t = []
    · have e : t = ⟨#[]⟩ := by
        have h1 := htx.lines.2.2
        rw [hne] at h1
        rw [← h1]
        rfl
      subst e
      exact run_write_empty h p hp hx hnx hf
    · exact run_write_old h p hp hx hnx hf htx hne
end
end Go.Proofs.YtgdfipmdmgkidaaGreatDoor

/- A step of a script; all of them. -/
namespace Go.Proofs.YtgdfipmdmgkidaaGreatDoor
open Go.RowKit

structure StepS (rb pb eb : Nat) (a : Int) (w : World) : Prop where
  c0 : w.cell? ⟨rb, 0, none⟩ = some (.pointer (some ⟨pb, 0, none⟩))
  c1 : w.cell? ⟨eb, 1, none⟩ = some (.int .i64 a)
section
variable {w : World} {B rb pb rg cap gb fb n : Nat} {Ps : List PM} {f : ByteArray → Option ByteArray} {s : ByteArray → PL}
set_option maxRecDepth 100000 in
set_option maxHeartbeats 3200000 in
theorem run_step (h : RW w B rb pb rg cap gb fb n Ps f s) (p : Ed) (hp : EdOK p) :
    Calls Tryz.prog 51 #[.pointer (some ⟨rb, 0, none⟩), .int .i64 0, edV p] w fun e w' => e = .returned (.bool true) ∧ Goes w w' B rb pb rg cap gb fb n Ps := by
  obtain ⟨kd, a, b, c⟩ := p
  obtain ⟨⟨k1, k2⟩, ⟨a1, a2⟩, _, _⟩ := id hp
  obtain ⟨k, hk, hpk⟩ := kpick23_det kd 8 (by omega) (by omega) k1 k2
  obtain ⟨x, hx, hnx⟩ := kname49_det a a1 a2
  have HP := hid hpk
  have HX := hid hnx
  obtain ⟨w1, hw1⟩ : ∃ w1, w1 = w.alloc (.cells #[.int .i64 kd, .int .i64 a, .int .i64 b, .int .i64 c] 45) := ⟨_, rfl⟩
  have hb1 : Below w.heap.size w w1 := by rw [hw1]; exact (Below.refl _ _).alloc (Nat.le_refl _) _
  have hk1 : w1.heap[w.heap.size]? = some (.cells #[.int .i64 kd, .int .i64 a, .int .i64 b, .int .i64 c] 45 (0, 0)) := by rw [hw1]; exact (MapKept.heap_alloc w _).1
  have hs1 : w.heap.size < w1.heap.size := by rw [hw1]; simp
  obtain ⟨e0, e1, e2, e3⟩ := cells4_of hk1
  have h1 := h.below hb1
  have HH := hid h1
  have HB1 := hid hb1
  have hB := h.base
  have HOK := hid hp
  clear hpk hnx h hb1 hp
  go_enter Tryz.func51, Tryz.ntmps51
  go_wp2_with fail
  rw [← hw1]
  clear hw1
  refine (HP.out _).mono ?_
  rintro e w' ⟨rfl, hww⟩
  have hww' := hww.symm
  clear hww
  subst hww'
  clear HP
  by_cases hk4 : k = 4
  · subst hk4
    have hb2 : Below w1.heap.size w1 w1.drew := (Below.refl _ _).drew
    have h2 := h1.below hb2
    have HS0 : Hid (StepS rb pb w.heap.size a w1.drew) := ⟨h2.at_.c0, e1⟩
    have htb : TB w1.drew w.heap.size 45 := ⟨_, _, hk1⟩
    have HE : Hid (Calls Tryz.prog 80 #[.pointer (some ⟨pb, 0, none⟩), .int .i64 0, .string x] w1.drew fun e w' => ∃ c : Int, e = .returned (.int .i64 c) ∧ (c = 0 ∨ c = 5) ∧ Goes w1 w' B rb pb rg cap gb fb n Ps ∧ StepS rb pb w.heap.size a w') := by
      refine (h2.uw.erase hx).mono ?_
      rintro e w' ⟨c, rfl, hc, hu, hb, hh⟩
      refine ⟨c, rfl, hc, (Goes.put h2 hu h2.ids hb (kin3k hh)).ahead hb2 h1.base, ⟨?_, ?_⟩⟩
      · exact ((h2.put hu h2.ids (kin3k hh)).at_).c0
      · exact (cell_same (hh.keep _ 45 htb (.inr (.inr rfl))) _).trans e1
    clear h1 h2 htb hk1
    go_wp2_with fail
    refine wp_region_Z (StepS rb pb w.heap.size a) 99 (by kernel_rfl) ?_
    refine zt 0 (v := ?z1) HS0.out (fun w0 hS0 => ?hy) ?_
    case hy => obtain ⟨s1, s2⟩ := hS0; go_simp; with_reducible rfl
    simp only [Act.put, List.setIfInBounds_toArray]
    refine zt 1 (v := ?z2) HS0.out (fun w0 hS0 => ?hy) ?_
    case hy => obtain ⟨s1, s2⟩ := hS0; go_simp; with_reducible rfl
    simp only [Act.put]
    refine zt 2 (v := ?z3) HS0.out (fun w0 hS0 => ?hy) ?_
    case hy => obtain ⟨s1, s2⟩ := hS0; go_simp; with_reducible rfl
    simp only [Act.put]
    refine zt 3 (v := ?z4) HS0.out (fun w0 hS0 => ?hy) ?_
    case hy => obtain ⟨s1, s2⟩ := hS0; go_simp; with_reducible rfl
    simp only [Act.put]
    refine zt 4 (v := ?z5) HS0.out (fun w0 hS0 => ?hy) ?_
    case hy => obtain ⟨s1, s2⟩ := hS0; go_simp; with_reducible rfl
    simp only [Act.put]
    refine zt 5 (v := ?z6) HS0.out (fun w0 hS0 => ?hy) ?_
    case hy => obtain ⟨s1, s2⟩ := hS0; go_simp; with_reducible rfl
    simp only [Act.put]
    refine zt 6 (v := ?z7) HS0.out (fun w0 hS0 => ?hy) ?_
    case hy => obtain ⟨s1, s2⟩ := hS0; go_simp; with_reducible rfl
    simp only [Act.put]
    refine wpZ_one 7 _ rfl (by kernel_rfl) (fun KK hK => ?_)
    go_simp
    refine (HX.out _).mono ?_
    rintro e w2 ⟨rfl, rfl⟩
    dsimp only
    refine hK.out _ _ (fun _ => HS0.out) ?_
    clear hK
    refine wpZ_one 8 _ rfl (by kernel_rfl) (fun KK hK => ?_)
    go_simp
    refine HE.out.mono ?_
    rintro e w2 ⟨cd, rfl, hc, hg, hs⟩
    dsimp only
    have HS2 := hid hs
    have HG := hid hg
    refine hK.out _ _ (fun _ => hs) ?_
    clear hK hs hg
    refine zt 9 (v := ?z8) HS2.out (fun w0 hS0 => ?hy) ?_
    case hy => obtain ⟨s1, s2⟩ := hS0; go_simp; with_reducible rfl
    simp only [Act.put, List.setIfInBounds_toArray]
    refine wpZ_done (by kernel_rfl) ?_ _
    rcases hc with rfl | rfl
    · go_wp2_with fail
      go_ret
      exact ⟨rfl, HG.out.ahead HB1.out hB⟩
    · go_wp2_with fail
      go_ret
      exact ⟨rfl, HG.out.ahead HB1.out hB⟩
  by_cases hk5 : k = 5
  · subst hk5
    have HR : Hid (Calls Tryz.prog 29 #[.pointer (some ⟨rb, 0, none⟩), .int .i64 0, .string ⟨#[]⟩] w1 fun e w' => ∃ T, e = .returned (.tuple #[.string T, .bool true]) ∧ Goes w1 w' B rb pb rg cap gb fb n Ps) := (run_all h1).mono fun e w' ⟨T, k1, k2⟩ => ⟨T, k1, k2.goes h1⟩
    clear h1
    go_wp2_with fail
    refine HR.out.mono ?_
    rintro e w2 ⟨T, rfl, hg⟩
    go_wp2_with fail
    go_ret
    exact ⟨rfl, hg.ahead HB1.out hB⟩
  by_cases hk6 : k = 6
  · subst hk6
    have z1 : ¬ 9223372036854775807 < 1 + x.size := by have := (names3_ok x hx).2; omega
    have HR : Hid (Calls Tryz.prog 29 #[.pointer (some ⟨rb, 0, none⟩), .int .i64 0, .string (⟨#[32]⟩ ++ x)] w1 fun e w' => ∃ T, e = .returned (.tuple #[.string T, .bool true]) ∧ Goes w1 w' B rb pb rg cap gb fb n Ps) := (run_one h1 hx).mono fun e w' ⟨T, k1, k2⟩ => ⟨T, k1, k2.goes h1⟩
    clear h1
    go_wp2_with fail
    refine (HX.out _).mono ?_
    rintro e w' ⟨rfl, hww⟩
    have hww' := hww.symm
    clear hww
    subst hww'
    go_wp2_with fail
    refine HR.out.mono ?_
    rintro e w2 ⟨T, rfl, hg⟩
    go_wp2_with fail
    go_ret
    exact ⟨rfl, hg.ahead HB1.out hB⟩
  by_cases hk7 : k = 7
  · subst hk7
    have HR : Hid (Calls Tryz.prog 17 #[.pointer (some ⟨pb, 0, none⟩), .int .i64 0, .string ⟨#[114, 101, 118, 101, 114, 116]⟩] w1 fun e w' => e = .returned (.tuple #[.string ⟨#[]⟩, .int .i64 0]) ∧ Goes w1 w' B rb pb rg cap gb fb n Ps) := h1.uw.revert.mono fun e w' ⟨k1, k2, k3, k4⟩ => ⟨k1, Goes.put h1 k2 h1.ids k3 k4⟩
    obtain ⟨c0, c1⟩ := h1.at_
    clear h1
    go_wp2_with fail
    refine HR.out.mono ?_
    rintro e w2 ⟨rfl, hg⟩
    go_wp2_with fail
    go_ret
    exact ⟨rfl, hg.ahead HB1.out hB⟩
  have HR : Hid (Calls Tryz.prog 24 #[.pointer (some ⟨rb, 0, none⟩), .int .i64 0, .agg #[.int .i64 kd, .int .i64 a, .int .i64 b, .int .i64 c]] w1 fun e w' => e = .returned (.bool true) ∧ Goes w1 w' B rb pb rg cap gb fb n Ps) := (run_write h1 ⟨kd, a, b, c⟩ HOK.out).mono fun e w' ⟨k1, f', k2, k3, k4⟩ => ⟨k1, ⟨n, [], _, _, Nat.le_refl _, by rw [List.append_nil]; exact k2⟩, k3, kin9 k4⟩
  clear h1
  obtain rfl | rfl | rfl | rfl : k = 0 ∨ k = 1 ∨ k = 2 ∨ k = 3 := by omega
  all_goals
    go_wp2_with fail
    refine HR.out.mono ?_
    rintro e w2 ⟨rfl, hg⟩
    go_wp2_with fail
    go_ret
    exact ⟨rfl, hg.ahead HB1.out hB⟩

set_option maxRecDepth 100000 in
set_option maxHeartbeats 3200000 in
theorem run_steps (h : RW w B rb pb rg cap gb fb n Ps f s) (L : List Ed) (so : Option Addr) (sc : Nat) (hL : EdsAt w B so L) (hok : ∀ p ∈ L, EdOK p) (hlen : L.length ≤ 9223372036854775807) :
    Calls Tryz.prog 34 #[.pointer (some ⟨rb, 0, none⟩), .int .i64 0, .slice so L.length sc] w fun e w' => e = .returned (.bool true) ∧ Goes w w' B rb pb rg cap gb fb n Ps := by
  have HH : Hid (Goes w w B rb pb rg cap gb fb n Ps) := ⟨⟨n, [], _, _, Nat.le_refl _, by rw [List.append_nil]; exact h⟩, Below.refl _ _, HeldT.refl _⟩
  have HL := hid hL
  have HOK := hid hok
  clear h hL hok
  go_enter Tryz.func34, Tryz.ntmps34
  go_wp2
  go_loopw [7, 8] (fun i _ wr => ∃ k : Nat, k ≤ L.length ∧ i = .int .i64 k ∧ Goes w wr B rb pb rg cap gb fb n Ps) (fun i _ _ => L.length - (intOf i).toNat)
  case atStart => exact ⟨0, Nat.zero_le _, rfl, HH.out⟩
  case round =>
    obtain ⟨k, hk, rfl, hg⟩ := hrel
    clear HH
    by_cases hlt : k < L.length
    · obtain ⟨n', Ps', f', s', hn', hr⟩ := hg.st
      have hp := List.getElem?_eq_getElem hlt
      obtain ⟨p, hpe⟩ : ∃ p, L[k] = p := ⟨_, rfl⟩
      rw [hpe] at hp
      have hpok := HOK.out p (List.mem_of_getElem? hp)
      rcases HL.out.below hg.below with h0 | ⟨bb, o, rfl, b1, b2, b3⟩
      · subst h0
        simp at hlt
      · obtain ⟨k0, k1, k2, k3⟩ := b3 k p hp
        have HR : Hid (Calls Tryz.prog 51 #[.pointer (some ⟨rb, 0, none⟩), .int .i64 0, edV p] wr fun e w' => e = .returned (.bool true) ∧ Goes w w' B rb pb rg cap gb fb n Ps) := by
          refine (run_step hr p hpok).mono ?_
          rintro e w' ⟨rfl, g2⟩
          obtain ⟨n2, X2, f2, s2, hn2, hr2⟩ := g2.st
          exact ⟨rfl, ⟨n2, Ps' ++ X2, _, _, by omega, by rw [← List.append_assoc]; exact hr2⟩, hg.below.trans g2.below, hg.held.trans g2.held⟩
        have q1 : (k : Int) < (L.length : Int) := by omega
        have q2 : IntKind.i64.wrap ((k : Int) + 1) = ((k + 1 : Nat) : Int) := by simp [IntKind.wrap, IntKind.signed, IntKind.bits]; omega
        clear hr hg b3 hp hpok HL HOK
        go_wp2_with fail
        refine HR.out.mono ?_
        rintro e w2 ⟨rfl, hg⟩
        go_wp2
        go_roundw
        case rel => exact ⟨k + 1, by omega, by go_num, hg⟩
        case measure => simp [intOf]; omega
    · have q1 : ¬ (k : Int) < (L.length : Int) := by omega
      go_wp2
      go_ret
      exact ⟨rfl, hg⟩
end
end Go.Proofs.YtgdfipmdmgkidaaGreatDoor

/- A run is begun: two patches, then a script. -/
namespace Go.Proofs.YtgdfipmdmgkidaaGreatDoor
open Go.RowKit

/-- A run that has been begun. -/
structure Begun (w w' : World) (rb : Nat) : Prop where
  st : ∃ B pb rg cap gb fb n Ps f s, w.heap.size ≤ B ∧ 3 ≤ n ∧ RW w' B rb pb rg cap gb fb n Ps f s ∧ ∃ P1 P2 X, Ps = P1 :: P2 :: X ∧ (∀ c ∈ P1.Cs, c.1 = nmA) ∧ ∀ c ∈ P2.Cs, c.1 = nmB
  below : Below w.heap.size w w'
set_option maxRecDepth 100000 in
set_option maxHeartbeats 6400000 in
theorem begun_any (w : World) (L : List Ed) (so : Option Addr) (sc : Nat) (hL : EdsAt w w.heap.size so L) (hok : ∀ p ∈ L, EdOK p) (hlen : L.length ≤ 9223372036854775807) :
    Calls Tryz.prog 23 #[.int .i64 1, .slice so L.length sc] w fun e w' => ∃ rb, e = .returned (.pointer (some ⟨rb, 0, none⟩)) ∧ Begun w w' rb := by
  have HL := hid hL
  have HOK := hid hok
  clear hL hok
  go_enter Tryz.func23, Tryz.ntmps23
  go_wp2_with fail
  refine (new10_one w).mono ?_
  rintro e w1 ⟨pb, rg, cap, gb, fb, rfl, h1, hb1⟩
  have hs1 := hb1.size
  have hu1 : UW w1 w.heap.size pb rg cap gb fb [] (fun _ => none) (fun _ => pl0) [] := UW.of FS.nil h1
  obtain ⟨w2, hw2⟩ : ∃ w2, w2 = w1.alloc (.cells #[.pointer (some ⟨pb, 0, none⟩), .int .i64 1] 53) := ⟨_, rfl⟩
  have hb2 : Below w1.heap.size w1 w2 := by rw [hw2]; exact (Below.refl _ _).alloc (Nat.le_refl _) _
  have hk2 : w2.heap[w1.heap.size]? = some (.cells #[.pointer (some ⟨pb, 0, none⟩), .int .i64 1] 53 (0, 0)) := by rw [hw2]; exact (MapKept.heap_alloc w1 _).1
  obtain ⟨rb, hrb⟩ : ∃ rb, rb = w1.heap.size := ⟨_, rfl⟩
  have h2 : RW w2 w.heap.size rb pb rg cap gb fb 1 [] (fun _ => none) (fun _ => pl0) := ⟨by have := hu1.below hb2; exact this, rfl, by omega, by omega, by rw [hrb]; exact hk2, by omega, ToldAll.nil⟩
  have HB2 : Hid (Below w.heap.size w w2) := hb1.trans (hb2.mono hs1)
  -- the first file
  have HW3 : Hid (Calls Tryz.prog 16 #[.pointer (some ⟨pb, 0, none⟩), .int .i64 0, .string ⟨#[97]⟩, .string ⟨#[120, 10, 121, 10, 122, 10]⟩] w2 fun e w' => e = .returned (.int .i64 0) ∧ RW w' w.heap.size rb pb rg cap gb fb 1 [] (fun y => if y = nmA then some tx1 else none) (fun _ => pl0) ∧ Below w.heap.size w w') := by
    refine (h2.uw.write (x := nmA) (t := tx1) (by simp [names3]) tx1_ok).mono ?_
    rintro e w' ⟨rfl, k1, k2, k3⟩
    exact ⟨rfl, h2.put k1 h2.ids (kin3k k3), HB2.out.trans k2⟩
  clear h1 hb1 hu1 hb2 hk2 h2
  go_wp2_with fail
  rw [← hw2, ← hrb]
  clear hw2 hrb hs1
  refine HW3.out.mono ?_
  rintro e w3 ⟨rfl, h3, hb3⟩
  clear HW3
  have hc1 : chgOf (fun y => if y = nmA then some tx1 else none) (fun _ => pl0) (K0 (fun y => if y = nmA then some tx1 else none) (fun _ => pl0)) = [flOf (fun y => if y = nmA then some tx1 else none) nmA] :=
    chg_only _ _ (by simp [names3]) (by simp) rfl (fun y _ hy => by simp [hy, keptO, pl0])
  have HR4 : Hid (Calls Tryz.prog 29 #[.pointer (some ⟨rb, 0, none⟩), .int .i64 0, .string ⟨#[]⟩] w3 fun e w' => ∃ T, e = .returned (.tuple #[.string T, .bool true]) ∧ T = told1a ∧ (∃ P1 s, RW w' w.heap.size rb pb rg cap gb fb 2 [P1] (fun y => if y = nmA then some tx1 else none) s ∧ (∀ c ∈ P1.Cs, c.1 = nmA) ∧ (s nmA).alive = true ∧ rowText (s nmA).S = tx1 ∧ (∀ y, y ≠ nmA → s y = pl0)) ∧ Below w.heap.size w w') := by
    refine (run_all h3).mono ?_
    rintro e w' ⟨T, rfl, hA⟩
    rw [hc1] at hA
    rcases hA with ⟨_, hR⟩ | ⟨_, _, h | h | h⟩
    · obtain ⟨P, s', _, k1, k2, k3, _, _, k9⟩ := hR.st
      obtain ⟨g1, g2⟩ := k2 _ (List.mem_singleton.2 rfl)
      refine ⟨T, rfl, ?_, ⟨P, s', k1, (fun c hc => by obtain ⟨g, hg, e⟩ := k9 c hc; rw [List.mem_singleton.1 hg] at e; exact e), by simpa [flOf] using g1, ?_, fun y hy => ?_⟩, hb3.trans hR.below⟩
      · have := tell_add (hR.told.one) rfl
        rw [this]
        exact told1_eq
      · have := g2 (by simp [flOf])
        simpa [flOf] using this
      · exact k3 y (fun g hg e => hy (by rw [List.mem_singleton.1 hg] at e; exact e.symm))
    · cases h
    · cases h
    · cases h
  have HB3 := hid hb3
  clear h3 hb3 hc1 HB2
  go_wp2_with fail
  refine HR4.out.mono ?_
  rintro e w4 ⟨T1, rfl, hT1, ⟨P1, s, h4, hP1, sa1, sa2, sa3⟩, hb4⟩
  clear HR4 HB3
  have HW5 : Hid (Calls Tryz.prog 16 #[.pointer (some ⟨pb, 0, none⟩), .int .i64 0, .string ⟨#[98]⟩, .string ⟨#[120, 10, 121]⟩] w4 fun e w' => e = .returned (.int .i64 0) ∧ RW w' w.heap.size rb pb rg cap gb fb 2 [P1] (fun y => if y = nmB then some tx2 else if y = nmA then some tx1 else none) s ∧ Below w.heap.size w w') := by
    refine (h4.uw.write (x := nmB) (t := tx2) (by simp [names3]) tx2_ok).mono ?_
    rintro e w' ⟨rfl, k1, k2, k3⟩
    exact ⟨rfl, h4.put k1 h4.ids (kin3k k3), hb4.trans k2⟩
  have hc2 : chgOf (fun y => if y = nmB then some tx2 else if y = nmA then some tx1 else none) s (K0 (fun y => if y = nmB then some tx2 else if y = nmA then some tx1 else none) s) = [flOf (fun y => if y = nmB then some tx2 else if y = nmA then some tx1 else none) nmB] := by
    refine chg_only _ _ (by simp [names3]) (by simp) (by rw [sa3 nmB nmAB]; rfl) (fun y _ hy => ?_)
    by_cases hya : y = nmA
    · subst hya
      simp [keptO, sa1, sa2, hy]
    · simp [hy, hya, keptO, sa3 y hya, pl0]
  have HSB : Hid ((s nmB).alive = false) := by show _ = _; rw [sa3 nmB nmAB]; rfl
  have hT1L : T1.toList = [97, 100, 100, 32, 97, 10, 43, 120, 10, 43, 121, 10, 43, 122, 10] := by rw [hT1]; decide +kernel
  have HC2 := hid hc2
  clear h4 hb4 hc2 sa1 sa2 sa3 hT1
  go_wp2_with fail
  refine HW5.out.mono ?_
  rintro e w5 ⟨rfl, h5, hb5⟩
  clear HW5
  have HR6 : Hid (Calls Tryz.prog 29 #[.pointer (some ⟨rb, 0, none⟩), .int .i64 0, .string ⟨#[]⟩] w5 fun e w' => ∃ T, e = .returned (.tuple #[.string T, .bool true]) ∧ T = told2b ∧ (∃ P2 f s, RW w' w.heap.size rb pb rg cap gb fb 3 [P1, P2] f s ∧ ∀ c ∈ P2.Cs, c.1 = nmB) ∧ Below w.heap.size w w') := by
    refine (run_all h5).mono ?_
    rintro e w' ⟨T, rfl, hA⟩
    rw [HC2.out] at hA
    rcases hA with ⟨_, hR⟩ | ⟨_, _, h | h | h⟩
    · obtain ⟨P, s', _, k1, _, _, _, _, k9⟩ := hR.st
      refine ⟨T, rfl, ?_, ⟨P, _, _, k1, (fun c hc => by obtain ⟨g, hg, e⟩ := k9 c hc; rw [List.mem_singleton.1 hg] at e; exact e)⟩, hb5.trans hR.below⟩
      have := tell_add (hR.told.one) HSB.out
      rw [this]
      exact told2_eq
    · cases h
    · cases h
    · cases h
  clear h5 hb5 HC2 HSB
  go_wp2_with fail
  refine HR6.out.mono ?_
  rintro e w6 ⟨T2, rfl, hT2, ⟨P2, f2, s2, h6, hP2⟩, hb6⟩
  clear HR6
  have hT2L : T2.toList = [97, 100, 100, 32, 98, 10, 43, 120, 10, 43, 121, 36, 10] := by rw [hT2]; decide +kernel
  have HS7 : Hid (Calls Tryz.prog 34 #[.pointer (some ⟨rb, 0, none⟩), .int .i64 0, .slice so L.length sc] w6 fun e w' => e = .returned (.bool true) ∧ Begun w w' rb) := by
    refine (run_steps h6 L so sc (HL.out.below hb6) HOK.out hlen).mono ?_
    rintro e w' ⟨rfl, hg⟩
    obtain ⟨n', X, f', s', hn', hr⟩ := hg.st
    exact ⟨rfl, ⟨_, pb, rg, cap, gb, fb, n', _, f', s', Nat.le_refl _, hn', hr, P1, P2, X, rfl, hP1, hP2⟩, hb6.trans hg.below⟩
  clear h6 hb6 hT2
  go_wp2_with fail
  refine HS7.out.mono ?_
  rintro e w7 ⟨rfl, hbg⟩
  have HBG := hid hbg
  clear hbg HS7
  go_wp2_with fail
  go_ret
  exact ⟨rb, rfl, HBG.out⟩
end Go.Proofs.YtgdfipmdmgkidaaGreatDoor
