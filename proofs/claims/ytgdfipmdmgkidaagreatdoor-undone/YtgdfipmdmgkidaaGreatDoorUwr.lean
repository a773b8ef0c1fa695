/- A step of a script writes a file. -/
import Derived.Test.YtgdfipmdmgkidaaGreatDoorUwrb
import Derived.Test.YtgdfipmdmgkidaaGreatDoorUwrc
namespace Go.Proofs.YtgdfipmdmgkidaaGreatDoor
open Go.RowKit
section
variable {w : World} {B rb pb rg cap gb fb n : Nat} {Ps : List PM} {f : ByteArray → Option ByteArray} {s : ByteArray → PL}
theorem run_write (h : RW w B rb pb rg cap gb fb n Ps f s) (p : Ed) (hp : EdOK p) :
    Calls Tryz.prog 24 #[.pointer (some ⟨rb, 0, none⟩), .int .i64 0, edV p] w fun e w' => e = .returned (.bool true) ∧ ∃ f', RW w' B rb pb rg cap gb fb n Ps f' s ∧ Below B w w' ∧ HeldT kin w w' := by
  obtain ⟨x, hx, hnx⟩ := kname49_det p.a hp.2.1.1 hp.2.1.2
  cases hf : f x with
  | none => exact run_write_new h p hp hx hnx hf
  | some t =>
    have htx := (h.uw.fs.fnm x t hf).2
    by_cases hne : cutAll t = []
    · have e : t = ⟨#[]⟩ := by
        have h1 := htx.lines.2.2
        rw [hne] at h1
        rw [← h1]
        rfl
      subst e
      exact run_write_empty h p hp hx hnx hf
    · exact run_write_old h p hp hx hnx hf htx hne
end
end Go.Proofs.YtgdfipmdmgkidaaGreatDoor

/- A step of a script; all of them. -/
namespace Go.Proofs.YtgdfipmdmgkidaaGreatDoor
open Go.RowKit

structure StepS (rb pb eb : Nat) (a : Int) (w : World) : Prop where
  c0 : w.cell? ⟨rb, 0, none⟩ = some (.pointer (some ⟨pb, 0, none⟩))
  c1 : w.cell? ⟨eb, 1, none⟩ = some (.int .i64 a)
section
variable {w : World} {B rb pb rg cap gb fb n : Nat} {Ps : List PM} {f : ByteArray → Option ByteArray} {s : ByteArray → PL}
set_option maxRecDepth 100000 in
set_option maxHeartbeats 3200000 in
theorem run_step (h : RW w B rb pb rg cap gb fb n Ps f s) (p : Ed) (hp : EdOK p) :
    Calls Tryz.prog 51 #[.pointer (some ⟨rb, 0, none⟩), .int .i64 0, edV p] w fun e w' => e = .returned (.bool true) ∧ Goes w w' B rb pb rg cap gb fb n := by
  obtain ⟨kd, a, b, c⟩ := p
  obtain ⟨⟨k1, k2⟩, ⟨a1, a2⟩, _, _⟩ := id hp
  obtain ⟨k, hk, hpk⟩ := kpick23_det kd 8 (by omega) (by omega) k1 k2
  obtain ⟨x, hx, hnx⟩ := kname49_det a a1 a2
  have HP : Hid (∀ w, Calls Tryz.prog 31 #[.int .i64 kd, .int .i64 8] w fun e w' => e = .returned (.int .i64 k) ∧ w' = w) := hpk
  have HX : Hid (∀ w, Calls Tryz.prog 49 #[.int .i64 a] w fun e w' => e = .returned (.string x) ∧ w' = w) := hnx
  obtain ⟨w1, hw1⟩ : ∃ w1, w1 = w.alloc (.cells #[.int .i64 kd, .int .i64 a, .int .i64 b, .int .i64 c] 45) := ⟨_, rfl⟩
  have hb1 : Below w.heap.size w w1 := by rw [hw1]; exact (Below.refl _ _).alloc (Nat.le_refl _) _
  have hk1 : w1.heap[w.heap.size]? = some (.cells #[.int .i64 kd, .int .i64 a, .int .i64 b, .int .i64 c] 45 (0, 0)) := by rw [hw1]; exact (MapKept.heap_alloc w _).1
  have hs1 : w.heap.size < w1.heap.size := by rw [hw1]; simp
  obtain ⟨e0, e1, e2, e3⟩ := cells4_of hk1
  have h1 := h.below hb1
  have HH : Hid (RW w1 B rb pb rg cap gb fb n Ps f s) := h1
  have HB1 : Hid (Below w.heap.size w w1) := hb1
  have hB := h.base
  have HOK : Hid (EdOK ⟨kd, a, b, c⟩) := hp
  clear hpk hnx h hb1 hp
  go_enter Tryz.func51, Tryz.ntmps51
  go_wp2_with fail
  rw [← hw1]
  clear hw1
  refine (HP.out _).mono ?_
  rintro e w' ⟨rfl, hww⟩
  have hww' := hww.symm
  clear hww
  subst hww'
  clear HP
  by_cases hk4 : k = 4
  · subst hk4
    have hb2 : Below w1.heap.size w1 w1.drew := (Below.refl _ _).drew
    have h2 := h1.below hb2
    have HS0 : Hid (StepS rb pb w.heap.size a w1.drew) := ⟨h2.at_.c0, e1⟩
    have htb : TB w1.drew w.heap.size 45 := ⟨_, _, hk1⟩
    have HE : Hid (Calls Tryz.prog 80 #[.pointer (some ⟨pb, 0, none⟩), .int .i64 0, .string x] w1.drew fun e w' => ∃ c : Int, e = .returned (.int .i64 c) ∧ (c = 0 ∨ c = 5) ∧ Goes w1 w' B rb pb rg cap gb fb n ∧ StepS rb pb w.heap.size a w') := by
      refine (h2.uw.erase hx).mono ?_
      rintro e w' ⟨c, rfl, hc, hu, hb, hh⟩
      refine ⟨c, rfl, hc, (Goes.put h2 hu h2.ids hb (kin3k hh)).ahead hb2 h1.base, ⟨?_, ?_⟩⟩
      · exact ((h2.put hu h2.ids (kin3k hh)).at_).c0
      · exact (cell_same (hh.keep _ 45 htb (.inr (.inr rfl))) _).trans e1
    clear h1 h2 htb hk1
    go_wp2_with fail
    refine wp_region_Z (StepS rb pb w.heap.size a) 99 (by kernel_rfl) ?_
    refine wpZ_take 0 _ (v := ?z1) rfl (by kernel_rfl) (by kernel_rfl) (by kernel_rfl) (fun _ _ _ h => h) (by kernel_rfl) (by decide) HS0.out rfl (fun w0 hS0 => ?hy) ?_
    case hy =>
      obtain ⟨s1, s2⟩ := hS0
      go_simp
      with_reducible rfl
    simp only [Act.put, List.setIfInBounds_toArray]
    refine wpZ_take 1 _ (v := ?z2) rfl (by kernel_rfl) (by kernel_rfl) (by kernel_rfl) (fun _ _ _ h => h) (by kernel_rfl) (by decide) HS0.out rfl (fun w0 hS0 => ?hy) ?_
    case hy =>
      obtain ⟨s1, s2⟩ := hS0
      go_simp
      with_reducible rfl
    simp only [Act.put]
    refine wpZ_take 2 _ (v := ?z3) rfl (by kernel_rfl) (by kernel_rfl) (by kernel_rfl) (fun _ _ _ h => h) (by kernel_rfl) (by decide) HS0.out rfl (fun w0 hS0 => ?hy) ?_
    case hy =>
      obtain ⟨s1, s2⟩ := hS0
      go_simp
      with_reducible rfl
    simp only [Act.put]
    refine wpZ_take 3 _ (v := ?z4) rfl (by kernel_rfl) (by kernel_rfl) (by kernel_rfl) (fun _ _ _ h => h) (by kernel_rfl) (by decide) HS0.out rfl (fun w0 hS0 => ?hy) ?_
    case hy =>
      obtain ⟨s1, s2⟩ := hS0
      go_simp
      with_reducible rfl
    simp only [Act.put]
    refine wpZ_take 4 _ (v := ?z5) rfl (by kernel_rfl) (by kernel_rfl) (by kernel_rfl) (fun _ _ _ h => h) (by kernel_rfl) (by decide) HS0.out rfl (fun w0 hS0 => ?hy) ?_
    case hy =>
      obtain ⟨s1, s2⟩ := hS0
      go_simp
      with_reducible rfl
    simp only [Act.put]
    refine wpZ_take 5 _ (v := ?z6) rfl (by kernel_rfl) (by kernel_rfl) (by kernel_rfl) (fun _ _ _ h => h) (by kernel_rfl) (by decide) HS0.out rfl (fun w0 hS0 => ?hy) ?_
    case hy =>
      obtain ⟨s1, s2⟩ := hS0
      go_simp
      with_reducible rfl
    simp only [Act.put]
    refine wpZ_take 6 _ (v := ?z7) rfl (by kernel_rfl) (by kernel_rfl) (by kernel_rfl) (fun _ _ _ h => h) (by kernel_rfl) (by decide) HS0.out rfl (fun w0 hS0 => ?hy) ?_
    case hy =>
      obtain ⟨s1, s2⟩ := hS0
      go_simp
      with_reducible rfl
    simp only [Act.put]
    refine wpZ_one 7 _ rfl (by kernel_rfl) (fun KK hK => ?_)
    go_simp
    refine (HX.out _).mono ?_
    rintro e w2 ⟨rfl, rfl⟩
    dsimp only
    refine hK.out _ _ (fun _ => HS0.out) ?_
    clear hK
    refine wpZ_one 8 _ rfl (by kernel_rfl) (fun KK hK => ?_)
    go_simp
    refine HE.out.mono ?_
    rintro e w2 ⟨cd, rfl, hc, hg, hs⟩
    dsimp only
    have HS2 : Hid (StepS rb pb w.heap.size a w2) := hs
    have HG : Hid (Goes w1 w2 B rb pb rg cap gb fb n) := hg
    refine hK.out _ _ (fun _ => hs) ?_
    clear hK hs hg
    refine wpZ_take 9 _ (v := ?z8) rfl (by kernel_rfl) (by kernel_rfl) (by kernel_rfl) (fun _ _ _ h => h) (by kernel_rfl) (by decide) HS2.out rfl (fun w0 hS0 => ?hy) ?_
    case hy =>
      obtain ⟨s1, s2⟩ := hS0
      go_simp
      with_reducible rfl
    simp only [Act.put, List.setIfInBounds_toArray]
    refine wpZ_done (by kernel_rfl) ?_ _
    rcases hc with rfl | rfl
    · go_wp2_with fail
      go_ret
      exact ⟨rfl, HG.out.ahead HB1.out hB⟩
    · go_wp2_with fail
      go_ret
      exact ⟨rfl, HG.out.ahead HB1.out hB⟩
  by_cases hk5 : k = 5
  · subst hk5
    have HR : Hid (Calls Tryz.prog 29 #[.pointer (some ⟨rb, 0, none⟩), .int .i64 0, .string ⟨#[]⟩] w1 fun e w' => ∃ T, e = .returned (.tuple #[.string T, .bool true]) ∧ Goes w1 w' B rb pb rg cap gb fb n) := (run_all h1).mono fun e w' ⟨T, k1, k2⟩ => ⟨T, k1, k2.goes h1⟩
    clear h1
    go_wp2_with fail
    refine HR.out.mono ?_
    rintro e w2 ⟨T, rfl, hg⟩
    go_wp2_with fail
    go_ret
    exact ⟨rfl, hg.ahead HB1.out hB⟩
  by_cases hk6 : k = 6
  · subst hk6
    have z1 : ¬ 9223372036854775807 < 1 + x.size := by have := (names3_ok x hx).2; omega
    have HR : Hid (Calls Tryz.prog 29 #[.pointer (some ⟨rb, 0, none⟩), .int .i64 0, .string (⟨#[32]⟩ ++ x)] w1 fun e w' => ∃ T, e = .returned (.tuple #[.string T, .bool true]) ∧ Goes w1 w' B rb pb rg cap gb fb n) := (run_one h1 hx).mono fun e w' ⟨T, k1, k2⟩ => ⟨T, k1, k2.goes h1⟩
    clear h1
    go_wp2_with fail
    refine (HX.out _).mono ?_
    rintro e w' ⟨rfl, hww⟩
    have hww' := hww.symm
    clear hww
    subst hww'
    go_wp2_with fail
    refine HR.out.mono ?_
    rintro e w2 ⟨T, rfl, hg⟩
    go_wp2_with fail
    go_ret
    exact ⟨rfl, hg.ahead HB1.out hB⟩
  by_cases hk7 : k = 7
  · subst hk7
    have HR : Hid (Calls Tryz.prog 17 #[.pointer (some ⟨pb, 0, none⟩), .int .i64 0, .string ⟨#[114, 101, 118, 101, 114, 116]⟩] w1 fun e w' => e = .returned (.tuple #[.string ⟨#[]⟩, .int .i64 0]) ∧ Goes w1 w' B rb pb rg cap gb fb n) := h1.uw.revert.mono fun e w' ⟨k1, k2, k3, k4⟩ => ⟨k1, Goes.put h1 k2 h1.ids k3 k4⟩
    obtain ⟨c0, c1⟩ := h1.at_
    clear h1
    go_wp2_with fail
    refine HR.out.mono ?_
    rintro e w2 ⟨rfl, hg⟩
    go_wp2_with fail
    go_ret
    exact ⟨rfl, hg.ahead HB1.out hB⟩
  have HR : Hid (Calls Tryz.prog 24 #[.pointer (some ⟨rb, 0, none⟩), .int .i64 0, .agg #[.int .i64 kd, .int .i64 a, .int .i64 b, .int .i64 c]] w1 fun e w' => e = .returned (.bool true) ∧ Goes w1 w' B rb pb rg cap gb fb n) := (run_write h1 ⟨kd, a, b, c⟩ HOK.out).mono fun e w' ⟨k1, f', k2, k3, k4⟩ => ⟨k1, ⟨n, _, _, _, Nat.le_refl _, k2⟩, k3, kin9 k4⟩
  clear h1
  obtain rfl | rfl | rfl | rfl : k = 0 ∨ k = 1 ∨ k = 2 ∨ k = 3 := by omega
  all_goals
    go_wp2_with fail
    refine HR.out.mono ?_
    rintro e w2 ⟨rfl, hg⟩
    go_wp2_with fail
    go_ret
    exact ⟨rfl, hg.ahead HB1.out hB⟩

set_option maxRecDepth 100000 in
set_option maxHeartbeats 3200000 in
theorem run_steps (h : RW w B rb pb rg cap gb fb n Ps f s) (L : List Ed) (so : Option Addr) (sc : Nat) (hL : EdsAt w B so L) (hok : ∀ p ∈ L, EdOK p) (hlen : L.length ≤ 9223372036854775807) :
    Calls Tryz.prog 34 #[.pointer (some ⟨rb, 0, none⟩), .int .i64 0, .slice so L.length sc] w fun e w' => e = .returned (.bool true) ∧ Goes w w' B rb pb rg cap gb fb n := by
  have HH : Hid (Goes w w B rb pb rg cap gb fb n) := ⟨⟨n, _, _, _, Nat.le_refl _, h⟩, Below.refl _ _, HeldT.refl _⟩
  have HL : Hid (EdsAt w B so L) := hL
  have HOK : Hid (∀ p ∈ L, EdOK p) := hok
  clear h hL hok
  go_enter Tryz.func34, Tryz.ntmps34
  go_wp2
  go_loopw [7, 8] (fun i _ wr => ∃ k : Nat, k ≤ L.length ∧ i = .int .i64 k ∧ Goes w wr B rb pb rg cap gb fb n) (fun i _ _ => L.length - (intOf i).toNat)
  case atStart => exact ⟨0, Nat.zero_le _, rfl, HH.out⟩
  case round =>
    obtain ⟨k, hk, rfl, hg⟩ := hrel
    clear HH
    by_cases hlt : k < L.length
    · obtain ⟨n', Ps', f', s', hn', hr⟩ := hg.st
      have hp := List.getElem?_eq_getElem hlt
      obtain ⟨p, hpe⟩ : ∃ p, L[k] = p := ⟨_, rfl⟩
      rw [hpe] at hp
      have hpok := HOK.out p (List.mem_of_getElem? hp)
      rcases HL.out.below hg.below with h0 | ⟨bb, o, rfl, b1, b2, b3⟩
      · subst h0
        simp at hlt
      · obtain ⟨k0, k1, k2, k3⟩ := b3 k p hp
        have HR : Hid (Calls Tryz.prog 51 #[.pointer (some ⟨rb, 0, none⟩), .int .i64 0, edV p] wr fun e w' => e = .returned (.bool true) ∧ Goes w w' B rb pb rg cap gb fb n) := by
          refine (run_step hr p hpok).mono ?_
          rintro e w' ⟨rfl, g2⟩
          obtain ⟨n2, Ps2, f2, s2, hn2, hr2⟩ := g2.st
          exact ⟨rfl, ⟨n2, _, _, _, by omega, hr2⟩, hg.below.trans g2.below, hg.held.trans g2.held⟩
        have q1 : (k : Int) < (L.length : Int) := by omega
        have q2 : IntKind.i64.wrap ((k : Int) + 1) = ((k + 1 : Nat) : Int) := by simp [IntKind.wrap, IntKind.signed, IntKind.bits]; omega
        clear hr hg b3 hp hpok HL HOK
        go_wp2_with fail
        refine HR.out.mono ?_
        rintro e w2 ⟨rfl, hg⟩
        go_wp2
        go_roundw
        case rel => exact ⟨k + 1, by omega, by go_num, hg⟩
        case measure => simp [intOf]; omega
    · have q1 : ¬ (k : Int) < (L.length : Int) := by omega
      go_wp2
      go_ret
      exact ⟨rfl, hg⟩
end
end Go.Proofs.YtgdfipmdmgkidaaGreatDoor

/- A run is begun: two patches, then a script. -/
namespace Go.Proofs.YtgdfipmdmgkidaaGreatDoor
open Go.RowKit

/-- A run that has been begun. -/
structure Begun (w w' : World) (rb : Nat) : Prop where
  st : ∃ B pb rg cap gb fb n Ps f s, w.heap.size ≤ B ∧ 3 ≤ n ∧ RW w' B rb pb rg cap gb fb n Ps f s
  below : Below w.heap.size w w'
set_option maxRecDepth 100000 in
set_option maxHeartbeats 6400000 in
theorem begun_any (w : World) (L : List Ed) (so : Option Addr) (sc : Nat) (hL : EdsAt w w.heap.size so L) (hok : ∀ p ∈ L, EdOK p) (hlen : L.length ≤ 9223372036854775807) :
    Calls Tryz.prog 23 #[.int .i64 1, .slice so L.length sc] w fun e w' => ∃ rb, e = .returned (.pointer (some ⟨rb, 0, none⟩)) ∧ Begun w w' rb := by
  have HL : Hid (EdsAt w w.heap.size so L) := hL
  have HOK : Hid (∀ p ∈ L, EdOK p) := hok
  clear hL hok
  go_enter Tryz.func23, Tryz.ntmps23
  go_wp2_with fail
  refine (new10_one w).mono ?_
  rintro e w1 ⟨pb, rg, cap, gb, fb, rfl, h1, hb1⟩
  have hs1 := hb1.size
  have hu1 : UW w1 w.heap.size pb rg cap gb fb [] (fun _ => none) (fun _ => pl0) [] := UW.of FS.nil h1
  obtain ⟨w2, hw2⟩ : ∃ w2, w2 = w1.alloc (.cells #[.pointer (some ⟨pb, 0, none⟩), .int .i64 1] 53) := ⟨_, rfl⟩
  have hb2 : Below w1.heap.size w1 w2 := by rw [hw2]; exact (Below.refl _ _).alloc (Nat.le_refl _) _
  have hk2 : w2.heap[w1.heap.size]? = some (.cells #[.pointer (some ⟨pb, 0, none⟩), .int .i64 1] 53 (0, 0)) := by rw [hw2]; exact (MapKept.heap_alloc w1 _).1
  obtain ⟨rb, hrb⟩ : ∃ rb, rb = w1.heap.size := ⟨_, rfl⟩
  have h2 : RW w2 w.heap.size rb pb rg cap gb fb 1 [] (fun _ => none) (fun _ => pl0) := ⟨by have := hu1.below hb2; exact this, rfl, by omega, by omega, by rw [hrb]; exact hk2, by omega⟩
  have HB2 : Hid (Below w.heap.size w w2) := hb1.trans (hb2.mono hs1)
  -- the first file
  have HW3 : Hid (Calls Tryz.prog 16 #[.pointer (some ⟨pb, 0, none⟩), .int .i64 0, .string ⟨#[97]⟩, .string ⟨#[120, 10, 121, 10, 122, 10]⟩] w2 fun e w' => e = .returned (.int .i64 0) ∧ RW w' w.heap.size rb pb rg cap gb fb 1 [] (fun y => if y = nmA then some tx1 else none) (fun _ => pl0) ∧ Below w.heap.size w w') := by
    refine (h2.uw.write (x := nmA) (t := tx1) (by simp [names3]) tx1_ok).mono ?_
    rintro e w' ⟨rfl, k1, k2, k3⟩
    exact ⟨rfl, h2.put k1 h2.ids (kin3k k3), HB2.out.trans k2⟩
  clear h1 hb1 hu1 hb2 hk2 h2
  go_wp2_with fail
  rw [← hw2, ← hrb]
  clear hw2 hrb hs1
  refine HW3.out.mono ?_
  rintro e w3 ⟨rfl, h3, hb3⟩
  clear HW3
  have hc1 : chgOf (fun y => if y = nmA then some tx1 else none) (fun _ => pl0) (K0 (fun y => if y = nmA then some tx1 else none) (fun _ => pl0)) = [flOf (fun y => if y = nmA then some tx1 else none) nmA] :=
    chg_only _ _ (by simp [names3]) (by simp) rfl (fun y _ hy => by simp [hy, keptO, pl0])
  have HR4 : Hid (Calls Tryz.prog 29 #[.pointer (some ⟨rb, 0, none⟩), .int .i64 0, .string ⟨#[]⟩] w3 fun e w' => ∃ T, e = .returned (.tuple #[.string T, .bool true]) ∧ T = told1a ∧ (∃ Ps s, RW w' w.heap.size rb pb rg cap gb fb 2 Ps (fun y => if y = nmA then some tx1 else none) s ∧ (s nmA).alive = true ∧ rowText (s nmA).S = tx1 ∧ (∀ y, y ≠ nmA → s y = pl0)) ∧ Below w.heap.size w w') := by
    refine (run_all h3).mono ?_
    rintro e w' ⟨T, rfl, hA⟩
    rw [hc1] at hA
    rcases hA with ⟨_, hR⟩ | ⟨_, _, h | h | h⟩
    · obtain ⟨P, s', _, k1, k2, k3, _⟩ := hR.st
      obtain ⟨g1, g2⟩ := k2 _ (List.mem_singleton.2 rfl)
      refine ⟨T, rfl, ?_, ⟨_, s', k1, by simpa [flOf] using g1, ?_, fun y hy => ?_⟩, hb3.trans hR.below⟩
      · have := tell_add (hR.told.one) rfl
        rw [this]
        exact told1_eq
      · have := g2 (by simp [flOf])
        simpa [flOf] using this
      · exact k3 y (fun g hg e => hy (by rw [List.mem_singleton.1 hg] at e; exact e.symm))
    · cases h
    · cases h
    · cases h
  have HB3 : Hid (Below w.heap.size w w3) := hb3
  clear h3 hb3 hc1 HB2
  go_wp2_with fail
  refine HR4.out.mono ?_
  rintro e w4 ⟨T1, rfl, hT1, ⟨Ps, s, h4, sa1, sa2, sa3⟩, hb4⟩
  clear HR4 HB3
  have HW5 : Hid (Calls Tryz.prog 16 #[.pointer (some ⟨pb, 0, none⟩), .int .i64 0, .string ⟨#[98]⟩, .string ⟨#[120, 10, 121]⟩] w4 fun e w' => e = .returned (.int .i64 0) ∧ RW w' w.heap.size rb pb rg cap gb fb 2 Ps (fun y => if y = nmB then some tx2 else if y = nmA then some tx1 else none) s ∧ Below w.heap.size w w') := by
    refine (h4.uw.write (x := nmB) (t := tx2) (by simp [names3]) tx2_ok).mono ?_
    rintro e w' ⟨rfl, k1, k2, k3⟩
    exact ⟨rfl, h4.put k1 h4.ids (kin3k k3), hb4.trans k2⟩
  have hc2 : chgOf (fun y => if y = nmB then some tx2 else if y = nmA then some tx1 else none) s (K0 (fun y => if y = nmB then some tx2 else if y = nmA then some tx1 else none) s) = [flOf (fun y => if y = nmB then some tx2 else if y = nmA then some tx1 else none) nmB] := by
    refine chg_only _ _ (by simp [names3]) (by simp) (by rw [sa3 nmB nmAB]; rfl) (fun y _ hy => ?_)
    by_cases hya : y = nmA
    · subst hya
      simp [keptO, sa1, sa2, hy]
    · simp [hy, hya, keptO, sa3 y hya, pl0]
  have HSB : Hid ((s nmB).alive = false) := by show _ = _; rw [sa3 nmB nmAB]; rfl
  have hT1L : T1.toList = [97, 100, 100, 32, 97, 10, 43, 120, 10, 43, 121, 10, 43, 122, 10] := by rw [hT1]; decide +kernel
  have HC2 : Hid (chgOf (fun y => if y = nmB then some tx2 else if y = nmA then some tx1 else none) s (K0 (fun y => if y = nmB then some tx2 else if y = nmA then some tx1 else none) s) = [flOf (fun y => if y = nmB then some tx2 else if y = nmA then some tx1 else none) nmB]) := hc2
  clear h4 hb4 hc2 sa1 sa2 sa3 hT1
  go_wp2_with fail
  refine HW5.out.mono ?_
  rintro e w5 ⟨rfl, h5, hb5⟩
  clear HW5
  have HR6 : Hid (Calls Tryz.prog 29 #[.pointer (some ⟨rb, 0, none⟩), .int .i64 0, .string ⟨#[]⟩] w5 fun e w' => ∃ T, e = .returned (.tuple #[.string T, .bool true]) ∧ T = told2b ∧ (∃ Ps f s, RW w' w.heap.size rb pb rg cap gb fb 3 Ps f s) ∧ Below w.heap.size w w') := by
    refine (run_all h5).mono ?_
    rintro e w' ⟨T, rfl, hA⟩
    rw [HC2.out] at hA
    rcases hA with ⟨_, hR⟩ | ⟨_, _, h | h | h⟩
    · obtain ⟨P, s', _, k1, _⟩ := hR.st
      refine ⟨T, rfl, ?_, ⟨_, _, _, k1⟩, hb5.trans hR.below⟩
      have := tell_add (hR.told.one) HSB.out
      rw [this]
      exact told2_eq
    · cases h
    · cases h
    · cases h
  clear h5 hb5 HC2 HSB
  go_wp2_with fail
  refine HR6.out.mono ?_
  rintro e w6 ⟨T2, rfl, hT2, ⟨Ps2, f2, s2, h6⟩, hb6⟩
  clear HR6
  have hT2L : T2.toList = [97, 100, 100, 32, 98, 10, 43, 120, 10, 43, 121, 36, 10] := by rw [hT2]; decide +kernel
  have HS7 : Hid (Calls Tryz.prog 34 #[.pointer (some ⟨rb, 0, none⟩), .int .i64 0, .slice so L.length sc] w6 fun e w' => e = .returned (.bool true) ∧ Begun w w' rb) := by
    refine (run_steps h6 L so sc (HL.out.below hb6) HOK.out hlen).mono ?_
    rintro e w' ⟨rfl, hg⟩
    obtain ⟨n', Ps', f', s', hn', hr⟩ := hg.st
    exact ⟨rfl, ⟨_, pb, rg, cap, gb, fb, n', Ps', f', s', Nat.le_refl _, hn', hr⟩, hb6.trans hg.below⟩
  clear h6 hb6 hT2
  go_wp2_with fail
  refine HS7.out.mono ?_
  rintro e w7 ⟨rfl, hbg⟩
  have HBG : Hid (Begun w w7 rb) := hbg
  clear hbg HS7
  go_wp2_with fail
  go_ret
  exact ⟨rb, rfl, HBG.out⟩
end Go.Proofs.YtgdfipmdmgkidaaGreatDoor

/- The walk of the statement Undone. -/
namespace Go.Proofs.YtgdfipmdmgkidaaGreatDoor
open Go.RowKit

theorem toList_ne {T : ByteArray} (h : T ≠ ⟨#[]⟩) : ¬ T.toList = [] := fun e => h ((toList_iff T ⟨#[]⟩).1 (by rw [e, toList_nilB]))
set_option maxRecDepth 100000 in
set_option maxHeartbeats 12800000 in
theorem undone7_any (w : World) (L : List Ed) (so : Option Addr) (sc : Nat) (p : Ed) (hL : EdsAt w w.heap.size so L) (hok : ∀ p ∈ L, EdOK p) (hlen : L.length ≤ 9223372036854775807) (hp : EdOK p) :
    Calls Tryz.prog 7 #[.slice so L.length sc, edV p] w fun e w' => e = .returned (.bool true) ∧ Below w.heap.size w w' := by
  obtain ⟨kd, a, b, c⟩ := p
  obtain ⟨w1, hw1⟩ : ∃ w1, w1 = w.alloc (.cells #[.int .i64 kd, .int .i64 a, .int .i64 b, .int .i64 c] 45) := ⟨_, rfl⟩
  have hb1 : Below w.heap.size w w1 := by rw [hw1]; exact (Below.refl _ _).alloc (Nat.le_refl _) _
  have hk1 : w1.heap[w.heap.size]? = some (.cells #[.int .i64 kd, .int .i64 a, .int .i64 b, .int .i64 c] 45 (0, 0)) := by rw [hw1]; exact (MapKept.heap_alloc w _).1
  have hs1 : w.heap.size < w1.heap.size := by rw [hw1]; simp
  have hL1 : EdsAt w1 w1.heap.size so L := by
    rcases hL.below hb1 with h | ⟨b', o', e', k1, k2, k3⟩
    · exact .inl h
    · exact .inr ⟨b', o', e', k2, k2, k3⟩
  have HBG : Hid (Calls Tryz.prog 23 #[.int .i64 1, .slice so L.length sc] w1 fun e w' => ∃ rb, e = .returned (.pointer (some ⟨rb, 0, none⟩)) ∧ Begun w1 w' rb) := begun_any w1 L so sc hL1 hok hlen
  have HB1 : Hid (Below w.heap.size w w1) := hb1
  have HK1 : Hid (w1.heap[w.heap.size]? = some (.cells #[.int .i64 kd, .int .i64 a, .int .i64 b, .int .i64 c] 45 (0, 0))) := hk1
  have HOK : Hid (EdOK ⟨kd, a, b, c⟩) := hp
  clear hL hL1 hok hlen hb1 hk1 hp
  go_enter Tryz.func7, Tryz.ntmps7
  go_wp2_with fail
  rw [← hw1]
  clear hw1
  refine HBG.out.mono ?_
  rintro e w2 ⟨rb, rfl, hbg⟩
  clear HBG
  obtain ⟨B, pb, rg, cap, gb, fb, n, Ps, f0, s, hB1, _, h2⟩ := hbg.st
  have hb2 := hbg.below
  clear hbg
  have hk2 := (hb2.block _ hs1).trans HK1.out
  obtain ⟨e0, e1, e2, e3⟩ := cells4_of hk2
  have HW3 : Hid (Calls Tryz.prog 24 #[.pointer (some ⟨rb, 0, none⟩), .int .i64 0, .agg #[.int .i64 kd, .int .i64 a, .int .i64 b, .int .i64 c]] w2 fun e w' => e = .returned (.bool true) ∧ ∃ f, RW w' B rb pb rg cap gb fb n Ps f s ∧ Below w.heap.size w w') := by
    refine (run_write h2 ⟨kd, a, b, c⟩ HOK.out).mono ?_
    rintro e w' ⟨rfl, f', k1, k2, _⟩
    exact ⟨rfl, f', k1, HB1.out.trans ((hb2.mono (by omega)).trans (k2.mono (by omega)))⟩
  have hBw : w.heap.size ≤ B := by omega
  clear h2 hb2 hk2 HK1 HOK hs1 hB1
  go_wp2_with fail
  refine HW3.out.mono ?_
  rintro e w3 ⟨rfl, f, h3, hb3⟩
  clear HW3 e0 e1 e2 e3
  have hnn := h3.lo
  have hn41 := h3.hi
  have HH3 : Hid (RW w3 B rb pb rg cap gb fb n Ps f s) := h3
  have HB3 : Hid (Below w.heap.size w w3) := hb3
  have HF4 : Hid (Calls Tryz.prog 25 #[.pointer (some ⟨rb, 0, none⟩), .int .i64 0] w3 fun e w' => ∃ v, e = .returned v ∧ w'.ownsRow w3.heap.size 9 1 v (filesX f 3).length (strs (filesX f 3)) ∧ Below w3.heap.size w3 w') := run_files h3.rg_
  clear h3 hb3
  go_wp2_with fail
  refine HF4.out.mono ?_
  rintro e w4 ⟨v4, rfl, ho4, hb4⟩
  clear HF4
  obtain ⟨fa, fc, rfl⟩ := own_shape ho4
  have HB4 : Hid (Below w3.heap.size w3 w4) := hb4
  have HO4 : Hid (w4.ownsRow w3.heap.size 9 1 (.slice fa (filesX f 3).length fc) (filesX f 3).length (strs (filesX f 3))) := ho4
  have HK5 : Hid (Calls Tryz.prog 26 #[.pointer (some ⟨rb, 0, none⟩), .int .i64 0] w4 fun e w' => ∃ v, e = .returned v ∧ w'.ownsRow w4.heap.size 9 1 v (keptX s 3).length (strs (keptX s 3)) ∧ Below w4.heap.size w4 w') := run_kept (HH3.out.below hb4).rg_
  have HFL : Hid (filesX f 3 = filesX f 3) := rfl
  obtain ⟨X, hX⟩ : ∃ X, filesX f 3 = X := ⟨_, rfl⟩
  have HX : Hid (filesX f 3 = X) := hX
  have HXl : Hid (X.length = 3) := by show _ = _; rw [← hX]; exact filesX_len f 3
  rw [hX] at HO4 ⊢
  clear ho4 hb4 HFL hX
  go_wp2_with fail
  refine HK5.out.mono ?_
  rintro e w5 ⟨v5, rfl, ho5, hb5⟩
  clear HK5
  obtain ⟨ka, kc, rfl⟩ := own_shape ho5
  have HO5 : Hid (w5.ownsRow w4.heap.size 9 1 (.slice ka (keptX s 3).length kc) (keptX s 3).length (strs (keptX s 3))) := ho5
  have HB5 : Hid (Below w3.heap.size w3 w5) := HB4.out.trans (hb5.mono HB4.out.size)
  have HH45 : Hid (HeldT (· = 9) w4 w5) := HeldT.of_below hb5
  obtain ⟨Y, hY⟩ : ∃ Y, keptX s 3 = Y := ⟨_, rfl⟩
  have HY : Hid (keptX s 3 = Y) := hY
  have HYl : Hid (Y.length = 3) := by show _ = _; rw [← hY]; exact keptX_len s 3
  rw [hY] at HO5 ⊢
  have HL6 : Hid (Calls Tryz.prog 27 #[.pointer (some ⟨rb, 0, none⟩), .int .i64 0, .string ⟨#[108, 111, 103]⟩] w5 fun e w' => ∃ v, e = .returned (.tuple #[v, .bool true]) ∧ w'.ownsRow w5.heap.size 9 1 v ((Ps.map (·.id)).map idText).length (strs ((Ps.map (·.id)).map idText)) ∧ Below w5.heap.size w5 w') :=
    run_ids (HH3.out.below HB5.out).rg_ _ _ (by have := HH3.out.uw.fs.good.2; rw [List.length_map]; omega) (HH3.out.below HB5.out).uw.log
  obtain ⟨Z, hZ⟩ : ∃ Z, (Ps.map (·.id)).map idText = Z := ⟨_, rfl⟩
  have HZ : Hid ((Ps.map (·.id)).map idText = Z) := hZ
  rw [hZ] at HL6
  have HZl : Hid (Z.length ≤ 1000) := by show _ ≤ _; rw [← hZ, List.length_map, List.length_map]; have := HH3.out.uw.fs.good.2; omega
  clear ho5 hb5 hY hZ
  go_wp2_with fail
  refine HL6.out.mono ?_
  rintro e w6 ⟨v6, rfl, ho6, hb6⟩
  clear HL6
  obtain ⟨la, lc, rfl⟩ := own_shape ho6
  have HO6 : Hid (w6.ownsRow w5.heap.size 9 1 (.slice la Z.length lc) Z.length (strs Z)) := ho6
  have HB6 : Hid (Below w3.heap.size w3 w6) := HB5.out.trans (hb6.mono HB5.out.size)
  have HH46 : Hid (HeldT (· = 9) w4 w6 ∧ HeldT (· = 9) w5 w6) := ⟨HH45.out.trans (HeldT.of_below hb6), HeldT.of_below hb6⟩
  have h6 := HH3.out.below HB6.out
  obtain ⟨c0, c1⟩ := h6.at_
  have HN7 : Hid (Calls Tryz.prog 17 #[.pointer (some ⟨pb, 0, none⟩), .int .i64 0, .string ⟨#[110, 101, 119]⟩] w6 fun e w' => ∃ T, e = .returned (.tuple #[.string T, .int .i64 0]) ∧ ToldIs s (chgOf f s (K0 f s)) T ∧ Below w6.heap.size w6 w') := h6.uw.new
  clear ho6 hb6 h6 HH45
  go_wp2_with fail
  refine HN7.out.mono ?_
  rintro e w7 ⟨T, rfl, hT, hb7⟩
  clear HN7 c0 c1
  have HT : Hid (ToldIs s (chgOf f s (K0 f s)) T) := hT
  have HB7 : Hid (Below w3.heap.size w3 w7) := HB6.out.trans (hb7.mono HB6.out.size)
  have HH47 : Hid (HeldT (· = 9) w4 w7 ∧ HeldT (· = 9) w5 w7 ∧ HeldT (· = 9) w6 w7) := ⟨HH46.out.1.trans (HeldT.of_below hb7), HH46.out.2.trans (HeldT.of_below hb7), HeldT.of_below hb7⟩
  have h7 := HH3.out.below HB7.out
  have HH7 : Hid (RW w7 B rb pb rg cap gb fb n Ps f s) := h7
  obtain ⟨c0, c1⟩ := h7.at_
  clear hT hb7 h7 HH46
  go_wp2_with fail
  refine (kid28_any n (by omega) _).mono ?_
  rintro e w' ⟨rfl, hww⟩
  have hww' := hww.symm
  clear hww
  subst hww'
  have HR8 : Hid (Calls Tryz.prog 29 #[.pointer (some ⟨rb, 0, none⟩), .int .i64 0, .string ⟨#[]⟩] w7 fun e w' => ∃ T, e = .returned (.tuple #[.string T, .bool true]) ∧ RunA w7 w' B rb pb rg cap gb fb n Ps f s (chgOf f s (K0 f s)) false T) := run_all HH7.out
  clear c0 c1
  go_wp2_with fail
  refine HR8.out.mono ?_
  rintro e w8 ⟨T2, rfl, hA⟩
  clear HR8
  rcases hA with ⟨hn40, hR⟩ | ⟨rfl, hb8, hwhy⟩
  · have hTT : T = T2 := HT.out.det hR.told
    subst hTT
    obtain ⟨P, s', hPid, h8, _, _, k4, k5⟩ := hR.st
    have hi4 := idW_size (n := n) (by omega)
    have z9 : ¬ 9223372036854775807 < 9 + (idW n).size := by omega
    have t1 := toList_ne hR.ne
    have t2 : (T.toList == []) = false := by simpa using t1
    have HB8 : Hid (Below w.heap.size w w8) := (HB3.out.trans (HB7.out.mono HB3.out.size)).trans (hR.below.mono hBw)
    have HH48 : Hid (HeldT (· = 9) w4 w8 ∧ HeldT (· = 9) w5 w8 ∧ HeldT (· = 9) w6 w8) := ⟨HH47.out.1.trans hR.held, HH47.out.2.1.trans hR.held, HH47.out.2.2.trans hR.held⟩
    have HU9 : Hid (Calls Tryz.prog 17 #[.pointer (some ⟨pb, 0, none⟩), .int .i64 0, .string (⟨#[117, 110, 114, 101, 99, 111, 114, 100, 32]⟩ ++ idW n)] w8 fun e w' => e = .returned (.tuple #[.string ⟨#[]⟩, .int .i64 0]) ∧ RG w' B rb pb rg cap gb fb (n + 1) Ps f s (idsTo (n + 1)) ∧ HeldT kin w8 w' ∧ Below B w8 w') := by
      refine (h8.uw.unrecord HH7.out.uw.fs (n := n) (by omega) k4 k5).mono ?_
      rintro e w' ⟨rfl, g1, g2, g3⟩
      exact ⟨rfl, ⟨g1, (g3.keep _ _ h8.tb (.inr rfl)).trans h8.run⟩, g3, g2⟩
    obtain ⟨c0, c1⟩ := h8.at_
    clear h8 k4 k5 hR hi4 HH47 HB7 HH7 HH3 HB3 HB4 HB5 HB6
    go_wp2_with fail
    refine HU9.out.mono ?_
    rintro e w9 ⟨rfl, h9, hh9, hb9⟩
    clear HU9 c0 c1
    have HB9 : Hid (Below w.heap.size w w9) := HB8.out.trans (hb9.mono hBw)
    have HH49 : Hid (HeldT (· = 9) w4 w9 ∧ HeldT (· = 9) w5 w9 ∧ HeldT (· = 9) w6 w9) := ⟨HH48.out.1.trans (kin9 hh9), HH48.out.2.1.trans (kin9 hh9), HH48.out.2.2.trans (kin9 hh9)⟩
    have HG9 : Hid (RG w9 B rb pb rg cap gb fb (n + 1) Ps f s (idsTo (n + 1))) := h9
    obtain ⟨c0, c1⟩ := h9.at_
    have HN10 : Hid (Calls Tryz.prog 17 #[.pointer (some ⟨pb, 0, none⟩), .int .i64 0, .string ⟨#[110, 101, 119]⟩] w9 fun e w' => e = .returned (.tuple #[.string T, .int .i64 0]) ∧ Below w9.heap.size w9 w') := by
      refine h9.uw.new.mono ?_
      rintro e w' ⟨T3, rfl, g1, g2⟩
      rw [HT.out.det g1]
      exact ⟨rfl, g2⟩
    clear h9 hh9 hb9 HB8 HH48 HT
    go_wp2_with fail
    refine HN10.out.mono ?_
    rintro e w10 ⟨rfl, hb10⟩
    clear HN10 c0 c1
    have HB10 : Hid (Below w9.heap.size w9 w10) := hb10
    have HL11 : Hid (Calls Tryz.prog 27 #[.pointer (some ⟨rb, 0, none⟩), .int .i64 0, .string ⟨#[108, 111, 103]⟩] w10 fun e w' => ∃ v, e = .returned (.tuple #[v, .bool true]) ∧ w'.ownsRow w10.heap.size 9 1 v Z.length (strs Z) ∧ Below w10.heap.size w10 w') := by
      have := run_ids (HG9.out.below hb10) wdLog (Ps.map (·.id)) (by have := HG9.out.uw.fs.good.2; rw [List.length_map]; omega) (HG9.out.below hb10).uw.log
      rw [HZ.out] at this
      exact this
    clear hb10
    go_wp2_with fail
    refine HL11.out.mono ?_
    rintro e w11 ⟨v11, rfl, ho11, hb11⟩
    clear HL11
    obtain ⟨ma, mc, rfl⟩ := own_shape ho11
    have HO11 : Hid (w11.ownsRow w10.heap.size 9 1 (.slice ma Z.length mc) Z.length (strs Z)) := ho11
    have HB11 : Hid (Below w9.heap.size w9 w11) := HB10.out.trans (hb11.mono HB10.out.size)
    have HF12 : Hid (Calls Tryz.prog 25 #[.pointer (some ⟨rb, 0, none⟩), .int .i64 0] w11 fun e w' => ∃ v, e = .returned v ∧ w'.ownsRow w11.heap.size 9 1 v X.length (strs X) ∧ Below w11.heap.size w11 w') := by
      have := run_files (HG9.out.below HB11.out)
      rw [HX.out] at this
      exact this
    clear ho11 hb11 HB10
    go_wp2_with fail
    refine HF12.out.mono ?_
    rintro e w12 ⟨v12, rfl, ho12, hb12⟩
    clear HF12
    obtain ⟨na, nc, rfl⟩ := own_shape ho12
    have HO12 : Hid (w12.ownsRow w11.heap.size 9 1 (.slice na X.length nc) X.length (strs X)) := ho12
    have HO11b : Hid (w12.ownsRow w10.heap.size 9 1 (.slice ma Z.length mc) Z.length (strs Z)) := own_below HO11.out hb12 (Nat.le_refl _)
    have HB12 : Hid (Below w9.heap.size w9 w12) := HB11.out.trans (hb12.mono HB11.out.size)
    have HK13 : Hid (Calls Tryz.prog 26 #[.pointer (some ⟨rb, 0, none⟩), .int .i64 0] w12 fun e w' => ∃ v, e = .returned v ∧ w'.ownsRow w12.heap.size 9 1 v Y.length (strs Y) ∧ Below w12.heap.size w12 w') := by
      have := run_kept (HG9.out.below HB12.out)
      rw [HY.out] at this
      exact this
    clear ho12 hb12 HB11 HO11
    go_wp2_with fail
    refine HK13.out.mono ?_
    rintro e w13 ⟨v13, rfl, ho13, hb13⟩
    clear HK13
    obtain ⟨qa, qc, rfl⟩ := own_shape ho13
    have HB13 : Hid (Below w9.heap.size w9 w13) := HB12.out.trans (hb13.mono HB12.out.size)
    have hh : ∀ {u : World}, HeldT (· = 9) u w9 → HeldT (· = 9) u w13 := fun k => k.trans (HeldT.of_below HB13.out)
    have HS1 : Hid (Calls Tryz.prog 21 #[.slice fa X.length fc, .slice na X.length nc] w13 fun e w' => e = .returned (.bool true) ∧ ∃ q, w' = w13.drewN q) := ksame16_any X fa na fc nc _ _ w13 (own_heldT HO4.out (hh HH49.out.1) rfl) (own_below HO12.out hb13 (Nat.le_refl _)) (by have := HXl.out; omega)
    have HS2 : Hid (∀ q, Calls Tryz.prog 21 #[.slice ka Y.length kc, .slice qa Y.length qc] (w13.drewN q) fun e w' => e = .returned (.bool true) ∧ ∃ q2, w' = (w13.drewN q).drewN q2) := fun q => ksame16_any Y ka qa kc qc _ _ _ (own_below (own_heldT HO5.out (hh HH49.out.2.1) rfl) (below_drewN (Below.refl _ _) q) (Nat.le_refl _)) (own_below ho13 (below_drewN (Below.refl _ _) q) (Nat.le_refl _)) (by have := HYl.out; omega)
    have HS3 : Hid (∀ q, Calls Tryz.prog 21 #[.slice la Z.length lc, .slice ma Z.length mc] (w13.drewN q) fun e w' => e = .returned (.bool true) ∧ ∃ q3, w' = (w13.drewN q).drewN q3) := fun q => ksame16_any Z la ma lc mc _ _ _ (own_below (own_heldT HO6.out (hh HH49.out.2.2) rfl) (below_drewN (Below.refl _ _) q) (Nat.le_refl _)) (own_below (own_below HO11b.out hb13 (Nat.le_refl _)) (below_drewN (Below.refl _ _) q) (Nat.le_refl _)) (by have := HZl.out; omega)
    have HEND : Hid (∀ q q3, Below w.heap.size w ((w13.drewN q).drewN q3)) := fun q q3 => below_drewN (below_drewN (HB9.out.trans (HB13.out.mono HB9.out.size)) q) q3
    clear ho13 hb13 hh HB13 HB12 HO12 HO11b HO4 HO5 HO6 HH49 HB9 HG9 HXl HYl HZl HX HY HZ
    go_wp2_with fail
    refine HS1.out.mono ?_
    rintro e w14 ⟨rfl, q1, rfl⟩
    go_wp2_with fail
    refine (HS2.out q1).mono ?_
    rintro e w15 ⟨rfl, q2, rfl⟩
    go_wp2_with fail
    refine (HS3.out (q1 + q2)).mono ?_
    rintro e w16 ⟨rfl, q3, rfl⟩
    have HE : Hid (Below w.heap.size w ((w13.drewN (q1 + q2)).drewN q3)) := HEND.out (q1 + q2) q3
    clear HS1 HS2 HS3 HEND
    generalize (w13.drewN (q1 + q2)).drewN q3 = w17 at *
    go_wp2_with fail
    go_ret
    exact ⟨rfl, HE.out⟩
  · have HB8 : Hid (Below w.heap.size w w8) := (HB3.out.trans (HB7.out.mono HB3.out.size)).trans (hb8.mono (Nat.le_trans HB3.out.size HB7.out.size))
    have HRU : Hid (RunS rb pb n w8) := (HH7.out.below hb8).at_
    by_cases hT0 : T = ⟨#[]⟩
    · subst hT0
      clear hwhy hb8
      go_wp2_with fail
      go_ret
      exact ⟨rfl, HB8.out⟩
    · have hn : n = 41 := by
        rcases hwhy with h | h | h
        · have h1 := HT.out
          rw [h] at h1
          exact absurd h1.nil hT0
        · exact h
        · cases h
      subst hn
      obtain ⟨c0, c1⟩ := HRU.out
      have t1 := toList_ne hT0
      have t2 : ([] == T.toList) = false := by rw [beq_eq_false_iff_ne]; exact fun e => t1 e.symm
      have t3 : ¬ [] = T.toList := fun e => t1 e.symm
      clear hwhy hb8
      go_wp2_with fail
      go_ret
      exact ⟨rfl, HB8.out⟩
end Go.Proofs.YtgdfipmdmgkidaaGreatDoor
