/- A run's block beside its world; a record in a run. -/
import Derived.Test.YtgdfipmdmgkidaaGreatDoorUdo
import Derived.Test.YtgdfipmdmgkidaaGreatDoorUshw
namespace Go.Proofs.YtgdfipmdmgkidaaGreatDoor
open Go.RowKit

/-- A run: its world, and the number of the next id. -/
structure RW (w : World) (B rb pb rg cap gb fb n : Nat) (Ps : List PM) (f : ByteArray → Option ByteArray) (s : ByteArray → PL) : Prop where
  uw : UW w B pb rg cap gb fb Ps f s (idsTo n)
  ids : Ps.map (·.id) = idsTo n
  lo : 1 ≤ n
  hi : n ≤ 41
  run : w.heap[rb]? = some (.cells #[.pointer (some ⟨pb, 0, none⟩), .int .i64 n] 53 (0, 0))
  lor : B ≤ rb
  told : ToldAll Ps
structure RunS (rb pb n : Nat) (w : World) : Prop where
  c0 : w.cell? ⟨rb, 0, none⟩ = some (.pointer (some ⟨pb, 0, none⟩))
  c1 : w.cell? ⟨rb, 1, none⟩ = some (.int .i64 n)
theorem run_at {w : World} {rb pb n : Nat} (h : w.heap[rb]? = some (.cells #[.pointer (some ⟨pb, 0, none⟩), .int .i64 n] 53 (0, 0))) : RunS rb pb n w := ⟨by simp [World.cell?, h], by simp [World.cell?, h]⟩
section
variable {w : World} {B rb pb rg cap gb fb n : Nat} {Ps : List PM} {f : ByteArray → Option ByteArray} {s : ByteArray → PL}
theorem RW.lt (h : RW w B rb pb rg cap gb fb n Ps f s) : rb < w.heap.size := (Array.getElem?_eq_some_iff.1 h.run).1
theorem RW.below (h : RW w B rb pb rg cap gb fb n Ps f s) {w' : World} (hb : Below w.heap.size w w') : RW w' B rb pb rg cap gb fb n Ps f s :=
  ⟨h.uw.below hb, h.ids, h.lo, h.hi, (hb.block _ h.lt).trans h.run, h.lor, h.told⟩
theorem RW.at_ (h : RW w B rb pb rg cap gb fb n Ps f s) : RunS rb pb n w := run_at h.run
theorem RW.base (h : RW w B rb pb rg cap gb fb n Ps f s) : B ≤ w.heap.size := h.uw.lo
theorem RW.tb (h : RW w B rb pb rg cap gb fb n Ps f s) : TB w rb 53 := ⟨_, _, h.run⟩
/-- The world has changed, the run has not. -/
theorem RW.put {w' : World} {f' : ByteArray → Option ByteArray} {s' : ByteArray → PL} (h : RW w B rb pb rg cap gb fb n Ps f s) (hu : UW w' B pb rg cap gb fb Ps f' s' (idsTo n)) (hi : Ps.map (·.id) = idsTo n) (hh : HeldT kin w w') : RW w' B rb pb rg cap gb fb n Ps f' s' :=
  ⟨hu, hi, h.lo, h.hi, (hh.keep _ _ h.tb (.inr rfl)).trans h.run, h.lor, h.told⟩
/-- A run, whatever ids were given. -/
structure RG (w : World) (B rb pb rg cap gb fb n : Nat) (Ps : List PM) (f : ByteArray → Option ByteArray) (s : ByteArray → PL) (G : List Pid) : Prop where
  uw : UW w B pb rg cap gb fb Ps f s G
  run : w.heap[rb]? = some (.cells #[.pointer (some ⟨pb, 0, none⟩), .int .i64 n] 53 (0, 0))
theorem RW.rg_ (h : RW w B rb pb rg cap gb fb n Ps f s) : RG w B rb pb rg cap gb fb n Ps f s (idsTo n) := ⟨h.uw, h.run⟩
theorem RG.below {G : List Pid} (h : RG w B rb pb rg cap gb fb n Ps f s G) {w' : World} (hb : Below w.heap.size w w') : RG w' B rb pb rg cap gb fb n Ps f s G :=
  ⟨h.uw.below hb, (hb.block _ (Array.getElem?_eq_some_iff.1 h.run).1).trans h.run⟩
theorem RG.at_ {G : List Pid} (h : RG w B rb pb rg cap gb fb n Ps f s G) : RunS rb pb n w := run_at h.run
theorem own_heldT {w w' : World} {B n size : Nat} {e : TypeId} {v : Value} {xs : List Value} {T : TypeId → Prop} (h : w.ownsRow B e size v n xs) (k : HeldT T w w') (he : T e) : w'.ownsRow B e size v n xs := by
  have ht := fun g hg => own_TB h (g := g) hg
  obtain ⟨h1, h2⟩ := h
  refine ⟨h1, ?_⟩
  rcases h2 with h2 | ⟨g, cp, cur, e1, e2, hg, e3⟩
  · exact .inl h2
  · refine .inr ⟨g, cp, cur, e1, e2, ?_, e3⟩
    rw [k.keep g e (ht g (by rw [e1]; rfl)) he]
    exact hg
theorem OneAt.set53 {pv : Value} {fn : Nat} {G : List Pid} (h : OneAt w B pb rg cap gb pv Ps fb fn f G) {o : Nat} {u : Value} (hb : TB w rb 53) : OneAt (w.setCell ⟨rb, o, none⟩ u) B pb rg cap gb pv Ps fb fn f G := by
  have hbut : But w (w.setCell ⟨rb, o, none⟩ u) rb := (But.refl w rb).set u
  have hh : HeldT (fun t => t ≠ 53) w (w.setCell ⟨rb, o, none⟩ u) := HeldT.of_but hbut hb (fun k => k rfl)
  obtain ⟨l1, l2, l3, l4⟩ := h.lts
  obtain ⟨A, hA, hA2⟩ := h.row
  obtain ⟨rA, rz, hrb⟩ := hb
  have nm : ∀ {m : Nat}, (∃ es c, w.heap[m]? = some (.map es c)) → m ≠ rb := by
    rintro m ⟨es, c, hm⟩ rfl
    rw [hm] at hrb
    cases hrb
  have kg : (w.setCell ⟨rb, o, none⟩ u).heap[gb]? = w.heap[gb]? := hbut.block gb l3 (nm h.given.map)
  have kf : (w.setCell ⟨rb, o, none⟩ u).heap[fb]? = w.heap[fb]? := hbut.block fb l4 (nm h.files.map)
  exact ⟨h.lo, (hh.keep _ 83 ⟨_, _, h.wb⟩ (by decide)).trans h.wb, ⟨A, (hh.keep _ 87 ⟨_, _, hA⟩ (by decide)).trans hA, hA2⟩, h.given.same kg, own_heldT h.own hh (by decide), fun P hP => (h.chs P hP).held (hh.mono (by rintro t (rfl | rfl | rfl) <;> decide)), h.files.same kf, h.ne, h.cap1⟩
/-- The next id's number is stored. -/
theorem RW.next {w' : World} {P : PM} {s' : ByteArray → PL} (h : RW w B rb pb rg cap gb fb n Ps f s) (hn : n ≤ 40) (hu : UW w' B pb rg cap gb fb (Ps ++ [P]) f s' (idsTo n ++ [idN n])) (hP : P.id = idN n) (hTA : ToldAll Ps → ToldAll (Ps ++ [P])) (hh : HeldT kin w w') (hb : Below B w w') :
    RW (w'.setCell ⟨rb, 1, none⟩ (.int .i64 (n + 1 : Nat))) B rb pb rg cap gb fb (n + 1) (Ps ++ [P]) f s' ∧ Below B w (w'.setCell ⟨rb, 1, none⟩ (.int .i64 (n + 1 : Nat))) ∧ HeldT (· = 9) w (w'.setCell ⟨rb, 1, none⟩ (.int .i64 (n + 1 : Nat))) := by
  have hr' : w'.heap[rb]? = some (.cells #[.pointer (some ⟨pb, 0, none⟩), .int .i64 n] 53 (0, 0)) := (hh.keep _ _ h.tb (.inr rfl)).trans h.run
  have htb : TB w' rb 53 := ⟨_, _, hr'⟩
  have hbut : But w' (w'.setCell ⟨rb, 1, none⟩ (.int .i64 (n + 1 : Nat))) rb := (But.refl w' rb).set _
  have hlt : rb < w'.heap.size := htb.lt
  refine ⟨⟨?_, ?_, by omega, by omega, ?_, h.lor, hTA h.told⟩, ?_, (kin9 hh).trans (HeldT.set htb (by decide) _)⟩
  · obtain ⟨pv, h1⟩ := hu.one
    rw [idsTo_next h.lo]
    exact ⟨hu.fs, pv, h1.set53 htb⟩
  · rw [List.map_append, h.ids, idsTo_next h.lo]
    simp [hP]
  · have e := heap_setCell_same w' rb 1 _ 53 (.int .i64 ((n + 1 : Nat) : Int)) hr'
    rw [e]
    rfl
  · exact hb.trans ⟨hbut.os, hbut.tape, hbut.output, hbut.size, fun k hk => hbut.block k (by have := h.lt; have := h.lor; omega) (by have := h.lor; omega)⟩
end
end Go.Proofs.YtgdfipmdmgkidaaGreatDoor

/- A record in a run. -/
namespace Go.Proofs.YtgdfipmdmgkidaaGreatDoor
open Go.RowKit

theorem toList_nilB : (⟨#[]⟩ : ByteArray).toList = [] := by decide +kernel
theorem app_nilB (b : ByteArray) : b ++ ⟨#[]⟩ = b := ByteArray.ext (by simp)

section
variable {w : World} {B rb pb rg cap gb fb n : Nat} {Ps : List PM} {f : ByteArray → Option ByteArray} {s : ByteArray → PL}
structure Rec29 (w w' : World) (B rb pb rg cap gb fb n : Nat) (Ps : List PM) (f : ByteArray → Option ByteArray) (s : ByteArray → PL) (Fs : List Fl) (T : ByteArray) : Prop where
  told : ToldIs s Fs T
  ne : T ≠ ⟨#[]⟩
  st : ∃ (P : PM) (s' : ByteArray → PL), P.id = idN n ∧ RW w' B rb pb rg cap gb fb (n + 1) (Ps ++ [P]) f s' ∧ (∀ g ∈ Fs, (s' g.name).alive = g.there ∧ (g.there = true → rowText (s' g.name).S = g.text)) ∧ (∀ x, (∀ g ∈ Fs, g.name ≠ x) → s' x = s x) ∧ leaveR (Ps ++ [P]) (idN n) = (⟨#[]⟩, 0) ∧ ((Ps ++ [P]).filter fun P => !decide (P.id = idN n)) = Ps ∧ (∀ c ∈ P.Cs, ∃ g ∈ Fs, c.1 = g.name)
  below : Below B w w'
  held : HeldT (· = 9) w w'
/-- What a record in a run answers. -/
def RunA (w w' : World) (B rb pb rg cap gb fb n : Nat) (Ps : List PM) (f : ByteArray → Option ByteArray) (s : ByteArray → PL) (Fs : List Fl) (one : Bool) (T : ByteArray) : Prop :=
  (n ≤ 40 ∧ Rec29 w w' B rb pb rg cap gb fb n Ps f s Fs T) ∨ (T = ⟨#[]⟩ ∧ Below w.heap.size w w' ∧ (Fs = [] ∨ n = 41 ∨ one = true))

set_option maxRecDepth 100000 in
set_option maxHeartbeats 3200000 in
theorem run_record (h : RW w B rb pb rg cap gb fb n Ps f s) (nm : ByteArray) (hnm : nm.size ≤ 1000) (Fs : List Fl) (one : Bool) (hone : one = true → nm ≠ ⟨#[]⟩)
    (hD : Calls Tryz.prog 17 #[.pointer (some ⟨pb, 0, none⟩), .int .i64 0, .string (recHead ++ idW n ++ nm)] w.drew fun e w' => ∃ T c, e = .returned (.tuple #[.string T, .int .i64 c]) ∧ RecA w.drew w' B pb rg cap gb fb Ps f s (idsTo n) n Fs one T c) :
    Calls Tryz.prog 29 #[.pointer (some ⟨rb, 0, none⟩), .int .i64 0, .string nm] w fun e w' => ∃ T, e = .returned (.tuple #[.string T, .bool true]) ∧ RunA w w' B rb pb rg cap gb fb n Ps f s Fs one T := by
  have HD : Hid (Calls Tryz.prog 17 #[.pointer (some ⟨pb, 0, none⟩), .int .i64 0, .string ((⟨#[114, 101, 99, 111, 114, 100, 32]⟩ ++ idW n) ++ nm)] w.drew fun e w' => ∃ T c, e = .returned (.tuple #[.string T, .int .i64 c]) ∧ RecA w.drew w' B pb rg cap gb fb Ps f s (idsTo n) n Fs one T c) := hD
  have hb0 : Below w.heap.size w w.drew := (Below.refl _ _).drew
  have HH : Hid (RW w.drew B rb pb rg cap gb fb n Ps f s) := h.below hb0
  have HS0 : Hid (RunS rb pb n w.drew) := (h.below hb0).at_
  have HB0 : Hid (Below w.heap.size w w.drew) := hb0
  have HN : Hid (one = true → nm ≠ ⟨#[]⟩) := hone
  have hn1 := h.hi
  have hn0 := h.lo
  have hsz := h.base
  have hi4 := idW_size hn1
  have z1 : ¬ 9223372036854775807 < 7 + (idW n).size := by omega
  have z2 : ¬ 9223372036854775807 < 7 + (idW n).size + nm.size := by omega
  clear hi4
  clear h hD hb0 hone
  go_enter Tryz.func29, Tryz.ntmps29
  go_wp2_with fail
  refine wp_region_Z (RunS rb pb n) 99 (by kernel_rfl) ?_
  refine wpZ_take 0 _ (v := ?z1) rfl (by kernel_rfl) (by kernel_rfl) (by kernel_rfl) (fun _ _ _ h => h) (by kernel_rfl) (by decide) HS0.out rfl (fun w0 hS0 => ?hy) ?_
  case hy =>
    obtain ⟨s1, s2⟩ := hS0
    go_simp
    with_reducible rfl
  simp only [Act.put, List.setIfInBounds_toArray]
  refine wpZ_take 1 _ (v := ?z2) rfl (by kernel_rfl) (by kernel_rfl) (by kernel_rfl) (fun _ _ _ h => h) (by kernel_rfl) (by decide) HS0.out rfl (fun w0 hS0 => ?hy) ?_
  case hy =>
    obtain ⟨s1, s2⟩ := hS0
    go_simp
    with_reducible rfl
  simp only [Act.put]
  refine wpZ_take 2 _ (v := ?z3) rfl (by kernel_rfl) (by kernel_rfl) (by kernel_rfl) (fun _ _ _ h => h) (by kernel_rfl) (by decide) HS0.out rfl (fun w0 hS0 => ?hy) ?_
  case hy =>
    obtain ⟨s1, s2⟩ := hS0
    go_simp
    with_reducible rfl
  simp only [Act.put]
  refine wpZ_take 3 _ (v := ?z4) rfl (by kernel_rfl) (by kernel_rfl) (by kernel_rfl) (fun _ _ _ h => h) (by kernel_rfl) (by decide) HS0.out rfl (fun w0 hS0 => ?hy) ?_
  case hy =>
    obtain ⟨s1, s2⟩ := hS0
    go_simp
    with_reducible rfl
  simp only [Act.put]
  refine wpZ_take 4 _ (v := ?z5) rfl (by kernel_rfl) (by kernel_rfl) (by kernel_rfl) (fun _ _ _ h => h) (by kernel_rfl) (by decide) HS0.out rfl (fun w0 hS0 => ?hy) ?_
  case hy =>
    obtain ⟨s1, s2⟩ := hS0
    go_simp
    with_reducible rfl
  simp only [Act.put]
  refine wpZ_take 5 _ (v := ?z6) rfl (by kernel_rfl) (by kernel_rfl) (by kernel_rfl) (fun _ _ _ h => h) (by kernel_rfl) (by decide) HS0.out rfl (fun w0 hS0 => ?hy) ?_
  case hy =>
    obtain ⟨s1, s2⟩ := hS0
    go_simp
    with_reducible rfl
  simp only [Act.put]
  refine wpZ_take 6 _ (v := ?z7) rfl (by kernel_rfl) (by kernel_rfl) (by kernel_rfl) (fun _ _ _ h => h) (by kernel_rfl) (by decide) HS0.out rfl (fun w0 hS0 => ?hy) ?_
  case hy =>
    obtain ⟨s1, s2⟩ := hS0
    go_simp
    with_reducible rfl
  simp only [Act.put]
  refine wpZ_take 7 _ (v := ?z8) rfl (by kernel_rfl) (by kernel_rfl) (by kernel_rfl) (fun _ _ _ h => h) (by kernel_rfl) (by decide) HS0.out rfl (fun w0 hS0 => ?hy) ?_
  case hy =>
    obtain ⟨s1, s2⟩ := hS0
    go_simp
    with_reducible rfl
  simp only [Act.put]
  refine wpZ_take 8 _ (v := ?z9) rfl (by kernel_rfl) (by kernel_rfl) (by kernel_rfl) (fun _ _ _ h => h) (by kernel_rfl) (by decide) HS0.out rfl (fun w0 hS0 => ?hy) ?_
  case hy =>
    obtain ⟨s1, s2⟩ := hS0
    go_simp
    with_reducible rfl
  simp only [Act.put]
  refine wpZ_take 11 _ (v := ?z10) rfl (by kernel_rfl) (by kernel_rfl) (by kernel_rfl) (fun _ _ _ h => h) (by kernel_rfl) (by decide) HS0.out rfl (fun w0 hS0 => ?hy) ?_
  case hy =>
    obtain ⟨s1, s2⟩ := hS0
    go_simp
    with_reducible rfl
  simp only [Act.put]
  refine wpZ_one 9 _ rfl (by kernel_rfl) (fun KK hK => ?_)
  go_simp
  refine (kid28_any n (by omega) _).mono ?_
  rintro e w1 ⟨rfl, rfl⟩
  dsimp only
  refine hK.out _ _ (fun _ => HS0.out) ?_
  clear hK
  refine wpZ_take 10 _ (v := ?z11) rfl (by kernel_rfl) (by kernel_rfl) (by kernel_rfl) (fun _ _ _ h => h) (by kernel_rfl) (by decide) HS0.out rfl (fun w0 hS0 => ?hy) ?_
  case hy =>
    obtain ⟨s1, s2⟩ := hS0
    go_simp
    with_reducible rfl
  simp only [Act.put, List.setIfInBounds_toArray]
  refine wpZ_take 12 _ (v := ?z12) rfl (by kernel_rfl) (by kernel_rfl) (by kernel_rfl) (fun _ _ _ h => h) (by kernel_rfl) (by decide) HS0.out rfl (fun w0 hS0 => ?hy) ?_
  case hy =>
    obtain ⟨s1, s2⟩ := hS0
    go_simp
    with_reducible rfl
  simp only [Act.put]
  refine wpZ_one 13 _ rfl (by kernel_rfl) (fun KK hK => ?_)
  go_simp
  refine HD.out.mono ?_
  rintro e w2 ⟨T, c, rfl, hA⟩
  clear HD
  dsimp only
  have hh2 : HeldT kin w.drew w2 := by
    rcases hA with ⟨_, _, hR⟩ | ⟨_, hb, _⟩
    · exact hR.held
    · exact HeldT.of_below hb
  have hr2 := (hh2.keep _ _ HH.out.tb (.inr rfl)).trans HH.out.run
  have hS2 : RunS rb pb n w2 := run_at hr2
  have HS2 : Hid (RunS rb pb n w2) := hS2
  have HFR : Hid (w2.frozen? ⟨rb, 1, none⟩ = false) := free3 hr2 1
  have HA : Hid (RecA w.drew w2 B pb rg cap gb fb Ps f s (idsTo n) n Fs one T c) := hA
  refine hK.out _ _ (fun _ => hS2) ?_
  clear hK hS2 hr2 hh2 hA
  refine wpZ_take 14 _ (v := ?z13) rfl (by kernel_rfl) (by kernel_rfl) (by kernel_rfl) (fun _ _ _ h => h) (by kernel_rfl) (by decide) HS2.out rfl (fun w0 hS0 => ?hy) ?_
  case hy =>
    obtain ⟨s1, s2⟩ := hS0
    go_simp
    with_reducible rfl
  simp only [Act.put, List.setIfInBounds_toArray]
  refine wpZ_take 15 _ (v := ?z14) rfl (by kernel_rfl) (by kernel_rfl) (by kernel_rfl) (fun _ _ _ h => h) (by kernel_rfl) (by decide) HS2.out rfl (fun w0 hS0 => ?hy) ?_
  case hy =>
    obtain ⟨s1, s2⟩ := hS0
    go_simp
    with_reducible rfl
  simp only [Act.put]
  refine wpZ_take 16 _ (v := ?z15) rfl (by kernel_rfl) (by kernel_rfl) (by kernel_rfl) (fun _ _ _ h => h) (by kernel_rfl) (by decide) HS2.out rfl (fun w0 hS0 => ?hy) ?_
  case hy =>
    obtain ⟨s1, s2⟩ := hS0
    go_simp
    with_reducible rfl
  simp only [Act.put]
  refine wpZ_take 17 _ (v := ?z16) rfl (by kernel_rfl) (by kernel_rfl) (by kernel_rfl) (fun _ _ _ h => h) (by kernel_rfl) (by decide) HS2.out rfl (fun w0 hS0 => ?hy) ?_
  case hy =>
    obtain ⟨s1, s2⟩ := hS0
    go_simp
    with_reducible rfl
  simp only [Act.put]
  refine wpZ_take 18 _ (v := ?z17) rfl (by kernel_rfl) (by kernel_rfl) (by kernel_rfl) (fun _ _ _ h => h) (by kernel_rfl) (by decide) HS2.out rfl (fun w0 hS0 => ?hy) ?_
  case hy =>
    obtain ⟨s1, s2⟩ := hS0
    go_simp
    with_reducible rfl
  simp only [Act.put]
  refine wpZ_done (by kernel_rfl) ?_ _
  have hfr := HFR.out
  have hc1 := HS2.out.c1
  have hw1 : IntKind.i64.wrap ((n : Int) + 1) = (n : Int) + 1 := by simp [IntKind.wrap, IntKind.signed, IntKind.bits]; omega
  clear HS2 HFR HS0
  rcases HA.out with ⟨rfl, hn40, hR⟩ | ⟨rfl, hb, hc⟩
  · have hne : ¬ T.toList = [] := fun e => hR.ne ((toList_iff T ⟨#[]⟩).1 (by rw [e, toList_nilB]))
    have hnb : (T.toList == []) = false := by simpa using hne
    have HR : Hid (Recd w.drew w2 B pb rg cap gb fb Ps f s (idsTo n) (idN n) Fs T) := hR
    clear HA hR
    go_wp2_with fail
    go_ret2
    obtain ⟨P, hP, s', h1, h2, h3, h4, h5, h6, h7⟩ := HR.out.st
    obtain ⟨k1, k2, k3⟩ := HH.out.next hn40 h1 hP h6 HR.out.held HR.out.below
    have e : ((n + 1 : Nat) : Int) = (n : Int) + 1 := by omega
    rw [e] at k1 k2 k3
    exact ⟨T, rfl, .inl ⟨hn40, HR.out.told, HR.out.ne, ⟨P, s', hP, k1, h2, h3, h4, h5, h7⟩, (HB0.out.mono hsz).trans k2, (HeldT.of_below HB0.out).trans k3⟩⟩
  · have HB : Hid (Below w.heap.size w w2) := HB0.out.trans hb
    have HF : Hid (Fs = [] ∨ n = 41 ∨ one = true) := by
      rcases hc with ⟨_, h⟩ | ⟨_, h⟩ | ⟨_, h⟩
      · exact .inl h
      · exact .inr (.inl h)
      · exact .inr (.inr h)
    rcases hc with ⟨rfl, _⟩ | ⟨rfl, _⟩ | ⟨rfl, ho⟩
    · clear HA hb
      go_wp2_with fail
      go_ret2
      exact ⟨_, rfl, .inr ⟨rfl, HB.out, HF.out⟩⟩
    · clear HA hb
      go_wp2_with fail
      go_ret2
      exact ⟨_, rfl, .inr ⟨rfl, HB.out, HF.out⟩⟩
    · have hnm := HN.out ho
      have hne : ¬ nm.toList = [] := fun e => hnm ((toList_iff nm ⟨#[]⟩).1 (by rw [e, toList_nilB]))
      have hnb : (nm.toList == []) = false := by simpa using hne
      clear HA hb
      go_wp2_with fail
      go_ret2
      exact ⟨_, rfl, .inr ⟨rfl, HB.out, HF.out⟩⟩

theorem run_all (h : RW w B rb pb rg cap gb fb n Ps f s) :
    Calls Tryz.prog 29 #[.pointer (some ⟨rb, 0, none⟩), .int .i64 0, .string ⟨#[]⟩] w fun e w' => ∃ T, e = .returned (.tuple #[.string T, .bool true]) ∧ RunA w w' B rb pb rg cap gb fb n Ps f s (chgOf f s (K0 f s)) false T := by
  refine run_record h ⟨#[]⟩ (by decide) _ false (fun e => by cases e) ?_
  rw [app_nilB]
  exact ((h.below (Below.refl _ _).drew).uw).record0 h.lo h.hi rfl h.ids
theorem run_one (h : RW w B rb pb rg cap gb fb n Ps f s) {x : ByteArray} (hx : x ∈ names3) :
    Calls Tryz.prog 29 #[.pointer (some ⟨rb, 0, none⟩), .int .i64 0, .string (spB ++ x)] w fun e w' => ∃ T, e = .returned (.tuple #[.string T, .bool true]) ∧ RunA w w' B rb pb rg cap gb fb n Ps f s (chgOf f s [x]) true T := by
  refine run_record h (spB ++ x) (by rw [ByteArray.size_append]; have := (names3_ok x hx).2; have e : spB.size = 1 := rfl; omega) _ true (fun _ e => ?_) ?_
  · have := congrArg ByteArray.size e
    rw [ByteArray.size_append] at this
    have e1 : spB.size = 1 := rfl
    have e2 : (⟨#[]⟩ : ByteArray).size = 0 := rfl
    omega
  · exact ((h.below (Below.refl _ _).drew).uw).record1 h.lo h.hi rfl h.ids hx
end
end Go.Proofs.YtgdfipmdmgkidaaGreatDoor

/- The ids of a run's patches; what is kept of the three names, and their files. -/
namespace Go.Proofs.YtgdfipmdmgkidaaGreatDoor
open Go.RowKit

theorem arr_app (x y : List UInt8) : (⟨(x ++ y).toArray⟩ : ByteArray) = ⟨x.toArray⟩ ++ ⟨y.toArray⟩ := ByteArray.ext (by simp)
theorem log_size (ids : List Pid) : (⟨(logL ids).toArray⟩ : ByteArray).size = 5 * ids.length := by
  rw [← logL_len]
  exact List.size_toArray
theorem log_at (ids : List Pid) (k : Nat) (hk : k < ids.length) : (⟨(logL ids).toArray⟩ : ByteArray).extract (5 * k) (5 * k + 4) = idText ids[k] ∧ gb ⟨(logL ids).toArray⟩ (5 * k + 4) = 10 := by
  have hsz := log_size ids
  have e1 : ids = ids.take k ++ (ids[k] :: ids.drop (k + 1)) := by rw [← List.drop_eq_getElem_cons hk, List.take_append_drop]
  have e2 : logL ids = logL (ids.take k) ++ (((idText ids[k]).data.toList ++ [10]) ++ logL (ids.drop (k + 1))) := by
    conv => lhs; rw [e1]
    unfold logL
    rw [List.flatMap_append, List.flatMap_cons]
    rfl
  have hA : (⟨(logL (ids.take k)).toArray⟩ : ByteArray).size = 5 * k := by rw [log_size, List.length_take]; omega
  have hI : (⟨(idText ids[k]).data.toList.toArray⟩ : ByteArray) = idText ids[k] := by simp
  have e3 : (⟨(logL ids).toArray⟩ : ByteArray) = ⟨(logL (ids.take k)).toArray⟩ ++ ((idText ids[k] ++ ⟨#[10]⟩) ++ ⟨(logL (ids.drop (k + 1))).toArray⟩) := by
    rw [e2, arr_app, arr_app, arr_app, hI]
  have h4 := idText_size ids[k]
  have hg : ∀ i, i < 5 → gb (⟨(logL ids).toArray⟩ : ByteArray) (5 * k + i) = gb (idText ids[k] ++ ⟨#[10]⟩) i := fun i hi => by
    rw [e3, ← hA, gb_right, gb_left (by rw [ByteArray.size_append, h4]; show i < 4 + 1; omega)]
  refine ⟨ext_gb (by rw [size_ex _ _ _ (by omega), h4]; omega) fun i hi => ?_, ?_⟩
  · rw [size_ex _ _ _ (by omega)] at hi
    rw [gb_ex _ _ _ _ (by omega) (by omega), hg i (by omega), gb_left (by omega)]
  · rw [hg 4 (by omega)]
    have := gb_right (a := idText ids[k]) (b := ⟨#[10]⟩) 0
    rw [h4] at this
    rw [this]
    rfl
section
variable {w : World} {B rb pb rg cap gb fb n : Nat} {Ps : List PM} {f : ByteArray → Option ByteArray} {s : ByteArray → PL} {G : List Pid}
set_option maxRecDepth 100000 in
set_option maxHeartbeats 3200000 in
theorem run_ids (h : RG w B rb pb rg cap gb fb n Ps f s G) (cmd : ByteArray) (ids : List Pid) (hl : ids.length ≤ 1000)
    (hD : Calls Tryz.prog 17 #[.pointer (some ⟨pb, 0, none⟩), .int .i64 0, .string cmd] w fun e w' => e = .returned (.tuple #[.string ⟨(logL ids).toArray⟩, .int .i64 0]) ∧ Below w.heap.size w w') :
    Calls Tryz.prog 27 #[.pointer (some ⟨rb, 0, none⟩), .int .i64 0, .string cmd] w fun e w' => ∃ v, e = .returned (.tuple #[v, .bool true]) ∧ w'.ownsRow w.heap.size 9 1 v (ids.map idText).length (strs (ids.map idText)) ∧ Below w.heap.size w w' := by
  obtain ⟨i0, hi, hz0, hz1, hz2⟩ := info_parts Tryz.info9
  have HD : Hid (Calls Tryz.prog 17 #[.pointer (some ⟨pb, 0, none⟩), .int .i64 0, .string cmd] w fun e w' => e = .returned (.tuple #[.string ⟨(logL ids).toArray⟩, .int .i64 0]) ∧ Below w.heap.size w w') := hD
  obtain ⟨c0, c1⟩ := h.at_
  obtain ⟨S, hS⟩ : ∃ S : ByteArray, (⟨(logL ids).toArray⟩ : ByteArray) = S := ⟨_, rfl⟩
  have hsz : S.size = 5 * ids.length := by rw [← hS]; exact log_size ids
  have HAT : Hid (∀ k, (hk : k < ids.length) → S.extract (5 * k) (5 * k + 4) = idText ids[k] ∧ Proofs.YtgdfipmdmgkidaaGreatDoor.gb S (5 * k + 4) = 10) := fun k hk => by rw [← hS]; exact log_at ids k hk
  rw [hS] at HD
  have hmod : ((S.size : Int)).tmod 5 = 0 := by rw [hsz, Int.tmod_eq_emod_of_nonneg (by omega)]; omega
  clear h hD hS
  go_enter Tryz.func27, Tryz.ntmps27
  go_wp2_with fail
  refine HD.out.mono ?_
  rintro e w1 ⟨rfl, hb1⟩
  clear HD
  have hs1 := hb1.size
  have HB1 : Hid (Below w.heap.size w w1) := hb1
  clear c0 c1 hb1
  go_wp2_with fail
  go_loopw [10, 11] (fun v i wr => ∃ (k : Nat) (O : List ByteArray), k ≤ ids.length ∧ i = .int .i64 (5 * k : Nat) ∧ Hid (O = (ids.take k).map idText) ∧ Hid (O.length = k) ∧ wr.ownsRow w.heap.size 9 1 v O.length (strs O) ∧ Below w.heap.size w wr) (fun _ i _ => 5 * ids.length - (intOf i).toNat)
  case atStart => exact ⟨0, [], Nat.zero_le _, rfl, rfl, rfl, World.ownsRow_nil _ _ _ _, HB1.out⟩
  case round =>
    obtain ⟨k, O, hk, rfl, HO, HOl, hown, hbw⟩ := hrel
    have hw := hbw.size
    by_cases hlt : k < ids.length
    · obtain ⟨a1, a2⟩ := HAT.out k hlt
      obtain ⟨z, hz⟩ : ∃ z, idText ids[k] = z := ⟨_, rfl⟩
      have HZ : Hid (idText ids[k] = z) := hz
      rw [hz] at a1
      have hge : 5 * k + 4 < S.size := by omega
      have h10 : S[5 * k + 4].toNat = 10 := by rw [gb_eq S _ hge]; exact a2
      have hb2 : (((S[5 * k + 4].toNat : Nat) : Int) != 10) = false := by rw [h10]; rfl
      have q1 : IntKind.i64.wrap (((5 * k : Nat) : Int) + 4) = ((5 * k + 4 : Nat) : Int) := by simp [IntKind.wrap, IntKind.signed, IntKind.bits]; omega
      have q2 : IntKind.i64.wrap (((5 * k : Nat) : Int) + 5) = ((5 * (k + 1) : Nat) : Int) := by simp [IntKind.wrap, IntKind.signed, IntKind.bits]; omega
      have q3 : (((5 * k + 4 : Nat) : Int)) < (S.size : Int) := by omega
      have q4 : (((5 * k : Nat) : Int)) < (S.size : Int) := by omega
      have q5 : (((5 * k + 4 : Nat) : Int)) ≤ (S.size : Int) := by omega
      clear a2 hz
      go_wp2_with (at_builtin; refine wpList_append_own _ rfl _ _ 35 rfl w.heap.size 9 i0 (.string ⟨#[]⟩) 1 16 Tryz.underlying35 hi hz0 hz1 hz2 rfl (by decide) _ _ _ rfl (hown.alloc _) ⟨wr.heap.size, 0, none⟩ 1 1 [.string z] rfl rfl ?c1 ?c2 ?c3 ?c4 ?c5 ?_)
      case c1 => exact new_one _ _ _
      case c2 => exact strs_one [_]
      case c3 => have := HOl.out; unfold maxLen; omega
      case c4 => have := HOl.out; omega
      case c5 => simp; omega
      intro v' w2 hown' hg _
      have R := step_own (Nat.le_refl _) hown hbw hw hown' hg
      clear hown' hg hown hbw
      go_wp2
      go_roundw
      case rel =>
        refine ⟨k + 1, O ++ [z], by omega, by go_num, ?_, by show _ = _; rw [List.length_append, HOl.out]; rfl, R.1, R.2.1⟩
        show _ = _
        rw [List.take_succ_eq_append_getElem hlt, List.map_append, ← HO.out, ← HZ.out]
        rfl
      case measure => simp [intOf]; omega
    · have : k = ids.length := by omega
      subst this
      go_wp2
      go_ret2
      have e := HO.out
      rw [List.take_length] at e
      subst e
      exact ⟨_, rfl, hown, hbw⟩
end
end Go.Proofs.YtgdfipmdmgkidaaGreatDoor

/- show on a world of one repository; all patches shown in a run. -/
namespace Go.Proofs.YtgdfipmdmgkidaaGreatDoor
open Go.RowKit

theorem idText_idN : ∀ n ∈ List.range 42, idText (idN n) = idW n := by decide +kernel
/-- What is told of each patch, where it stands. -/
theorem shows_all {Ps : List PM} {s : ByteArray → PL} (hR : RepoG Ps s) (hT : ToldAll Ps) : ∃ D : Nat → ByteArray, ∀ (w : World) (B pb rg cap gb fb : Nat) (f : ByteArray → Option ByteArray) (G : List Pid), UW w B pb rg cap gb fb Ps f s G → ∀ (k : Nat) (P : PM) (m : Nat), Ps[k]? = some P → m ≤ 41 → P.id = idN m →
    Calls Tryz.prog 17 #[.pointer (some ⟨pb, 0, none⟩), .int .i64 0, .string (shwHead ++ idW m)] w fun e w' => e = .returned (.tuple #[.string (D k), .int .i64 0]) ∧ Below w.heap.size w w' := by
  obtain ⟨st, cnt, hS, _, _, _, hl, hids, _, _, hSm⟩ := hR
  have key : ∀ k : Nat, ∃ t : Nat → ByteArray, ∀ P, Ps[k]? = some P → (∀ j c, P.Cs[j]? = some c → TellsP c.2 c.1 (st k 0 c.1) (t j)) ∧ ∀ j, (t j).size ≤ 1000000 := fun k => by
    cases hk : Ps[k]? with
    | none => exact ⟨fun _ => ⟨#[]⟩, fun P h => by cases h⟩
    | some P =>
      have : ∀ j : Nat, ∃ T : ByteArray, (∀ c, P.Cs[j]? = some c → TellsP c.2 c.1 (st k 0 c.1) T) ∧ T.size ≤ 1000000 := fun j => by
        cases hj : P.Cs[j]? with
        | none => exact ⟨⟨#[]⟩, (fun c h => by cases h), by decide⟩
        | some c =>
          obtain ⟨T, t1, t2⟩ := hT st cnt hS k P hk c (List.mem_of_getElem? hj)
          exact ⟨T, fun c' h => by cases h; exact t1, t2⟩
      refine ⟨fun j => (this j).choose, fun P' h => ?_⟩
      cases h
      exact ⟨fun j c hj => (this j).choose_spec.1 c hj, fun j => (this j).choose_spec.2⟩
  obtain ⟨TT, hTT⟩ : ∃ TT : Nat → Nat → ByteArray, ∀ k P, Ps[k]? = some P → (∀ j c, P.Cs[j]? = some c → TellsP c.2 c.1 (st k 0 c.1) (TT k j)) ∧ ∀ j, (TT k j).size ≤ 1000000 := ⟨fun k => (key k).choose, fun k => (key k).choose_spec⟩
  clear key
  refine ⟨fun k => match Ps[k]? with | some P => shownB P.id ⟨(toldTo (TT k) P.Cs.length).toArray⟩ | none => ⟨#[]⟩, fun w B pb rg cap gb fb f G h k P m hk hm hP => ?_⟩
  obtain ⟨pv, h1⟩ := h.one
  obtain ⟨i1, _⟩ := ids_words m (List.mem_range.2 (by omega))
  obtain ⟨_, _, i2, i3⟩ := ids_swap m (List.mem_range.2 (by omega))
  obtain ⟨t1, t2⟩ := hTT k P hk
  have eD : (match Ps[k]? with | some P => shownB P.id ⟨(toldTo (TT k) P.Cs.length).toArray⟩ | none => ⟨#[]⟩) = shownB P.id ⟨(toldTo (TT k) P.Cs.length).toArray⟩ := by rw [hk]
  show Calls Tryz.prog 17 _ w fun e w' => e = .returned (.tuple #[.string (match Ps[k]? with | some P => shownB P.id ⟨(toldTo (TT k) P.Cs.length).toArray⟩ | none => ⟨#[]⟩), .int .i64 0]) ∧ Below w.heap.size w w'
  rw [eD]
  refine (do12_any h1 (shwHead ++ idW m) i2 (fun x c w' => (x = shownB P.id ⟨(toldTo (TT k) P.Cs.length).toArray⟩ ∧ c = 0) ∧ Below w.heap.size w w') (fun u va vc hu ho => ?_)).mono ?_
  · rw [i3, i1] at ho ⊢
    obtain ⟨wb, rfl, htb, hcap, hcl⟩ := words_at ho (by simp)
    have h0 := hcl 0 (by simp)
    have h2 := hcl 1 (by simp)
    refine (carry45_show pb rg wb 0 vc (uc m 0) (uc m 1) (uc m 2) (uc m 3) u (fun x c w' => (x = shownB P.id ⟨(toldTo (TT k) P.Cs.length).toArray⟩ ∧ c = 0) ∧ Below w.heap.size w w') h0 h2 (fun v hv => ?_)).mono (fun e w' k => k)
    have hbv := hu.trans (hv.mono hu.size)
    have hc := (h1.below hbv).show_ hS hk hids (by omega) _ t1 t2 (by have := hSm.few P (List.mem_of_getElem? hk); omega)
    rw [hP] at hc ⊢
    refine hc.mono ?_
    rintro e w' ⟨rfl, k2⟩
    exact ⟨_, _, rfl, ⟨rfl, rfl⟩, hbv.trans (k2.mono hbv.size)⟩
  · rintro e w' ⟨x, c, rfl, ⟨rfl, rfl⟩, hb⟩
    exact ⟨rfl, hb⟩
end Go.Proofs.YtgdfipmdmgkidaaGreatDoor

/- All patches of a run, shown. -/
namespace Go.Proofs.YtgdfipmdmgkidaaGreatDoor
open Go.RowKit

structure ShnS (rb pb lb k : Nat) (x : ByteArray) (w : World) : Prop where
  c0 : w.cell? ⟨rb, 0, none⟩ = some (.pointer (some ⟨pb, 0, none⟩))
  c1 : w.cell? ⟨lb, k, none⟩ = some (.string x)
def shownX (D : Nat → ByteArray) (k : Nat) : List ByteArray := (List.range k).map D
theorem shownX_succ (D : Nat → ByteArray) (k : Nat) : shownX D (k + 1) = shownX D k ++ [D k] := by unfold shownX; rw [List.range_succ, List.map_append]; rfl
theorem shownX_len (D : Nat → ByteArray) (k : Nat) : (shownX D k).length = k := by simp [shownX]
section
variable {w : World} {B rb pb rg cap gb fb n : Nat} {Ps : List PM} {f : ByteArray → Option ByteArray} {s : ByteArray → PL} {G : List Pid}
set_option maxRecDepth 100000 in
set_option maxHeartbeats 3200000 in
theorem run_shown (h : RG w B rb pb rg cap gb fb n Ps f s G) (D : Nat → ByteArray) (hD : ∀ u, Below w.heap.size w u → ∀ (k : Nat) (P : PM) (m : Nat), Ps[k]? = some P → m ≤ 41 → P.id = idN m → Calls Tryz.prog 17 #[.pointer (some ⟨pb, 0, none⟩), .int .i64 0, .string (shwHead ++ idW m)] u fun e w' => e = .returned (.tuple #[.string (D k), .int .i64 0]) ∧ Below u.heap.size u w')
    (hids : ∀ (k : Nat) (P : PM), Ps[k]? = some P → P.id = idN (k + 1)) (hPl : Ps.length ≤ 40) (L : List ByteArray) (hL : (Ps.map (·.id)).map idText = L) {Bl lc : Nat} {la : Option Addr} (hl : w.ownsRow Bl 9 1 (.slice la L.length lc) L.length (strs L)) :
    Calls Tryz.prog 30 #[.pointer (some ⟨rb, 0, none⟩), .int .i64 0, .slice la L.length lc] w fun e w' => ∃ v, e = .returned v ∧ w'.ownsRow w.heap.size 9 1 v (shownX D L.length).length (strs (shownX D L.length)) ∧ Below w.heap.size w w' := by
  obtain ⟨i0, hi, hz0, hz1, hz2⟩ := info_parts Tryz.info9
  have hLl : L.length = Ps.length := by rw [← hL]; simp
  have HH : Hid (RG w B rb pb rg cap gb fb n Ps f s G) := h
  have HLO : Hid (w.ownsRow Bl 9 1 (.slice la L.length lc) L.length (strs L)) := hl
  have HX : Hid (∀ k, k < L.length → (L[k]? = some (idW (k + 1)) ∧ k + 1 ≤ 41 ∧ ∀ u, Below w.heap.size w u → Calls Tryz.prog 17 #[.pointer (some ⟨pb, 0, none⟩), .int .i64 0, .string (⟨#[115, 104, 111, 119, 32]⟩ ++ idW (k + 1))] u fun e w' => e = .returned (.tuple #[.string (D k), .int .i64 0]) ∧ Below u.heap.size u w')) := fun k hk => by
    have hk' : k < Ps.length := by omega
    have hP := List.getElem?_eq_getElem hk'
    have hid := hids k _ hP
    refine ⟨?_, by omega, fun u hu => hD u hu k _ (k + 1) hP (by omega) hid⟩
    rw [← hL, List.getElem?_map, List.getElem?_map, hP]
    simp only [Option.map_some]
    rw [hid, idText_idN (k + 1) (List.mem_range.2 (by omega))]
  have HL40 : Hid (L.length ≤ 40) := by show _ ≤ _; omega
  clear h hl hD hids hPl hL hLl
  go_enter Tryz.func30, Tryz.ntmps30
  go_wp2
  go_loopw [7, 8, 9, 10] (fun v i _ _ wr => ∃ (k : Nat) (O : List ByteArray), k ≤ L.length ∧ i = .int .i64 k ∧ Hid (O = shownX D k) ∧ Hid (O.length = k) ∧ wr.ownsRow w.heap.size 9 1 v O.length (strs O) ∧ Below w.heap.size w wr) (fun _ i _ _ _ => L.length - (intOf i).toNat)
  case atStart => exact ⟨0, [], Nat.zero_le _, rfl, rfl, rfl, World.ownsRow_nil _ _ _ _, Below.refl _ _⟩
  case round =>
    obtain ⟨k, O, hk, rfl, HO, HOl, hown, hbw⟩ := hrel
    have hw := hbw.size
    obtain ⟨va, vc, rfl⟩ := own_shape hown
    by_cases hlt : k < L.length
    · obtain ⟨lx, hk41, hcall⟩ := HX.out k hlt
      obtain ⟨lb, hla, _, hlb⟩ := own_at HLO.out (by omega)
      subst hla
      obtain ⟨z, hz⟩ : ∃ z, D k = z := ⟨_, rfl⟩
      have HZ : Hid (D k = z) := hz
      have hi4 := idW_size hk41
      obtain ⟨iw, hiw⟩ : ∃ iw, idW (k + 1) = iw := ⟨_, rfl⟩
      rw [hiw] at lx hcall hi4
      have hb1 : Below w.heap.size w wr.drew := hbw.trans (Below.refl _ _).drew
      have HSB : Hid (∀ u, Below w.heap.size w u → ShnS rb pb lb k iw u) := fun u hu => by
        refine ⟨((HH.out.below hu).at_).c0, ?_⟩
        have h1 := (own_below HLO.out hu (Nat.le_refl _))
        rw [h1.cellAt k (by omega)]
        unfold strs
        rw [List.getElem?_map, lx]
        rfl
      have HS0 : Hid (ShnS rb pb lb k iw wr.drew) := HSB.out _ hb1
      have HK : Hid (Calls Tryz.prog 17 #[.pointer (some ⟨pb, 0, none⟩), .int .i64 0, .string (⟨#[115, 104, 111, 119, 32]⟩ ++ iw)] wr.drew fun e w' => e = .returned (.tuple #[.string z, .int .i64 0]) ∧ Below wr.drew.heap.size wr.drew w') := by
        have := hcall wr.drew hb1
        rw [hz] at this
        exact this
      have HB1 : Hid (Below w.heap.size w wr.drew) := hb1
      have HOW : Hid (wr.ownsRow w.heap.size 9 1 (.slice va O.length vc) O.length (strs O)) := hown
      have z1 : ¬ 9223372036854775807 < 5 + iw.size := by omega
      have kl : (k : Int) < (L.length : Int) := by omega
      clear hb1 hown hcall lx hz hiw hi4
      go_wp2_with fail
      refine wp_region_Z (ShnS rb pb lb k iw) 99 (by kernel_rfl) ?_
      refine wpZ_take 0 _ (v := ?z0) rfl (by kernel_rfl) (by kernel_rfl) (by kernel_rfl) (fun _ _ _ h => h) (by kernel_rfl) (by decide) HS0.out rfl (fun w0 hS0 => ?hy) ?_
      case hy =>
        obtain ⟨s0, s1⟩ := hS0
        go_simp
        with_reducible rfl
      simp only [Act.put, List.setIfInBounds_toArray]
      refine wpZ_take 1 _ (v := ?z1) rfl (by kernel_rfl) (by kernel_rfl) (by kernel_rfl) (fun _ _ _ h => h) (by kernel_rfl) (by decide) HS0.out rfl (fun w0 hS0 => ?hy) ?_
      case hy =>
        obtain ⟨s0, s1⟩ := hS0
        go_simp
        with_reducible rfl
      simp only [Act.put]
      refine wpZ_take 2 _ (v := ?z2) rfl (by kernel_rfl) (by kernel_rfl) (by kernel_rfl) (fun _ _ _ h => h) (by kernel_rfl) (by decide) HS0.out rfl (fun w0 hS0 => ?hy) ?_
      case hy =>
        obtain ⟨s0, s1⟩ := hS0
        go_simp
        with_reducible rfl
      simp only [Act.put]
      refine wpZ_take 3 _ (v := ?z3) rfl (by kernel_rfl) (by kernel_rfl) (by kernel_rfl) (fun _ _ _ h => h) (by kernel_rfl) (by decide) HS0.out rfl (fun w0 hS0 => ?hy) ?_
      case hy =>
        obtain ⟨s0, s1⟩ := hS0
        go_simp
        with_reducible rfl
      simp only [Act.put]
      refine wpZ_take 4 _ (v := ?z4) rfl (by kernel_rfl) (by kernel_rfl) (by kernel_rfl) (fun _ _ _ h => h) (by kernel_rfl) (by decide) HS0.out rfl (fun w0 hS0 => ?hy) ?_
      case hy =>
        obtain ⟨s0, s1⟩ := hS0
        go_simp
        with_reducible rfl
      simp only [Act.put]
      refine wpZ_take 5 _ (v := ?z5) rfl (by kernel_rfl) (by kernel_rfl) (by kernel_rfl) (fun _ _ _ h => h) (by kernel_rfl) (by decide) HS0.out rfl (fun w0 hS0 => ?hy) ?_
      case hy =>
        obtain ⟨s0, s1⟩ := hS0
        go_simp
        with_reducible rfl
      simp only [Act.put]
      refine wpZ_take 6 _ (v := ?z6) rfl (by kernel_rfl) (by kernel_rfl) (by kernel_rfl) (fun _ _ _ h => h) (by kernel_rfl) (by decide) HS0.out rfl (fun w0 hS0 => ?hy) ?_
      case hy =>
        obtain ⟨s0, s1⟩ := hS0
        go_simp
        with_reducible rfl
      simp only [Act.put]
      refine wpZ_take 7 _ (v := ?z7) rfl (by kernel_rfl) (by kernel_rfl) (by kernel_rfl) (fun _ _ _ h => h) (by kernel_rfl) (by decide) HS0.out rfl (fun w0 hS0 => ?hy) ?_
      case hy =>
        obtain ⟨s0, s1⟩ := hS0
        go_simp
        with_reducible rfl
      simp only [Act.put]
      refine wpZ_take 8 _ (v := ?z8) rfl (by kernel_rfl) (by kernel_rfl) (by kernel_rfl) (fun _ _ _ h => h) (by kernel_rfl) (by decide) HS0.out rfl (fun w0 hS0 => ?hy) ?_
      case hy =>
        obtain ⟨s0, s1⟩ := hS0
        go_simp
        with_reducible rfl
      simp only [Act.put]
      refine wpZ_take 9 _ (v := ?z9) rfl (by kernel_rfl) (by kernel_rfl) (by kernel_rfl) (fun _ _ _ h => h) (by kernel_rfl) (by decide) HS0.out rfl (fun w0 hS0 => ?hy) ?_
      case hy =>
        obtain ⟨s0, s1⟩ := hS0
        go_simp
        with_reducible rfl
      simp only [Act.put]
      refine wpZ_one 10 _ rfl (by kernel_rfl) (fun KK hK => ?_)
      go_simp
      refine HK.out.mono ?_
      rintro e w2 ⟨rfl, hb2⟩
      dsimp only
      have hbw2 : Below w.heap.size w w2 := HB1.out.trans (hb2.mono HB1.out.size)
      have HS2 : Hid (ShnS rb pb lb k iw w2) := HSB.out w2 hbw2
      refine hK.out _ _ (fun _ => HS2.out) ?_
      clear hK HK HSB
      refine wpZ_take 11 _ (v := ?z11) rfl (by kernel_rfl) (by kernel_rfl) (by kernel_rfl) (fun _ _ _ h => h) (by kernel_rfl) (by decide) HS2.out rfl (fun w0 hS0 => ?hy) ?_
      case hy =>
        obtain ⟨s0, s1⟩ := hS0
        go_simp
        with_reducible rfl
      simp only [Act.put, List.setIfInBounds_toArray]
      refine wpZ_take 12 _ (v := ?z12) rfl (by kernel_rfl) (by kernel_rfl) (by kernel_rfl) (fun _ _ _ h => h) (by kernel_rfl) (by decide) HS2.out rfl (fun w0 hS0 => ?hy) ?_
      case hy =>
        obtain ⟨s0, s1⟩ := hS0
        go_simp
        with_reducible rfl
      simp only [Act.put]
      refine wpZ_take 13 _ (v := ?z13) rfl (by kernel_rfl) (by kernel_rfl) (by kernel_rfl) (fun _ _ _ h => h) (by kernel_rfl) (by decide) HS2.out rfl (fun w0 hS0 => ?hy) ?_
      case hy =>
        obtain ⟨s0, s1⟩ := hS0
        go_simp
        with_reducible rfl
      simp only [Act.put]
      refine wpZ_take 14 _ (v := ?z14) rfl (by kernel_rfl) (by kernel_rfl) (by kernel_rfl) (fun _ _ _ h => h) (by kernel_rfl) (by decide) HS2.out rfl (fun w0 hS0 => ?hy) ?_
      case hy =>
        obtain ⟨s0, s1⟩ := hS0
        go_simp
        with_reducible rfl
      simp only [Act.put]
      refine wpZ_take 15 _ (v := ?z15) rfl (by kernel_rfl) (by kernel_rfl) (by kernel_rfl) (fun _ _ _ h => h) (by kernel_rfl) (by decide) HS2.out rfl (fun w0 hS0 => ?hy) ?_
      case hy =>
        obtain ⟨s0, s1⟩ := hS0
        go_simp
        with_reducible rfl
      simp only [Act.put]
      refine wpZ_done (by kernel_rfl) ?_ _
      have hown2 : w2.ownsRow w.heap.size 9 1 (.slice va O.length vc) O.length (strs O) := own_below (HOW.out.drew) hb2 (Nat.le_refl _)
      have hw2 := hbw2.size
      clear hb2 HB1 HOW HS2 HS0 hbw
      go_wp2_with (at_builtin; refine wpList_append_own _ rfl _ _ 35 rfl w.heap.size 9 i0 (.string ⟨#[]⟩) 1 16 Tryz.underlying35 hi hz0 hz1 hz2 rfl (by decide) _ _ _ rfl (hown2.alloc _) ⟨w2.heap.size, 0, none⟩ 1 1 [.string z] rfl rfl ?c1 ?c2 ?c3 ?c4 ?c5 ?_)
      case c1 => exact new_one _ _ _
      case c2 => exact strs_one [_]
      case c3 => have := HOl.out; have := HL40.out; unfold maxLen; omega
      case c4 => have := HOl.out; have := HL40.out; omega
      case c5 => simp; omega
      intro v' w3 hown' hg _
      have R := step_own (Nat.le_refl _) hown2 hbw2 hw2 hown' hg
      clear hown' hg hown2 hbw2
      have kq : IntKind.i64.wrap ((k : Int) + 1) = ((k + 1 : Nat) : Int) := by have := HL40.out; simp [IntKind.wrap, IntKind.signed, IntKind.bits]; omega
      go_wp2
      go_roundw
      case rel => exact ⟨k + 1, O ++ [z], by omega, by go_num, by show _ = _; rw [shownX_succ, HO.out, HZ.out], by show _ = _; rw [List.length_append, HOl.out]; rfl, R.1, R.2.1⟩
      case measure => simp [intOf]; omega
    · have hkL : k = L.length := by omega
      have HKL : Hid (k = L.length) := hkL
      have kl : ¬ (k : Int) < (L.length : Int) := by omega
      clear hkL
      go_wp2
      go_ret
      have e := HO.out
      rw [HKL.out] at e
      subst e
      exact ⟨_, rfl, hown, hbw⟩
end
end Go.Proofs.YtgdfipmdmgkidaaGreatDoor
