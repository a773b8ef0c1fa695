/- A record in a run. -/
import Derived.Test.YtgdfipmdmgkidaaGreatDoorUrecc
namespace Go.Proofs.YtgdfipmdmgkidaaGreatDoor
open Go.RowKit

theorem toList_nilB : (⟨#[]⟩ : ByteArray).toList = [] := by decide +kernel
theorem app_nilB (b : ByteArray) : b ++ ⟨#[]⟩ = b := ByteArray.ext (by simp)

section
variable {w : World} {B rb pb rg cap gb fb n : Nat} {Ps : List PM} {f : ByteArray → Option ByteArray} {s : ByteArray → PL}
structure Rec29 (w w' : World) (B rb pb rg cap gb fb n : Nat) (Ps : List PM) (f : ByteArray → Option ByteArray) (s : ByteArray → PL) (Fs : List Fl) (T : ByteArray) : Prop where
  told : ToldIs s Fs T
  ne : T ≠ ⟨#[]⟩
  st : ∃ (P : PM) (s' : ByteArray → PL), P.id = idN n ∧ RW w' B rb pb rg cap gb fb (n + 1) (Ps ++ [P]) f s' ∧ (∀ g ∈ Fs, (s' g.name).alive = g.there ∧ (g.there = true → rowText (s' g.name).S = g.text)) ∧ (∀ x, (∀ g ∈ Fs, g.name ≠ x) → s' x = s x) ∧ leaveR (Ps ++ [P]) (idN n) = (⟨#[]⟩, 0) ∧ ((Ps ++ [P]).filter fun P => !decide (P.id = idN n)) = Ps
  below : Below B w w'
  held : HeldT (· = 9) w w'
/-- What a record in a run answers. -/
def RunA (w w' : World) (B rb pb rg cap gb fb n : Nat) (Ps : List PM) (f : ByteArray → Option ByteArray) (s : ByteArray → PL) (Fs : List Fl) (one : Bool) (T : ByteArray) : Prop :=
  (n ≤ 40 ∧ Rec29 w w' B rb pb rg cap gb fb n Ps f s Fs T) ∨ (T = ⟨#[]⟩ ∧ Below w.heap.size w w' ∧ (Fs = [] ∨ n = 41 ∨ one = true))

set_option maxRecDepth 100000 in
set_option maxHeartbeats 3200000 in
theorem run_record (h : RW w B rb pb rg cap gb fb n Ps f s) (nm : ByteArray) (hnm : nm.size ≤ 1000) (Fs : List Fl) (one : Bool) (hone : one = true → nm ≠ ⟨#[]⟩)
    (hD : Calls Tryz.prog 17 #[.pointer (some ⟨pb, 0, none⟩), .int .i64 0, .string (recHead ++ idW n ++ nm)] w.drew fun e w' => ∃ T c, e = .returned (.tuple #[.string T, .int .i64 c]) ∧ RecA w.drew w' B pb rg cap gb fb Ps f s (idsTo n) n Fs one T c) :
    Calls Tryz.prog 29 #[.pointer (some ⟨rb, 0, none⟩), .int .i64 0, .string nm] w fun e w' => ∃ T, e = .returned (.tuple #[.string T, .bool true]) ∧ RunA w w' B rb pb rg cap gb fb n Ps f s Fs one T := by
  have HD : Hid (Calls Tryz.prog 17 #[.pointer (some ⟨pb, 0, none⟩), .int .i64 0, .string ((⟨#[114, 101, 99, 111, 114, 100, 32]⟩ ++ idW n) ++ nm)] w.drew fun e w' => ∃ T c, e = .returned (.tuple #[.string T, .int .i64 c]) ∧ RecA w.drew w' B pb rg cap gb fb Ps f s (idsTo n) n Fs one T c) := hD
  have hb0 : Below w.heap.size w w.drew := (Below.refl _ _).drew
  have HH : Hid (RW w.drew B rb pb rg cap gb fb n Ps f s) := h.below hb0
  have HS0 : Hid (RunS rb pb n w.drew) := (h.below hb0).at_
  have HB0 : Hid (Below w.heap.size w w.drew) := hb0
  have HN : Hid (one = true → nm ≠ ⟨#[]⟩) := hone
  have hn1 := h.hi
  have hn0 := h.lo
  have hsz := h.base
  have hi4 := idW_size hn1
  have z1 : ¬ 9223372036854775807 < 7 + (idW n).size := by omega
  have z2 : ¬ 9223372036854775807 < 7 + (idW n).size + nm.size := by omega
  clear hi4
  clear h hD hb0 hone
  go_enter Tryz.func29, Tryz.ntmps29
  go_wp2_with fail
  refine wp_region_Z (RunS rb pb n) 99 (by kernel_rfl) ?_
  refine wpZ_take 0 _ (v := ?z1) rfl (by kernel_rfl) (by kernel_rfl) (by kernel_rfl) (fun _ _ _ h => h) (by kernel_rfl) (by decide) HS0.out rfl (fun w0 hS0 => ?hy) ?_
  case hy =>
    obtain ⟨s1, s2⟩ := hS0
    go_simp
    with_reducible rfl
  simp only [Act.put, List.setIfInBounds_toArray]
  refine wpZ_take 1 _ (v := ?z2) rfl (by kernel_rfl) (by kernel_rfl) (by kernel_rfl) (fun _ _ _ h => h) (by kernel_rfl) (by decide) HS0.out rfl (fun w0 hS0 => ?hy) ?_
  case hy =>
    obtain ⟨s1, s2⟩ := hS0
    go_simp
    with_reducible rfl
  simp only [Act.put]
  refine wpZ_take 2 _ (v := ?z3) rfl (by kernel_rfl) (by kernel_rfl) (by kernel_rfl) (fun _ _ _ h => h) (by kernel_rfl) (by decide) HS0.out rfl (fun w0 hS0 => ?hy) ?_
  case hy =>
    obtain ⟨s1, s2⟩ := hS0
    go_simp
    with_reducible rfl
  simp only [Act.put]
  refine wpZ_take 3 _ (v := ?z4) rfl (by kernel_rfl) (by kernel_rfl) (by kernel_rfl) (fun _ _ _ h => h) (by kernel_rfl) (by decide) HS0.out rfl (fun w0 hS0 => ?hy) ?_
  case hy =>
    obtain ⟨s1, s2⟩ := hS0
    go_simp
    with_reducible rfl
  simp only [Act.put]
  refine wpZ_take 4 _ (v := ?z5) rfl (by kernel_rfl) (by kernel_rfl) (by kernel_rfl) (fun _ _ _ h => h) (by kernel_rfl) (by decide) HS0.out rfl (fun w0 hS0 => ?hy) ?_
  case hy =>
    obtain ⟨s1, s2⟩ := hS0
    go_simp
    with_reducible rfl
  simp only [Act.put]
  refine wpZ_take 5 _ (v := ?z6) rfl (by kernel_rfl) (by kernel_rfl) (by kernel_rfl) (fun _ _ _ h => h) (by kernel_rfl) (by decide) HS0.out rfl (fun w0 hS0 => ?hy) ?_
  case hy =>
    obtain ⟨s1, s2⟩ := hS0
    go_simp
    with_reducible rfl
  simp only [Act.put]
  refine wpZ_take 6 _ (v := ?z7) rfl (by kernel_rfl) (by kernel_rfl) (by kernel_rfl) (fun _ _ _ h => h) (by kernel_rfl) (by decide) HS0.out rfl (fun w0 hS0 => ?hy) ?_
  case hy =>
    obtain ⟨s1, s2⟩ := hS0
    go_simp
    with_reducible rfl
  simp only [Act.put]
  refine wpZ_take 7 _ (v := ?z8) rfl (by kernel_rfl) (by kernel_rfl) (by kernel_rfl) (fun _ _ _ h => h) (by kernel_rfl) (by decide) HS0.out rfl (fun w0 hS0 => ?hy) ?_
  case hy =>
    obtain ⟨s1, s2⟩ := hS0
    go_simp
    with_reducible rfl
  simp only [Act.put]
  refine wpZ_take 8 _ (v := ?z9) rfl (by kernel_rfl) (by kernel_rfl) (by kernel_rfl) (fun _ _ _ h => h) (by kernel_rfl) (by decide) HS0.out rfl (fun w0 hS0 => ?hy) ?_
  case hy =>
    obtain ⟨s1, s2⟩ := hS0
    go_simp
    with_reducible rfl
  simp only [Act.put]
  refine wpZ_take 11 _ (v := ?z10) rfl (by kernel_rfl) (by kernel_rfl) (by kernel_rfl) (fun _ _ _ h => h) (by kernel_rfl) (by decide) HS0.out rfl (fun w0 hS0 => ?hy) ?_
  case hy =>
    obtain ⟨s1, s2⟩ := hS0
    go_simp
    with_reducible rfl
  simp only [Act.put]
  refine wpZ_one 9 _ rfl (by kernel_rfl) (fun KK hK => ?_)
  go_simp
  refine (kid28_any n (by omega) _).mono ?_
  rintro e w1 ⟨rfl, rfl⟩
  dsimp only
  refine hK.out _ _ (fun _ => HS0.out) ?_
  clear hK
  refine wpZ_take 10 _ (v := ?z11) rfl (by kernel_rfl) (by kernel_rfl) (by kernel_rfl) (fun _ _ _ h => h) (by kernel_rfl) (by decide) HS0.out rfl (fun w0 hS0 => ?hy) ?_
  case hy =>
    obtain ⟨s1, s2⟩ := hS0
    go_simp
    with_reducible rfl
  simp only [Act.put, List.setIfInBounds_toArray]
  refine wpZ_take 12 _ (v := ?z12) rfl (by kernel_rfl) (by kernel_rfl) (by kernel_rfl) (fun _ _ _ h => h) (by kernel_rfl) (by decide) HS0.out rfl (fun w0 hS0 => ?hy) ?_
  case hy =>
    obtain ⟨s1, s2⟩ := hS0
    go_simp
    with_reducible rfl
  simp only [Act.put]
  refine wpZ_one 13 _ rfl (by kernel_rfl) (fun KK hK => ?_)
  go_simp
  refine HD.out.mono ?_
  rintro e w2 ⟨T, c, rfl, hA⟩
  clear HD
  dsimp only
  have hh2 : HeldT kin w.drew w2 := by
    rcases hA with ⟨_, _, hR⟩ | ⟨_, hb, _⟩
    · exact hR.held
    · exact HeldT.of_below hb
  have hr2 := (hh2.keep _ _ HH.out.tb (.inr rfl)).trans HH.out.run
  have hS2 : RunS rb pb n w2 := run_at hr2
  have HS2 : Hid (RunS rb pb n w2) := hS2
  have HFR : Hid (w2.frozen? ⟨rb, 1, none⟩ = false) := free3 hr2 1
  have HA : Hid (RecA w.drew w2 B pb rg cap gb fb Ps f s (idsTo n) n Fs one T c) := hA
  refine hK.out _ _ (fun _ => hS2) ?_
  clear hK hS2 hr2 hh2 hA
  refine wpZ_take 14 _ (v := ?z13) rfl (by kernel_rfl) (by kernel_rfl) (by kernel_rfl) (fun _ _ _ h => h) (by kernel_rfl) (by decide) HS2.out rfl (fun w0 hS0 => ?hy) ?_
  case hy =>
    obtain ⟨s1, s2⟩ := hS0
    go_simp
    with_reducible rfl
  simp only [Act.put, List.setIfInBounds_toArray]
  refine wpZ_take 15 _ (v := ?z14) rfl (by kernel_rfl) (by kernel_rfl) (by kernel_rfl) (fun _ _ _ h => h) (by kernel_rfl) (by decide) HS2.out rfl (fun w0 hS0 => ?hy) ?_
  case hy =>
    obtain ⟨s1, s2⟩ := hS0
    go_simp
    with_reducible rfl
  simp only [Act.put]
  refine wpZ_take 16 _ (v := ?z15) rfl (by kernel_rfl) (by kernel_rfl) (by kernel_rfl) (fun _ _ _ h => h) (by kernel_rfl) (by decide) HS2.out rfl (fun w0 hS0 => ?hy) ?_
  case hy =>
    obtain ⟨s1, s2⟩ := hS0
    go_simp
    with_reducible rfl
  simp only [Act.put]
  refine wpZ_take 17 _ (v := ?z16) rfl (by kernel_rfl) (by kernel_rfl) (by kernel_rfl) (fun _ _ _ h => h) (by kernel_rfl) (by decide) HS2.out rfl (fun w0 hS0 => ?hy) ?_
  case hy =>
    obtain ⟨s1, s2⟩ := hS0
    go_simp
    with_reducible rfl
  simp only [Act.put]
  refine wpZ_take 18 _ (v := ?z17) rfl (by kernel_rfl) (by kernel_rfl) (by kernel_rfl) (fun _ _ _ h => h) (by kernel_rfl) (by decide) HS2.out rfl (fun w0 hS0 => ?hy) ?_
  case hy =>
    obtain ⟨s1, s2⟩ := hS0
    go_simp
    with_reducible rfl
  simp only [Act.put]
  refine wpZ_done (by kernel_rfl) ?_ _
  have hfr := HFR.out
  have hc1 := HS2.out.c1
  have hw1 : IntKind.i64.wrap ((n : Int) + 1) = (n : Int) + 1 := by simp [IntKind.wrap, IntKind.signed, IntKind.bits]; omega
  clear HS2 HFR HS0
  rcases HA.out with ⟨rfl, hn40, hR⟩ | ⟨rfl, hb, hc⟩
  · have hne : ¬ T.toList = [] := fun e => hR.ne ((toList_iff T ⟨#[]⟩).1 (by rw [e, toList_nilB]))
    have hnb : (T.toList == []) = false := by simpa using hne
    have HR : Hid (Recd w.drew w2 B pb rg cap gb fb Ps f s (idsTo n) (idN n) Fs T) := hR
    clear HA hR
    go_wp2_with fail
    go_ret2
    obtain ⟨P, hP, s', h1, h2, h3, h4, h5⟩ := HR.out.st
    obtain ⟨k1, k2, k3⟩ := HH.out.next hn40 h1 hP HR.out.held HR.out.below
    have e : ((n + 1 : Nat) : Int) = (n : Int) + 1 := by omega
    rw [e] at k1 k2 k3
    exact ⟨T, rfl, .inl ⟨hn40, HR.out.told, HR.out.ne, ⟨P, s', hP, k1, h2, h3, h4, h5⟩, (HB0.out.mono hsz).trans k2, (HeldT.of_below HB0.out).trans k3⟩⟩
  · have HB : Hid (Below w.heap.size w w2) := HB0.out.trans hb
    have HF : Hid (Fs = [] ∨ n = 41 ∨ one = true) := by
      rcases hc with ⟨_, h⟩ | ⟨_, h⟩ | ⟨_, h⟩
      · exact .inl h
      · exact .inr (.inl h)
      · exact .inr (.inr h)
    rcases hc with ⟨rfl, _⟩ | ⟨rfl, _⟩ | ⟨rfl, ho⟩
    · clear HA hb
      go_wp2_with fail
      go_ret2
      exact ⟨_, rfl, .inr ⟨rfl, HB.out, HF.out⟩⟩
    · clear HA hb
      go_wp2_with fail
      go_ret2
      exact ⟨_, rfl, .inr ⟨rfl, HB.out, HF.out⟩⟩
    · have hnm := HN.out ho
      have hne : ¬ nm.toList = [] := fun e => hnm ((toList_iff nm ⟨#[]⟩).1 (by rw [e, toList_nilB]))
      have hnb : (nm.toList == []) = false := by simpa using hne
      clear HA hb
      go_wp2_with fail
      go_ret2
      exact ⟨_, rfl, .inr ⟨rfl, HB.out, HF.out⟩⟩

theorem run_all (h : RW w B rb pb rg cap gb fb n Ps f s) :
    Calls Tryz.prog 29 #[.pointer (some ⟨rb, 0, none⟩), .int .i64 0, .string ⟨#[]⟩] w fun e w' => ∃ T, e = .returned (.tuple #[.string T, .bool true]) ∧ RunA w w' B rb pb rg cap gb fb n Ps f s (chgOf f s (K0 f s)) false T := by
  refine run_record h ⟨#[]⟩ (by decide) _ false (fun e => by cases e) ?_
  rw [app_nilB]
  exact ((h.below (Below.refl _ _).drew).uw).record0 h.lo h.hi rfl h.ids
theorem run_one (h : RW w B rb pb rg cap gb fb n Ps f s) {x : ByteArray} (hx : x ∈ names3) :
    Calls Tryz.prog 29 #[.pointer (some ⟨rb, 0, none⟩), .int .i64 0, .string (spB ++ x)] w fun e w' => ∃ T, e = .returned (.tuple #[.string T, .bool true]) ∧ RunA w w' B rb pb rg cap gb fb n Ps f s (chgOf f s [x]) true T := by
  refine run_record h (spB ++ x) (by rw [ByteArray.size_append]; have := (names3_ok x hx).2; have e : spB.size = 1 := rfl; omega) _ true (fun _ e => ?_) ?_
  · have := congrArg ByteArray.size e
    rw [ByteArray.size_append] at this
    have e1 : spB.size = 1 := rfl
    have e2 : (⟨#[]⟩ : ByteArray).size = 0 := rfl
    omega
  · exact ((h.below (Below.refl _ _).drew).uw).record1 h.lo h.hi rfl h.ids hx
end
end Go.Proofs.YtgdfipmdmgkidaaGreatDoor

/- The ids of a run's patches; what is kept of the three names, and their files. -/
namespace Go.Proofs.YtgdfipmdmgkidaaGreatDoor
open Go.RowKit

theorem arr_app (x y : List UInt8) : (⟨(x ++ y).toArray⟩ : ByteArray) = ⟨x.toArray⟩ ++ ⟨y.toArray⟩ := ByteArray.ext (by simp)
theorem log_size (ids : List Pid) : (⟨(logL ids).toArray⟩ : ByteArray).size = 5 * ids.length := by
  rw [← logL_len]
  exact List.size_toArray
theorem log_at (ids : List Pid) (k : Nat) (hk : k < ids.length) : (⟨(logL ids).toArray⟩ : ByteArray).extract (5 * k) (5 * k + 4) = idText ids[k] ∧ gb ⟨(logL ids).toArray⟩ (5 * k + 4) = 10 := by
  have hsz := log_size ids
  have e1 : ids = ids.take k ++ (ids[k] :: ids.drop (k + 1)) := by rw [← List.drop_eq_getElem_cons hk, List.take_append_drop]
  have e2 : logL ids = logL (ids.take k) ++ (((idText ids[k]).data.toList ++ [10]) ++ logL (ids.drop (k + 1))) := by
    conv => lhs; rw [e1]
    unfold logL
    rw [List.flatMap_append, List.flatMap_cons]
    rfl
  have hA : (⟨(logL (ids.take k)).toArray⟩ : ByteArray).size = 5 * k := by rw [log_size, List.length_take]; omega
  have hI : (⟨(idText ids[k]).data.toList.toArray⟩ : ByteArray) = idText ids[k] := by simp
  have e3 : (⟨(logL ids).toArray⟩ : ByteArray) = ⟨(logL (ids.take k)).toArray⟩ ++ ((idText ids[k] ++ ⟨#[10]⟩) ++ ⟨(logL (ids.drop (k + 1))).toArray⟩) := by
    rw [e2, arr_app, arr_app, arr_app, hI]
  have h4 := idText_size ids[k]
  have hg : ∀ i, i < 5 → gb (⟨(logL ids).toArray⟩ : ByteArray) (5 * k + i) = gb (idText ids[k] ++ ⟨#[10]⟩) i := fun i hi => by
    rw [e3, ← hA, gb_right, gb_left (by rw [ByteArray.size_append, h4]; show i < 4 + 1; omega)]
  refine ⟨ext_gb (by rw [size_ex _ _ _ (by omega), h4]; omega) fun i hi => ?_, ?_⟩
  · rw [size_ex _ _ _ (by omega)] at hi
    rw [gb_ex _ _ _ _ (by omega) (by omega), hg i (by omega), gb_left (by omega)]
  · rw [hg 4 (by omega)]
    have := gb_right (a := idText ids[k]) (b := ⟨#[10]⟩) 0
    rw [h4] at this
    rw [this]
    rfl
section
variable {w : World} {B rb pb rg cap gb fb n : Nat} {Ps : List PM} {f : ByteArray → Option ByteArray} {s : ByteArray → PL} {G : List Pid}
set_option maxRecDepth 100000 in
set_option maxHeartbeats 3200000 in
theorem run_ids (h : RG w B rb pb rg cap gb fb n Ps f s G) (cmd : ByteArray) (ids : List Pid) (hl : ids.length ≤ 1000)
    (hD : Calls Tryz.prog 17 #[.pointer (some ⟨pb, 0, none⟩), .int .i64 0, .string cmd] w fun e w' => e = .returned (.tuple #[.string ⟨(logL ids).toArray⟩, .int .i64 0]) ∧ Below w.heap.size w w') :
    Calls Tryz.prog 27 #[.pointer (some ⟨rb, 0, none⟩), .int .i64 0, .string cmd] w fun e w' => ∃ v, e = .returned (.tuple #[v, .bool true]) ∧ w'.ownsRow w.heap.size 9 1 v (ids.map idText).length (strs (ids.map idText)) ∧ Below w.heap.size w w' := by
  obtain ⟨i0, hi, hz0, hz1, hz2⟩ := info_parts Tryz.info9
  have HD : Hid (Calls Tryz.prog 17 #[.pointer (some ⟨pb, 0, none⟩), .int .i64 0, .string cmd] w fun e w' => e = .returned (.tuple #[.string ⟨(logL ids).toArray⟩, .int .i64 0]) ∧ Below w.heap.size w w') := hD
  obtain ⟨c0, c1⟩ := h.at_
  obtain ⟨S, hS⟩ : ∃ S : ByteArray, (⟨(logL ids).toArray⟩ : ByteArray) = S := ⟨_, rfl⟩
  have hsz : S.size = 5 * ids.length := by rw [← hS]; exact log_size ids
  have HAT : Hid (∀ k, (hk : k < ids.length) → S.extract (5 * k) (5 * k + 4) = idText ids[k] ∧ Proofs.YtgdfipmdmgkidaaGreatDoor.gb S (5 * k + 4) = 10) := fun k hk => by rw [← hS]; exact log_at ids k hk
  rw [hS] at HD
  have hmod : ((S.size : Int)).tmod 5 = 0 := by rw [hsz, Int.tmod_eq_emod_of_nonneg (by omega)]; omega
  clear h hD hS
  go_enter Tryz.func27, Tryz.ntmps27
  go_wp2_with fail
  refine HD.out.mono ?_
  rintro e w1 ⟨rfl, hb1⟩
  clear HD
  have hs1 := hb1.size
  have HB1 : Hid (Below w.heap.size w w1) := hb1
  clear c0 c1 hb1
  go_wp2_with fail
  go_loopw [10, 11] (fun v i wr => ∃ (k : Nat) (O : List ByteArray), k ≤ ids.length ∧ i = .int .i64 (5 * k : Nat) ∧ Hid (O = (ids.take k).map idText) ∧ Hid (O.length = k) ∧ wr.ownsRow w.heap.size 9 1 v O.length (strs O) ∧ Below w.heap.size w wr) (fun _ i _ => 5 * ids.length - (intOf i).toNat)
  case atStart => exact ⟨0, [], Nat.zero_le _, rfl, rfl, rfl, World.ownsRow_nil _ _ _ _, HB1.out⟩
  case round =>
    obtain ⟨k, O, hk, rfl, HO, HOl, hown, hbw⟩ := hrel
    have hw := hbw.size
    by_cases hlt : k < ids.length
    · obtain ⟨a1, a2⟩ := HAT.out k hlt
      obtain ⟨z, hz⟩ : ∃ z, idText ids[k] = z := ⟨_, rfl⟩
      have HZ : Hid (idText ids[k] = z) := hz
      rw [hz] at a1
      have hge : 5 * k + 4 < S.size := by omega
      have h10 : S[5 * k + 4].toNat = 10 := by rw [gb_eq S _ hge]; exact a2
      have hb2 : (((S[5 * k + 4].toNat : Nat) : Int) != 10) = false := by rw [h10]; rfl
      have q1 : IntKind.i64.wrap (((5 * k : Nat) : Int) + 4) = ((5 * k + 4 : Nat) : Int) := by simp [IntKind.wrap, IntKind.signed, IntKind.bits]; omega
      have q2 : IntKind.i64.wrap (((5 * k : Nat) : Int) + 5) = ((5 * (k + 1) : Nat) : Int) := by simp [IntKind.wrap, IntKind.signed, IntKind.bits]; omega
      have q3 : (((5 * k + 4 : Nat) : Int)) < (S.size : Int) := by omega
      have q4 : (((5 * k : Nat) : Int)) < (S.size : Int) := by omega
      have q5 : (((5 * k + 4 : Nat) : Int)) ≤ (S.size : Int) := by omega
      clear a2 hz
      go_wp2_with (at_builtin; refine wpList_append_own _ rfl _ _ 35 rfl w.heap.size 9 i0 (.string ⟨#[]⟩) 1 16 Tryz.underlying35 hi hz0 hz1 hz2 rfl (by decide) _ _ _ rfl (hown.alloc _) ⟨wr.heap.size, 0, none⟩ 1 1 [.string z] rfl rfl ?c1 ?c2 ?c3 ?c4 ?c5 ?_)
      case c1 => exact new_one _ _ _
      case c2 => exact strs_one [_]
      case c3 => have := HOl.out; unfold maxLen; omega
      case c4 => have := HOl.out; omega
      case c5 => simp; omega
      intro v' w2 hown' hg _
      have R := step_own (Nat.le_refl _) hown hbw hw hown' hg
      clear hown' hg hown hbw
      go_wp2
      go_roundw
      case rel =>
        refine ⟨k + 1, O ++ [z], by omega, by go_num, ?_, by show _ = _; rw [List.length_append, HOl.out]; rfl, R.1, R.2.1⟩
        show _ = _
        rw [List.take_succ_eq_append_getElem hlt, List.map_append, ← HO.out, ← HZ.out]
        rfl
      case measure => simp [intOf]; omega
    · have : k = ids.length := by omega
      subst this
      go_wp2
      go_ret2
      have e := HO.out
      rw [List.take_length] at e
      subst e
      exact ⟨_, rfl, hown, hbw⟩
end
end Go.Proofs.YtgdfipmdmgkidaaGreatDoor
