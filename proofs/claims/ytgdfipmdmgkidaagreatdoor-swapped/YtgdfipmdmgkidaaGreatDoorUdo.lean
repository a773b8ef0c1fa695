/- The calls of the statement's scripts on a world of one repository. -/
import Derived.Test.YtgdfipmdmgkidaaGreatDoorUst
import Derived.Test.YtgdfipmdmgkidaaGreatDoorUshw
import Derived.Test.YtgdfipmdmgkidaaGreatDoorUrecn
namespace Go.Proofs.YtgdfipmdmgkidaaGreatDoor
open Go.RowKit

abbrev kin (t : TypeId) : Prop := t = 9 ∨ t = 53
abbrev kin3 (t : TypeId) : Prop := t = 9 ∨ t = 53 ∨ t = 45
theorem kin3k {w w' : World} (h : HeldT kin3 w w') : HeldT kin w w' := h.mono (fun _ e => e.elim .inl fun e => .inr (.inl e))
theorem kin9 {w w' : World} (h : HeldT kin w w') : HeldT (· = 9) w w' := h.mono (fun _ e => .inl e)
/-- A world of one repository, as the scripts make it. -/
structure UW (w : World) (B pb rg cap gb fb : Nat) (Ps : List PM) (f : ByteArray → Option ByteArray) (s : ByteArray → PL) (G : List Pid) : Prop where
  fs : FS Ps f s
  one : ∃ pv, OneAt w B pb rg cap gb pv Ps fb 3 f G
section
variable {w : World} {B pb rg cap gb fb : Nat} {Ps : List PM} {f : ByteArray → Option ByteArray} {s : ByteArray → PL} {G : List Pid}
theorem UW.lo (h : UW w B pb rg cap gb fb Ps f s G) : B ≤ w.heap.size := by
  obtain ⟨pv, h1⟩ := h.one
  have := h1.lo
  have := h1.lts
  omega
theorem UW.below (h : UW w B pb rg cap gb fb Ps f s G) {w' : World} (hb : Below w.heap.size w w') : UW w' B pb rg cap gb fb Ps f s G := by
  obtain ⟨pv, h1⟩ := h.one
  exact ⟨h.fs, pv, h1.below hb⟩
theorem UW.of {w' : World} {pv : Value} {fn : Nat} (hf : FS Ps f s) (h : OneAt w' B pb rg cap gb pv Ps fb fn f G) : UW w' B pb rg cap gb fb Ps f s G := ⟨hf, pv, h.few (N := names3) (fun _x hx => hf.mem (.inl hx))⟩
theorem UW.text (h : UW w B pb rg cap gb fb Ps f s G) {x : ByteArray} (hx : x ∈ names3) :
    Calls Tryz.prog 50 #[.pointer (some ⟨pb, 0, none⟩), .int .i64 0, .string x] w fun e w' => e = .returned (.tuple #[.string ((f x).getD ⟨#[]⟩), .int .i64 (if (f x).isSome = true then 0 else 5)]) ∧ Below w.heap.size w w' := by
  obtain ⟨pv, h1⟩ := h.one
  obtain ⟨n1, n2⟩ := names3_ok x hx
  exact text50_one h1 x (by omega) n1
theorem UW.kept (h : UW w B pb rg cap gb fb Ps f s G) {x : ByteArray} (hx : x ∈ names3) :
    Calls Tryz.prog 18 #[.pointer (some ⟨pb, 0, none⟩), .int .i64 0, .string x] w fun e w' => e = .returned (.tuple #[.string (if (s x).alive = true then rowText (s x).S else ⟨#[]⟩), .int .i64 (if (s x).alive = true then 0 else 5)]) ∧ Below w.heap.size w w' := by
  obtain ⟨pv, h1⟩ := h.one
  obtain ⟨n1, n2⟩ := names3_ok x hx
  obtain ⟨st, cnt, hS, rfl, _, _, hl, _⟩ := h.fs.rep
  obtain ⟨s1, _, s3, _⟩ := h.fs.sizes x
  exact kept18_one h1 hS (by omega) x (by omega) n1 (by omega) (by omega)
theorem UW.write (h : UW w B pb rg cap gb fb Ps f s G) {x t : ByteArray} (hx : x ∈ names3) (ht : TX t) :
    Calls Tryz.prog 16 #[.pointer (some ⟨pb, 0, none⟩), .int .i64 0, .string x, .string t] w fun e w' => e = .returned (.int .i64 0) ∧ UW w' B pb rg cap gb fb Ps (fun y => if y = x then some t else f y) s G ∧ Below B w w' ∧ HeldT kin3 w w' := by
  obtain ⟨pv, h1⟩ := h.one
  obtain ⟨n1, n2⟩ := names3_ok x hx
  refine (write16_one h1 h.lo x t (by omega) (by omega) n1 ht.ok (.inr (by omega))).mono ?_
  rintro e w' ⟨rfl, h2, h3, h4⟩
  exact ⟨rfl, UW.of (h.fs.put hx ht) h2, h3, h4⟩
theorem UW.erase (h : UW w B pb rg cap gb fb Ps f s G) {x : ByteArray} (hx : x ∈ names3) :
    Calls Tryz.prog 80 #[.pointer (some ⟨pb, 0, none⟩), .int .i64 0, .string x] w fun e w' => ∃ c : Int, e = .returned (.int .i64 c) ∧ (c = 0 ∨ c = 5) ∧ UW w' B pb rg cap gb fb Ps (fun y => if y = x then none else f y) s G ∧ Below B w w' ∧ HeldT kin3 w w' := by
  obtain ⟨pv, h1⟩ := h.one
  obtain ⟨n1, n2⟩ := names3_ok x hx
  refine (erase80_one h1 h.lo x (by omega) n1).mono ?_
  rintro e w' ⟨c, rfl, hc, h2, h3, h4⟩
  exact ⟨c, rfl, hc, UW.of (h.fs.gone x) h2, h3, h4⟩
theorem UW.new (h : UW w B pb rg cap gb fb Ps f s G) :
    Calls Tryz.prog 17 #[.pointer (some ⟨pb, 0, none⟩), .int .i64 0, .string cNew] w fun e w' => ∃ T, e = .returned (.tuple #[.string T, .int .i64 0]) ∧ ToldIs s (chgOf f s (K0 f s)) T ∧ Below w.heap.size w w' := by
  obtain ⟨pv, h1⟩ := h.one
  obtain ⟨st, cnt, hS, hse, _, _, hl, _⟩ := h.fs.rep
  refine (do_new h1 (fun T w' => ToldIs s (chgOf f s (K0 f s)) T ∧ Below w.heap.size w w') (fun u hu => ?_)).mono ?_
  · have hR := h.fs.recs
    rw [← hse] at hR
    refine (new48_any B pb rg cap gb pv Ps fb 3 f G st cnt u (h1.below hu) hS hl (by omega) hR (fun K Cs m hK hM => ?_)).mono ?_
    · rw [hse] at hK hM ⊢
      have e := h.fs.all_eq hK
      subst e
      exact (h.fs.tells h.fs.chg0 hM).1
    · rintro e w' ⟨K, Cs, m, t, rfl, hK, hM, hT, hb⟩
      rw [hse] at hK hM hT
      have e := h.fs.all_eq hK
      subst e
      exact ⟨_, rfl, (h.fs.tells h.fs.chg0 hM).2 t hT, hu.trans (hb.mono hu.size)⟩
  · rintro e w' ⟨T, rfl, h2, h3⟩
    exact ⟨T, rfl, h2, h3⟩
theorem UW.log (h : UW w B pb rg cap gb fb Ps f s G) :
    Calls Tryz.prog 17 #[.pointer (some ⟨pb, 0, none⟩), .int .i64 0, .string wdLog] w fun e w' => e = .returned (.tuple #[.string ⟨(logL (Ps.map (·.id))).toArray⟩, .int .i64 0]) ∧ Below w.heap.size w w' := by
  obtain ⟨pv, h1⟩ := h.one
  have hl := h.fs.good.2
  refine (do12_any h1 wdLog cLog_ok.1 (fun x c w' => (x = ⟨(logL (Ps.map (·.id))).toArray⟩ ∧ c = 0) ∧ Below w.heap.size w w') (fun u va vc hu ho => ?_)).mono ?_
  · rw [cLog_ok.2] at ho ⊢
    obtain ⟨wb, rfl, htb, hcap, hcl⟩ := words_at ho (by simp)
    have h0 := hcl 0 (by simp)
    have hO := h1.below hu
    refine (carry45_log pb rg wb 0 1 vc pv u (fun x w' => x = ⟨(logL (Ps.map (·.id))).toArray⟩ ∧ Below u.heap.size u w') h0 (by omega) hO.r0 ((ids67_any Ps pv u hO.view (by omega)).mono fun e w' ⟨k1, k2⟩ => ⟨_, k1, rfl, k2⟩)).mono ?_
    rintro e w' ⟨x, rfl, rfl, hb⟩
    exact ⟨_, 0, rfl, ⟨rfl, rfl⟩, hu.trans (hb.mono hu.size)⟩
  · rintro e w' ⟨x, c, rfl, ⟨rfl, rfl⟩, hb⟩
    exact ⟨rfl, hb⟩
theorem UW.revert (h : UW w B pb rg cap gb fb Ps f s G) :
    Calls Tryz.prog 17 #[.pointer (some ⟨pb, 0, none⟩), .int .i64 0, .string wdRevert] w fun e w' => e = .returned (.tuple #[.string ⟨#[]⟩, .int .i64 0]) ∧ UW w' B pb rg cap gb fb Ps (keptO s) s G ∧ Below B w w' ∧ HeldT kin w w' := by
  obtain ⟨pv, h1⟩ := h.one
  obtain ⟨st, cnt, hS, hse, _, _, hl, _⟩ := h.fs.rep
  refine (do12_any h1 wdRevert cRevert_ok.1 (fun x c w' => (x = ⟨#[]⟩ ∧ c = 0) ∧ UW w' B pb rg cap gb fb Ps (keptO s) s G ∧ Below B w w' ∧ HeldT kin w w') (fun u va vc hu ho => ?_)).mono ?_
  · rw [cRevert_ok.2] at ho ⊢
    obtain ⟨wb, rfl, htb, hcap, hcl⟩ := words_at ho (by simp)
    have h0 := hcl 0 (by simp)
    have hO := h1.below hu
    refine (carry45_revert pb rg wb 0 1 vc u (fun w' => UW w' B pb rg cap gb fb Ps (keptO s) s G ∧ Below B w w' ∧ HeldT kin w w') h0 (by omega) ?_).mono ?_
    · have hN : ∀ x ∈ names3, x.size ≤ 1000 ∧ (st Ps.length 0 x).S.length ≤ 1000000 ∧ (rowText (st Ps.length 0 x).S).size ≤ 1000000000 := fun x hx => by
        rw [hse]
        have := (names3_ok x hx).2
        obtain ⟨s1, _, s3, _⟩ := h.fs.sizes x
        exact ⟨by omega, by omega, by omega⟩
      refine (revert71_any hO hS (Nat.le_trans h.lo hu.size) (by omega) (by omega) names3 (by decide) (fun x hx => h.fs.mem (.inl hx)) (fun x hx => h.fs.mem (.inr (by rw [← hse]; exact hx))) hN).mono ?_
      rintro e w' ⟨rfl, h2, h3, h4⟩
      rw [hse] at h2
      exact ⟨rfl, UW.of h.fs.revert h2, (hu.mono h.lo).trans h3, (HeldT.of_below hu).trans h4⟩
    · rintro e w' ⟨rfl, h2⟩
      exact ⟨_, 0, rfl, ⟨rfl, rfl⟩, h2⟩
  · rintro e w' ⟨x, c, rfl, ⟨rfl, rfl⟩, hb⟩
    exact ⟨rfl, hb⟩

theorem made_of {s : ByteArray → PL} {i : Pid} {Fs : List Fl} {Cs : List (ByteArray × ChM)} {m : Nat → Int} (hM : MadeAll s i Fs Cs m) : ∀ c ∈ Cs, ∃ g ∈ Fs, c.1 = g.name := fun c hc => by
  obtain ⟨k, hk⟩ := List.mem_iff_getElem?.1 hc
  have hkF : k < Fs.length := by rw [← hM.len]; exact (List.getElem?_eq_some_iff.1 hk).1
  exact ⟨_, List.getElem_mem hkF, (hM.at_ k _ c (List.getElem?_eq_getElem hkF) hk).1⟩
/-- What a record of all makes. -/
structure Recd (w w' : World) (B pb rg cap gb fb : Nat) (Ps : List PM) (f : ByteArray → Option ByteArray) (s : ByteArray → PL) (G : List Pid) (i : Pid) (Fs : List Fl) (T : ByteArray) : Prop where
  told : ToldIs s Fs T
  ne : T ≠ ⟨#[]⟩
  st : ∃ P : PM, P.id = i ∧ ∃ s', UW w' B pb rg cap gb fb (Ps ++ [P]) f s' (G ++ [i]) ∧ (∀ g ∈ Fs, (s' g.name).alive = g.there ∧ (g.there = true → rowText (s' g.name).S = g.text)) ∧ (∀ x, (∀ g ∈ Fs, g.name ≠ x) → s' x = s x) ∧ leaveR (Ps ++ [P]) i = (⟨#[]⟩, 0) ∧ ((Ps ++ [P]).filter fun P => !decide (P.id = i)) = Ps ∧ (ToldAll Ps → ToldAll (Ps ++ [P])) ∧ (∀ c ∈ P.Cs, ∃ g ∈ Fs, c.1 = g.name)
  below : Below B w w'
  held : HeldT kin w w'
theorem UW.record_yes (h : UW w B pb rg cap gb fb Ps f s G) {n : Nat} (h1n : 1 ≤ n) (hn : n ≤ 40) (hG : G.length < 40) (hiG : idN n ∉ G) (hP : Ps.map (·.id) = G) (hne : chgOf f s (K0 f s) ≠ []) :
    Calls Tryz.prog 17 #[.pointer (some ⟨pb, 0, none⟩), .int .i64 0, .string (recHead ++ idW n)] w fun e w' => ∃ T, e = .returned (.tuple #[.string T, .int .i64 0]) ∧ Recd w w' B pb rg cap gb fb Ps f s G (idN n) (chgOf f s (K0 f s)) T := by
  obtain ⟨pv, h1⟩ := h.one
  obtain ⟨st, cnt, hS, hse, _, _, hl, _⟩ := h.fs.rep
  obtain ⟨i1, i2, i3, _⟩ := ids_words n (List.mem_range.2 (by omega))
  have hPl : Ps.length < 40 := by rw [← hP, List.length_map] at hG; exact hG
  refine (do_record h1 (recHead ++ idW n) (uc n 0) (uc n 1) (uc n 2) (uc n 3) ⟨i2, by rw [i3, i1]⟩ 0 (fun T w' => Recd w w' B pb rg cap gb fb Ps f s G (idN n) (chgOf f s (K0 f s)) T) (fun u na nc hu => ?_)).mono (fun e w' ⟨x, k1, k2⟩ => ⟨x, k1, k2⟩)
  have hR := h.fs.recs
  rw [← hse] at hR
  refine (record72_all B pb rg cap gb pv Ps fb 3 f G st cnt (idN n) na nc u (h1.below hu) hS (Nat.le_trans h.lo hu.size) hl (by omega) (idN_ok n) hiG hG hR (fun K hK => ?_) (fun K Cs m hK hM => ?_)).mono ?_
  · rw [hse] at hK ⊢
    have e := h.fs.all_eq hK
    subst e
    exact hne
  · rw [hse] at hK hM ⊢
    have e := h.fs.all_eq hK
    subst e
    exact (h.fs.tells h.fs.chg0 hM).1
  · rintro e w' ⟨K, Cs, m, t, pv', cv, rfl, hK, hM, hT, hO, hb, hh⟩
    rw [hse] at hK hM hT
    have e := h.fs.all_eq hK
    subst e
    have hto := (h.fs.tells h.fs.chg0 hM).2 t hT
    obtain ⟨s', k1, k2, k3, k4, k5⟩ := h.fs.record hPl (by rw [hP]; exact hiG) (ids_zero n (List.mem_range.2 (by omega)) h1n) h.fs.chg0 hM cv
    exact ⟨_, rfl, ⟨hto, hto.ne hne, ⟨_, rfl, s', UW.of k1 hO, k2, k3, k4, k5, fun hTA => h.fs.told_next hTA h.fs.chg0 hM cv, made_of hM⟩, (hu.mono h.lo).trans hb, (HeldT.of_below hu).trans hh⟩, kin9 hh⟩
end
end Go.Proofs.YtgdfipmdmgkidaaGreatDoor

/- The contract of record of one name that is clean; of a record that is refused. -/
namespace Go.Proofs.YtgdfipmdmgkidaaGreatDoor
open Go.RowKit

set_option maxRecDepth 100000 in
set_option maxHeartbeats 12800000 in
theorem record72_nclean (B pb rg cap gb : Nat) (pv : Value) (Ps : List PM) (fb fn : Nat) (f : ByteArray → Option ByteArray) (G : List Pid) (st : Nat → Nat → ByteArray → PL) (cnt : Nat → Nat) (i : Pid) (x : ByteArray) (nb no nc : Nat) (w : World)
    (h : OneAt w B pb rg cap gb pv Ps fb fn f G) (hs : Stands Ps st cnt) (_hB : B ≤ w.heap.size) (hPs : Ps.length ≤ 40) (_hfn : fn ≤ 1000) (hi : IdOK i) (hiG : i ∉ G) (hG : G.length < 40) (hv : w.cell? ⟨nb, no, none⟩ = some (.string x)) (hnb : nb < w.heap.size) (hth : (f x).isSome = true ∨ (st Ps.length 0 x).alive = true) (hok : NameOK f (st Ps.length 0) x)
    (hcl : chgOf f (st Ps.length 0) [x] = []) :
    Calls Tryz.prog 72 #[.pointer (some ⟨pb, 0, none⟩), .pointer (some ⟨rg, 0, none⟩), .agg #[.int .u8 i.a, .int .u8 i.b, .int .u8 i.c, .int .u8 i.d], .slice (some ⟨nb, no, none⟩) 1 nc] w fun e w' =>
      e = .returned (.tuple #[.string ⟨#[]⟩, .int .i64 9]) ∧ Below w.heap.size w w' := by
  obtain ⟨s, hse⟩ : ∃ s, st Ps.length 0 = s := ⟨_, rfl⟩
  obtain ⟨w1, hw1⟩ : ∃ w1, w1 = w.alloc (.cells #[.int .u8 i.a, .int .u8 i.b, .int .u8 i.c, .int .u8 i.d] 113) := ⟨_, rfl⟩
  have hb1 : Below w.heap.size w w1 := by rw [hw1]; exact (Below.refl _ _).alloc (Nat.le_refl _) _
  have hk1 : w1.heap[w.heap.size]? = some (.cells #[.int .u8 i.a, .int .u8 i.b, .int .u8 i.c, .int .u8 i.d] 113 (0, 0)) := by rw [hw1]; exact (MapKept.heap_alloc w _).1
  have hs1 : w.heap.size < w1.heap.size := by rw [hw1]; simp
  have h1 := h.below hb1
  have HK : Hid (Calls Tryz.prog 77 #[.pointer (some ⟨rg, 0, none⟩)] w1 fun e w' => ∃ mb n, e = .returned (.agg #[.map (some mb)]) ∧ TreeAt w' mb s n ∧ n ≤ 100000 ∧ w1.heap.size ≤ mb ∧ Below w1.heap.size w1 w') := by
    have := kept_any hs h1.view (by omega) h1.r0 h1.lts.2.1
    rw [hse] at this
    exact this
  rw [hse] at hok hcl hth
  have HH : Hid (OneAt w1 B pb rg cap gb pv Ps fb fn f G) := h1
  have HK1 : Hid (w1.heap[w.heap.size]? = some (.cells #[.int .u8 i.a, .int .u8 i.b, .int .u8 i.c, .int .u8 i.d] 113 (0, 0))) := hk1
  have HB1 : Hid (Below w.heap.size w w1) := hb1
  have HSE : Hid (st Ps.length 0 = s) := hse
  have HOK : Hid (NameOK f s x) := hok
  have HTH : Hid ((f x).isSome = true ∨ (s x).alive = true) := hth
  have HV1 : Hid (w1.cell? ⟨nb, no, none⟩ = some (.string x)) := (hb1.cell (p := ⟨nb, no, none⟩) hnb).trans hv
  have HCL : Hid (chgOf f s [x] = []) := hcl
  clear h h1 hk1 hb1 hs hse hok hcl hth hv
  go_enter Tryz.func72, Tryz.ntmps72
  go_wp2_with fail
  rw [← hw1]
  clear hw1
  refine HK.out.mono ?_
  rintro e w2 ⟨mb, n, rfl, hT2, hn, hmb, hb2⟩
  clear HK
  obtain ⟨w3, hw3⟩ : ∃ w3, w3 = w2.alloc (.cells #[.map (some mb)] 121) := ⟨_, rfl⟩
  have hb23 : Below w2.heap.size w2 w3 := by rw [hw3]; exact (Below.refl _ _).alloc (Nat.le_refl _) _
  have hb13 : Below w1.heap.size w1 w3 := hb2.trans (hb23.mono hb2.size)
  have hk3 : w3.heap[w2.heap.size]? = some (.cells #[.map (some mb)] 121 (0, 0)) := by rw [hw3]; exact (MapKept.heap_alloc w2 _).1
  have hs3 : w2.heap.size < w3.heap.size := by rw [hw3]; simp
  have h3 := HH.out.below hb13
  have hgb1 : gb < w1.heap.size := HH.out.given.lt
  have hrg1 : rg < w1.heap.size := HH.out.lts.2.1
  have hpb1 : pb < w1.heap.size := HH.out.lts.1
  have hT3 := hT2.below hb23 (Nat.le_refl _)
  have HM : Hid (Calls Tryz.prog 125 #[.pointer (some ⟨pb, 0, none⟩), .pointer (some ⟨rg, 0, none⟩), .agg #[.map (some mb)], .agg #[.int .u8 i.a, .int .u8 i.b, .int .u8 i.c, .int .u8 i.d], .slice (some ⟨nb, no, none⟩) 1 nc] w3 fun e w' => e = .returned (.int .i64 0) ∧ Below w3.heap.size w3 w') := by
    have hvw : View w3 (some ⟨nb, no, none⟩) [x] := .inr ⟨nb, no, rfl, by have := hb13.size; omega, fun k hk => by
      have : k = 0 := by simp at hk; omega
      subst this
      exact (hb13.cell (p := ⟨nb, no, none⟩) (by show nb < w1.heap.size; omega)).trans HV1.out⟩
    refine (may97_any G gb pb f fb fn rg 0 s mb n i (some ⟨nb, no, none⟩) 1 nc [x] w3 h3.given hi h3.c1 h3.lts.1 h3.files h3.r1 h3.lts.2.1 hT3 hn hvw rfl (by simp) (fun z hz => by
      rw [List.mem_singleton] at hz
      subst hz
      obtain ⟨g1, g2, g3, _⟩ := HOK.out
      exact ⟨g1, by omega, g3⟩)).mono ?_
    rintro e w' ⟨c, rfl, hR, hb⟩
    rcases hR with ⟨hh, _⟩ | ⟨_, hh, _⟩ | ⟨_, _, ⟨z, hz, hz1, hz2⟩, _⟩ | ⟨_, _, _, rfl⟩
    · exact absurd hh hiG
    · omega
    · rw [List.mem_singleton] at hz
      subst hz
      rcases HTH.out with hh | hh
      · rw [hz1] at hh; cases hh
      · rw [hz2] at hh; cases hh
    · exact ⟨rfl, hb⟩
  have m0 : w3.cell? ⟨w2.heap.size, 0, none⟩ = some (.map (some mb)) := by simp [World.cell?, hk3]
  obtain ⟨q0, q1, q2, q3⟩ := cells4_at ((hb2.block _ hs1).trans HK1.out)
  have hs12 := hb2.size
  obtain ⟨qa0, qa1, qa2, qa3⟩ := cells4_at ((hb13.block _ hs1).trans HK1.out)
  rw [hw3] at qa0 qa1 qa2 qa3
  clear q0 q1 q2 q3
  have HK3 : Hid (w3.heap[w2.heap.size]? = some (.cells #[.map (some mb)] 121 (0, 0))) := hk3
  have HT3 : Hid (TreeAt w3 mb s n) := hT3
  have HH3 : Hid (OneAt w3 B pb rg cap gb pv Ps fb fn f G) := h3
  have HB13 : Hid (Below w1.heap.size w1 w3) := hb13
  have hs13 := hb13.size
  clear hT2 hT3 h3 hk3 hb23 hb2 hb13 HH
  go_wp2_with fail
  rw [← hw3]
  clear hw3
  refine HM.out.mono ?_
  rintro e w4 ⟨rfl, hb4⟩
  clear HM
  have hk4 := (hb4.block _ hs3).trans HK3.out
  have m4 : w4.cell? ⟨w2.heap.size, 0, none⟩ = some (.map (some mb)) := by simp [World.cell?, hk4]
  have hs4 := hb4.size
  have HH4 : Hid (OneAt w4 B pb rg cap gb pv Ps fb fn f G) := HH3.out.below hb4
  have HT4 : Hid (TreeAt w4 mb s n) := HT3.out.below hb4 (Nat.le_refl _)
  clear qa0 qa1 qa2 qa3 m0
  have HC : Hid (Calls Tryz.prog 111 #[.pointer (some ⟨rg, 0, none⟩), .agg #[.map (some mb)], .slice (some ⟨nb, no, none⟩) 1 nc] w4 fun e w' => ∃ xa xc, e = .returned (.slice xa (chgOf f s [x]).length xc) ∧ FV w' (.slice xa (chgOf f s [x]).length xc) (chgOf f s [x]) ∧ Below w4.heap.size w4 w') := by
    have hb14 : Below w1.heap.size w1 w4 := HB13.out.trans (hb4.mono hs13)
    refine HH4.out.changed1 HT4.out hn HOK.out ((hb14.cell (p := ⟨nb, no, none⟩) (by show nb < w1.heap.size; omega)).trans HV1.out) (by have := hb14.size; omega)
  go_wp2_with fail
  refine HC.out.mono ?_
  rintro e w6 ⟨xa, xc, rfl, hF6, hb6⟩
  clear HC
  have hz6 := HCL.out
  have hz7 : (chgOf f s [x]).length = 0 := by rw [hz6]; rfl
  rw [hz7]
  have HB36 : Hid (Below w3.heap.size w3 w6) := hb4.trans (hb6.mono hs4)
  have HBZ : Hid (Below w.heap.size w w6) := HB1.out.trans ((HB13.out.mono (by omega)).trans (HB36.out.mono (by omega)))
  clear hF6 hz6 hz7 HB36
  go_wp2
  go_ret2
  exact ⟨rfl, HBZ.out⟩

end Go.Proofs.YtgdfipmdmgkidaaGreatDoor

/- Record and unrecord on a world of one repository. -/
namespace Go.Proofs.YtgdfipmdmgkidaaGreatDoor
open Go.RowKit

theorem do_record3 {w : World} {B pb rg cap gb : Nat} {pv : Value} {Ps : List PM} {fb fn : Nat} {f : ByteArray → Option ByteArray} {G : List Pid} (h : OneAt w B pb rg cap gb pv Ps fb fn f G) (s : ByteArray) (a b c d : UInt8) (x : ByteArray) (hs : wordsOk s = true ∧ splitAll s = [wdRecord, ⟨#[a, b, c, d]⟩, x]) (cd : Int) (Q : ByteArray → World → Prop)
    (hR : ∀ u nb no nc, Below w.heap.size w u → u.cell? ⟨nb, no, none⟩ = some (.string x) → nb < u.heap.size → Calls Tryz.prog 72 #[.pointer (some ⟨pb, 0, none⟩), .pointer (some ⟨rg, 0, none⟩), .agg #[.int .u8 a.toNat, .int .u8 b.toNat, .int .u8 c.toNat, .int .u8 d.toNat], .slice (some ⟨nb, no, none⟩) 1 nc] u fun e w' => ∃ x, e = .returned (.tuple #[.string x, .int .i64 cd]) ∧ Q x w' ∧ HeldT (· = 9) u w') :
    Calls Tryz.prog 17 #[.pointer (some ⟨pb, 0, none⟩), .int .i64 0, .string s] w fun e w' => ∃ x, e = .returned (.tuple #[.string x, .int .i64 cd]) ∧ Q x w' := by
  refine (do12_any h s hs.1 (fun x c w' => c = cd ∧ Q x w') (fun u va vc hu ho => ?_)).mono ?_
  · rw [hs.2] at ho ⊢
    obtain ⟨wb, rfl, htb, hcap, hcl⟩ := words_at ho (by simp)
    have h0 := hcl 0 (by simp)
    have h1 := hcl 1 (by simp)
    have h2 := hcl 2 (by simp)
    refine (carry45_record3 pb rg wb 0 vc a b c d u cd Q h0 h1 htb hcap (fun u' hu' => hR u' wb 2 (vc - 2) (hu.trans (hu'.mono hu.size)) ((hu'.cell (p := ⟨wb, 2, none⟩) htb.lt).trans h2) (by have := htb.lt; have := hu'.size; omega))).mono ?_
    rintro e w' ⟨x, rfl, hq⟩
    exact ⟨x, cd, rfl, rfl, hq⟩
  · rintro e w' ⟨x, c, rfl, rfl, hq⟩
    exact ⟨x, rfl, hq⟩
section
variable {w : World} {B pb rg cap gb fb : Nat} {Ps : List PM} {f : ByteArray → Option ByteArray} {s : ByteArray → PL} {G : List Pid}
theorem UW.record_clean (h : UW w B pb rg cap gb fb Ps f s G) {n : Nat} (hn : n ≤ 41) (hG : G.length < 40) (hiG : idN n ∉ G) (hne : chgOf f s (K0 f s) = []) :
    Calls Tryz.prog 17 #[.pointer (some ⟨pb, 0, none⟩), .int .i64 0, .string (recHead ++ idW n)] w fun e w' => ∃ T, e = .returned (.tuple #[.string T, .int .i64 9]) ∧ T = ⟨#[]⟩ ∧ Below w.heap.size w w' := by
  obtain ⟨pv, h1⟩ := h.one
  obtain ⟨st, cnt, hS, hse, _, _, hl, _⟩ := h.fs.rep
  obtain ⟨i1, i2, i3, _⟩ := ids_words n (List.mem_range.2 (by omega))
  refine (do_record h1 (recHead ++ idW n) (uc n 0) (uc n 1) (uc n 2) (uc n 3) ⟨i2, by rw [i3, i1]⟩ 9 (fun T w' => T = ⟨#[]⟩ ∧ Below w.heap.size w w') (fun u na nc hu => ?_)).mono (fun e w' ⟨x, k1, k2⟩ => ⟨x, k1, k2⟩)
  have hR := h.fs.recs
  rw [← hse] at hR
  refine (record53_clean B pb rg cap gb pv Ps fb 3 f G st cnt (idN n) na nc u (h1.below hu) hS (Nat.le_trans h.lo hu.size) hl (by omega) (idN_ok n) hiG hG hR (fun K hK => ?_)).mono ?_
  · rw [hse] at hK ⊢
    have e := h.fs.all_eq hK
    subst e
    exact hne
  · rintro e w' ⟨rfl, hb⟩
    exact ⟨_, rfl, ⟨rfl, hu.trans (hb.mono hu.size)⟩, HeldT.of_below hb⟩
theorem UW.record_full (h : UW w B pb rg cap gb fb Ps f s G) {n : Nat} (hn : n ≤ 41) (hG : 40 ≤ G.length) (hiG : idN n ∉ G) :
    Calls Tryz.prog 17 #[.pointer (some ⟨pb, 0, none⟩), .int .i64 0, .string (recHead ++ idW n)] w fun e w' => ∃ T, e = .returned (.tuple #[.string T, .int .i64 4]) ∧ T = ⟨#[]⟩ ∧ Below w.heap.size w w' := by
  obtain ⟨pv, h1⟩ := h.one
  obtain ⟨st, cnt, hS, hse, _, _, hl, _⟩ := h.fs.rep
  obtain ⟨i1, i2, i3, _⟩ := ids_words n (List.mem_range.2 (by omega))
  refine (do_record h1 (recHead ++ idW n) (uc n 0) (uc n 1) (uc n 2) (uc n 3) ⟨i2, by rw [i3, i1]⟩ 4 (fun T w' => T = ⟨#[]⟩ ∧ Below w.heap.size w w') (fun u na nc hu => ?_)).mono (fun e w' ⟨x, k1, k2⟩ => ⟨x, k1, k2⟩)
  have hc : ∀ c, MayR G f (st Ps.length 0) (idN n) [] c → c = 4 := fun c hc => by
    rcases hc with ⟨hh, _⟩ | ⟨_, _, rfl⟩ | ⟨_, hh, _⟩ | ⟨_, hh, _⟩
    · exact absurd hh hiG
    · rfl
    · omega
    · omega
  refine (record72_no B pb rg cap gb pv Ps fb 3 f G st cnt (idN n) na 0 nc [] u (h1.below hu) hS (Nat.le_trans h.lo hu.size) hl (by omega) (idN_ok n) (.inl rfl) rfl (by simp) (by simp) (fun c h2 => by rw [hc c h2]; decide)).mono ?_
  rintro e w' ⟨c, rfl, hm, hb⟩
  rw [hc c hm]
  exact ⟨_, rfl, ⟨rfl, hu.trans (hb.mono hu.size)⟩, HeldT.of_below hb⟩

/-- What a record answers. -/
def RecA (w w' : World) (B pb rg cap gb fb : Nat) (Ps : List PM) (f : ByteArray → Option ByteArray) (s : ByteArray → PL) (G : List Pid) (n : Nat) (Fs : List Fl) (one : Bool) (T : ByteArray) (c : Int) : Prop :=
  (c = 0 ∧ n ≤ 40 ∧ Recd w w' B pb rg cap gb fb Ps f s G (idN n) Fs T) ∨ (T = ⟨#[]⟩ ∧ Below w.heap.size w w' ∧ ((c = 9 ∧ Fs = []) ∨ (c = 4 ∧ n = 41) ∨ (c = 5 ∧ one = true)))
theorem UW.record0 (h : UW w B pb rg cap gb fb Ps f s G) {n : Nat} (h1n : 1 ≤ n) (hn : n ≤ 41) (hG : G = idsTo n) (hP : Ps.map (·.id) = G) :
    Calls Tryz.prog 17 #[.pointer (some ⟨pb, 0, none⟩), .int .i64 0, .string (recHead ++ idW n)] w fun e w' => ∃ T c, e = .returned (.tuple #[.string T, .int .i64 c]) ∧ RecA w w' B pb rg cap gb fb Ps f s G n (chgOf f s (K0 f s)) false T c := by
  have hiG : idN n ∉ G := by rw [hG]; exact idsTo_fresh h1n hn
  have hl : G.length = n - 1 := by rw [hG, idsTo_len]
  by_cases h4 : n = 41
  · refine (h.record_full hn (by omega) hiG).mono ?_
    rintro e w' ⟨T, rfl, h2, h3⟩
    exact ⟨T, 4, rfl, .inr ⟨h2, h3, .inr (.inl ⟨rfl, h4⟩)⟩⟩
  · by_cases hne : chgOf f s (K0 f s) = []
    · refine (h.record_clean hn (by omega) hiG hne).mono ?_
      rintro e w' ⟨T, rfl, h2, h3⟩
      exact ⟨T, 9, rfl, .inr ⟨h2, h3, .inl ⟨rfl, hne⟩⟩⟩
    · refine (h.record_yes h1n (by omega) (by omega) hiG hP hne).mono ?_
      rintro e w' ⟨T, rfl, h2⟩
      exact ⟨T, 0, rfl, .inl ⟨rfl, by omega, h2⟩⟩

theorem UW.record1 (h : UW w B pb rg cap gb fb Ps f s G) {n : Nat} (h1n : 1 ≤ n) (hn : n ≤ 41) (hG : G = idsTo n) (hP : Ps.map (·.id) = G) {x : ByteArray} (hx : x ∈ names3) :
    Calls Tryz.prog 17 #[.pointer (some ⟨pb, 0, none⟩), .int .i64 0, .string (recHead ++ idW n ++ (spB ++ x))] w fun e w' => ∃ T c, e = .returned (.tuple #[.string T, .int .i64 c]) ∧ RecA w w' B pb rg cap gb fb Ps f s G n (chgOf f s [x]) true T c := by
  obtain ⟨pv, h1⟩ := h.one
  obtain ⟨st, cnt, hS, hse, _, _, hl, _⟩ := h.fs.rep
  have hiG : idN n ∉ G := by rw [hG]; exact idsTo_fresh h1n hn
  have hGl : G.length = n - 1 := by rw [hG, idsTo_len]
  have hPl : Ps.length = n - 1 := by rw [← hGl, ← hP, List.length_map]
  obtain ⟨i1, _⟩ := ids_words n (List.mem_range.2 (by omega))
  obtain ⟨j2, j3⟩ := ids_words3 n (List.mem_range.2 (by omega)) x hx
  have hw3 : wordsOk (recHead ++ idW n ++ (spB ++ x)) = true ∧ splitAll (recHead ++ idW n ++ (spB ++ x)) = [wdRecord, ⟨#[uc n 0, uc n 1, uc n 2, uc n 3]⟩, x] := ⟨j2, by rw [j3, i1]⟩
  have hvw : ∀ (u : World) (nb no : Nat), u.cell? ⟨nb, no, none⟩ = some (.string x) → nb < u.heap.size → View u (some ⟨nb, no, none⟩) [x] := fun u nb no hc hlt => .inr ⟨nb, no, rfl, hlt, fun k hk => by
    have : k = 0 := by simp at hk; omega
    subst this
    exact hc⟩
  have hsz : ∀ z ∈ [x], z.size ≤ 1000 ∧ (st Ps.length 0 z).S.length ≤ 1000000 ∧ (rowText (st Ps.length 0 z).S).size ≤ 1000000000 := fun z hz => by
    rw [List.mem_singleton] at hz
    subst hz
    rw [hse]
    have := (names3_ok z hx).2
    obtain ⟨s1, _, s3, _⟩ := h.fs.sizes z
    exact ⟨by omega, by omega, by omega⟩
  by_cases h4 : n = 41
  · have hc : ∀ c, MayR G f (st Ps.length 0) (idN n) [x] c → c = 4 := fun c hc => by
      rcases hc with ⟨hh, _⟩ | ⟨_, _, rfl⟩ | ⟨_, hh, _⟩ | ⟨_, hh, _⟩
      · exact absurd hh hiG
      · rfl
      · omega
      · omega
    refine (do_record3 h1 _ _ _ _ _ x hw3 4 (fun T w' => T = ⟨#[]⟩ ∧ Below w.heap.size w w') (fun u nb no nc hu hcu hlt => ?_)).mono ?_
    · refine (record72_no B pb rg cap gb pv Ps fb 3 f G st cnt (idN n) (some ⟨nb, no, none⟩) 1 nc [x] u (h1.below hu) hS (Nat.le_trans h.lo hu.size) hl (by omega) (idN_ok n) (hvw u nb no hcu hlt) rfl (by simp) hsz (fun c h2 => by rw [hc c h2]; decide)).mono ?_
      rintro e w' ⟨c, rfl, hm, hb⟩
      rw [hc c hm]
      exact ⟨_, rfl, ⟨rfl, hu.trans (hb.mono hu.size)⟩, HeldT.of_below hb⟩
    · rintro e w' ⟨T, rfl, h2, h3⟩
      exact ⟨T, 4, rfl, .inr ⟨h2, h3, .inr (.inl ⟨rfl, h4⟩)⟩⟩
  · by_cases hth : (f x).isSome = true ∨ (s x).alive = true
    · have hok := h.fs.name hx
      rw [← hse] at hok
      have hth' := hth
      rw [← hse] at hth'
      by_cases hne : chgOf f s [x] = []
      · refine (do_record3 h1 _ _ _ _ _ x hw3 9 (fun T w' => T = ⟨#[]⟩ ∧ Below w.heap.size w w') (fun u nb no nc hu hcu hlt => ?_)).mono ?_
        · refine (record72_nclean B pb rg cap gb pv Ps fb 3 f G st cnt (idN n) x nb no nc u (h1.below hu) hS (Nat.le_trans h.lo hu.size) hl (by omega) (idN_ok n) hiG (by omega) hcu hlt hth' hok (by rw [hse]; exact hne)).mono ?_
          rintro e w' ⟨rfl, hb⟩
          exact ⟨_, rfl, ⟨rfl, hu.trans (hb.mono hu.size)⟩, HeldT.of_below hb⟩
        · rintro e w' ⟨T, rfl, h2, h3⟩
          exact ⟨T, 9, rfl, .inr ⟨h2, h3, .inl ⟨rfl, hne⟩⟩⟩
      · have hF := h.fs.chg1 hth
        refine (do_record3 h1 _ _ _ _ _ x hw3 0 (fun T w' => Recd w w' B pb rg cap gb fb Ps f s G (idN n) (chgOf f s [x]) T) (fun u nb no nc hu hcu hlt => ?_)).mono ?_
        · refine (record72_name B pb rg cap gb pv Ps fb 3 f G st cnt (idN n) x nb no nc u (h1.below hu) hS (Nat.le_trans h.lo hu.size) hl (by omega) (idN_ok n) hiG (by omega) hcu hlt hth' hok (by rw [hse]; exact hne) (fun Cs m hM => ?_)).mono ?_
          · rw [hse] at hM ⊢
            exact (h.fs.tells hF hM).1
          · rintro e w' ⟨Cs, m, t, pv', cv, rfl, hM, hT, hO, hb, hh⟩
            rw [hse] at hM hT
            have hto := (h.fs.tells hF hM).2 t hT
            obtain ⟨s', k1, k2, k3, k4, k5⟩ := h.fs.record (by omega) (by rw [hP]; exact hiG) (ids_zero n (List.mem_range.2 (by omega)) h1n) hF hM cv
            exact ⟨_, rfl, ⟨hto, hto.ne hne, ⟨_, rfl, s', UW.of k1 hO, k2, k3, k4, k5, fun hTA => h.fs.told_next hTA hF hM cv, made_of hM⟩, (hu.mono h.lo).trans hb, (HeldT.of_below hu).trans hh⟩, kin9 hh⟩
        · rintro e w' ⟨T, rfl, h2⟩
          exact ⟨T, 0, rfl, .inl ⟨rfl, by omega, h2⟩⟩
    · have hc : ∀ c, MayR G f (st Ps.length 0) (idN n) [x] c → c = 5 := fun c hc => by
        rw [hse] at hc
        rcases hc with ⟨hh, _⟩ | ⟨_, hh, _⟩ | ⟨_, _, _, rfl⟩ | ⟨_, _, hh, _⟩
        · exact absurd hh hiG
        · omega
        · rfl
        · exact absurd (hh x (List.mem_singleton.2 rfl)) hth
      refine (do_record3 h1 _ _ _ _ _ x hw3 5 (fun T w' => T = ⟨#[]⟩ ∧ Below w.heap.size w w') (fun u nb no nc hu hcu hlt => ?_)).mono ?_
      · refine (record72_no B pb rg cap gb pv Ps fb 3 f G st cnt (idN n) (some ⟨nb, no, none⟩) 1 nc [x] u (h1.below hu) hS (Nat.le_trans h.lo hu.size) hl (by omega) (idN_ok n) (hvw u nb no hcu hlt) rfl (by simp) hsz (fun c h2 => by rw [hc c h2]; decide)).mono ?_
        rintro e w' ⟨c, rfl, hm, hb⟩
        rw [hc c hm]
        exact ⟨_, rfl, ⟨rfl, hu.trans (hb.mono hu.size)⟩, HeldT.of_below hb⟩
      · rintro e w' ⟨T, rfl, h2, h3⟩
        exact ⟨T, 5, rfl, .inr ⟨h2, h3, .inr (.inr ⟨rfl, rfl⟩)⟩⟩

end
end Go.Proofs.YtgdfipmdmgkidaaGreatDoor

/- swap on a world of one repository. -/
namespace Go.Proofs.YtgdfipmdmgkidaaGreatDoor
open Go.RowKit

section
variable {w : World} {B pb rg cap gb fb : Nat} {Ps : List PM} {f : ByteArray → Option ByteArray} {s : ByteArray → PL} {G : List Pid}
/-- What swap answers. -/
def SwapA (w w' : World) (B pb rg cap gb fb : Nat) (A C : List PM) (P Q : PM) (f : ByteArray → Option ByteArray) (s : ByteArray → PL) (G : List Pid) (x : ByteArray) (c : Int) : Prop :=
  (NeedsP Q P ∧ x = idText P.id ∧ c = 11 ∧ Below w.heap.size w w') ∨ (¬ NeedsP Q P ∧ x = ⟨#[]⟩ ∧ c = 0 ∧ UW w' B pb rg cap gb fb (A ++ Q :: P :: C) f s G ∧ Below B w w' ∧ HeldT kin w w')
theorem UW.swap (h : UW w B pb rg cap gb fb Ps f s G) {A C : List PM} {P Q : PM} (hPs : Ps = A ++ P :: Q :: C) {m : Nat} (hm : m ≤ 41) (hQ : Q.id = idN m) :
    Calls Tryz.prog 17 #[.pointer (some ⟨pb, 0, none⟩), .int .i64 0, .string (swpHead ++ idW m)] w fun e w' => ∃ x c, e = .returned (.tuple #[.string x, .int .i64 c]) ∧ SwapA w w' B pb rg cap gb fb A C P Q f s G x c := by
  obtain ⟨pv, h1⟩ := h.one
  obtain ⟨i1, _⟩ := ids_words m (List.mem_range.2 (by omega))
  obtain ⟨i2, i3, _⟩ := ids_swap m (List.mem_range.2 (by omega))
  have hg := h.fs.good
  refine do12_any h1 (swpHead ++ idW m) i2 (fun x c w' => SwapA w w' B pb rg cap gb fb A C P Q f s G x c) (fun u va vc hu ho => ?_)
  rw [i3, i1] at ho ⊢
  obtain ⟨wb, rfl, htb, hcap, hcl⟩ := words_at ho (by simp)
  have h0 := hcl 0 (by simp)
  have h2 := hcl 1 (by simp)
  refine (carry45_swap pb rg wb 0 vc (uc m 0) (uc m 1) (uc m 2) (uc m 3) u (fun x c w' => SwapA w w' B pb rg cap gb fb A C P Q f s G x c) h0 h2 (fun v hv => ?_)).mono (fun e w' k => k)
  have hbv := hu.trans (hv.mono hu.size)
  have hc := (h1.below hbv).swap (Nat.le_trans h.lo hbv.size) hPs h.fs.ids (by omega) hg.1.small
  rw [hQ] at hc
  refine hc.mono ?_
  rintro e w' (⟨k1, rfl, k2⟩ | ⟨k1, rfl, k2, k3, k4⟩)
  · exact ⟨_, _, rfl, .inl ⟨(needs_iff Q P).1 k1, rfl, rfl, hbv.trans (k2.mono hbv.size)⟩⟩
  · have hnn : ¬ NeedsP Q P := fun hN => by
      rw [(needs_iff Q P).2 hN] at k1
      cases k1
    have hF := h.fs
    rw [hPs] at hF
    exact ⟨_, _, rfl, .inr ⟨hnn, rfl, rfl, UW.of (hF.swap hnn) k2, (hbv.mono h.lo).trans k3, (HeldT.of_below hbv).trans (kin3k k4)⟩⟩
end
end Go.Proofs.YtgdfipmdmgkidaaGreatDoor

/- Mathematics: the two first patches of a script; what is told of the three names. -/
namespace Go.Proofs.YtgdfipmdmgkidaaGreatDoor
open Go.RowKit

def tx1 : ByteArray := ⟨#[120, 10, 121, 10, 122, 10]⟩
def tx2 : ByteArray := ⟨#[120, 10, 121]⟩
theorem tx1_ok : TX tx1 := by
  have e : tx1 = catB [⟨#[120, 10]⟩, ⟨#[121, 10]⟩, ⟨#[122, 10]⟩] := by decide +kernel
  rw [e]
  refine TX.cat (fun l hl => ?_) (by simp) (by decide +kernel)
  simp only [List.mem_cons, List.not_mem_nil, or_false] at hl
  unfold eightLines
  rcases hl with rfl | rfl | rfl <;> simp
theorem tx2_ok : TX tx2 := by
  have e : tx2 = joinedB [⟨#[120, 10]⟩, ⟨#[121, 10]⟩] true := by decide +kernel
  rw [e]
  refine TX.joined (fun l hl => ?_) (by simp) (by decide +kernel)
  simp only [List.mem_cons, List.not_mem_nil, or_false] at hl
  unfold eightLines
  rcases hl with rfl | rfl <;> simp
def told1a : ByteArray := ⟨#[97, 100, 100, 32, 97, 10, 43, 120, 10, 43, 121, 10, 43, 122, 10]⟩
def told2b : ByteArray := ⟨#[97, 100, 100, 32, 98, 10, 43, 120, 10, 43, 121, 36, 10]⟩
theorem tell_add {p : PL} {text name T : ByteArray} (h : TellOf p true text name T) (hp : p.alive = false) : T = addHead name ++ ⟨(tellL ⟨#[43]⟩ (cutAll text)).toArray⟩ := by
  rcases h with ⟨_, e⟩ | ⟨a, _⟩ | ⟨a, _⟩
  · exact e
  · rw [hp] at a; cases a
  · rw [hp] at a; cases a
theorem told1_eq : addHead nmA ++ ⟨(tellL ⟨#[43]⟩ (cutAll tx1)).toArray⟩ = told1a := by decide +kernel
theorem told2_eq : addHead nmB ++ ⟨(tellL ⟨#[43]⟩ (cutAll tx2)).toArray⟩ = told2b := by decide +kernel
theorem chg_pick (f : ByteArray → Option ByteArray) (s : ByteArray → PL) : chgOf f s (K0 f s) = (names3.filter fun y => differs f s y && ((f y).isSome || (s y).alive)).map (flOf f) := by
  unfold chgOf K0
  rw [List.filter_filter]
theorem diff_no {f : ByteArray → Option ByteArray} {s : ByteArray → PL} {x : ByteArray} (h : f x = keptO s x) : differs f s x = false := by
  unfold differs flOf keptFl
  rw [h]
  unfold keptO
  by_cases ha : (s x).alive = true
  · simp [ha]
  · simp [ha]
theorem diff_yes {f : ByteArray → Option ByteArray} {s : ByteArray → PL} {x : ByteArray} (h : (f x).isSome = true) (hs : (s x).alive = false) : differs f s x = true := by
  unfold differs flOf keptFl
  simp [h, hs]
theorem nmAB : nmB ≠ nmA := by decide
theorem nmAG : nmG ≠ nmA := by decide
theorem nmBG : nmG ≠ nmB := by decide
/-- Of the three names but one is changed. -/
theorem chg_only (f : ByteArray → Option ByteArray) (s : ByteArray → PL) {x : ByteArray} (hx : x ∈ names3) (h1 : (f x).isSome = true) (h2 : (s x).alive = false) (h3 : ∀ y ∈ names3, y ≠ x → f y = keptO s y) : chgOf f s (K0 f s) = [flOf f x] := by
  have hy := diff_yes h1 h2
  have hn : ∀ y ∈ names3, y ≠ x → differs f s y = false := fun y m e => diff_no (h3 y m e)
  rw [chg_pick]
  unfold names3 at hx hn ⊢
  simp only [List.mem_cons, List.not_mem_nil, or_false] at hx
  rcases hx with rfl | rfl | rfl
  · have a := hn nmB (by simp) nmAB
    have b := hn nmG (by simp) nmAG
    simp [List.filter, hy, h1, a, b]
  · have a := hn nmA (by simp) nmAB.symm
    have b := hn nmG (by simp) nmBG
    simp [List.filter, hy, h1, a, b]
  · have a := hn nmA (by simp) nmAG.symm
    have b := hn nmB (by simp) nmBG.symm
    simp [List.filter, hy, h1, a, b]

/-- What the three names are told to be. -/
def dash : ByteArray := ⟨#[45]⟩
def keptL (s : ByteArray → PL) (x : ByteArray) : ByteArray := if (s x).alive = true then rowText (s x).S else dash
def fileL (f : ByteArray → Option ByteArray) (x : ByteArray) : ByteArray := if (f x).isSome = true then (f x).getD ⟨#[]⟩ else dash
end Go.Proofs.YtgdfipmdmgkidaaGreatDoor
