/- The steps of a script, as they lie; what a step leaves. -/
import Derived.Test.YtgdfipmdmgkidaaGreatDoorUkf
import Derived.Deep.DeepCutAuto
namespace Go.Proofs.YtgdfipmdmgkidaaGreatDoor
open Go.RowKit
structure Ed where
  kd : Int
  a : Int
  b : Int
  c : Int
abbrev edV (e : Ed) : Value := .agg #[.int .i64 e.kd, .int .i64 e.a, .int .i64 e.b, .int .i64 e.c]
abbrev i64R (x : Int) : Prop := -9223372036854775808 ≤ x ∧ x ≤ 9223372036854775807
def EdOK (e : Ed) : Prop := i64R e.kd ∧ i64R e.a ∧ i64R e.b ∧ i64R e.c
def EdsAt (W : World) (B : Nat) (so : Option Addr) (L : List Ed) : Prop :=
  L = [] ∨ ∃ b o, so = some ⟨b, o, none⟩ ∧ b < B ∧ b < W.heap.size ∧ ∀ (i : Nat) (p : Ed), L[i]? = some p → W.cell? ⟨b, o + i * 4, none⟩ = some (.int .i64 p.kd) ∧ W.cell? ⟨b, o + i * 4 + 1, none⟩ = some (.int .i64 p.a) ∧ W.cell? ⟨b, o + i * 4 + 2, none⟩ = some (.int .i64 p.b) ∧ W.cell? ⟨b, o + i * 4 + 3, none⟩ = some (.int .i64 p.c)
theorem EdsAt.below {W W' : World} {B : Nat} {so : Option Addr} {L : List Ed} (h : EdsAt W B so L) (hb : Below B W W') : EdsAt W' B so L := by
  rcases h with h | ⟨b, o, rfl, h1, h2, h3⟩
  · exact .inl h
  · refine .inr ⟨b, o, rfl, h1, Nat.lt_of_lt_of_le h2 hb.size, fun i p hp => ?_⟩
    obtain ⟨k0, k1, k2, k3⟩ := h3 i p hp
    have e := hb.block b h1
    exact ⟨(cell_same e _).trans k0, (cell_same e _).trans k1, (cell_same e _).trans k2, (cell_same e _).trans k3⟩
theorem cells4_of {w : World} {b : Nat} {t : TypeId} {x0 x1 x2 x3 : Value} {fz : Nat × Nat} (h : w.heap[b]? = some (.cells #[x0, x1, x2, x3] t fz)) : w.cell? ⟨b, 0, none⟩ = some x0 ∧ w.cell? ⟨b, 1, none⟩ = some x1 ∧ w.cell? ⟨b, 2, none⟩ = some x2 ∧ w.cell? ⟨b, 3, none⟩ = some x3 := by
  refine ⟨?_, ?_, ?_, ?_⟩ <;> simp [World.cell?, h]
theorem idsTo_mono {n m : Nat} (h : n ≤ m) {i : Pid} (hi : i ∈ idsTo n) : i ∈ idsTo m := by
  unfold idsTo at hi ⊢
  obtain ⟨k, hk, e⟩ := List.mem_map.1 hi
  rw [List.mem_range'] at hk
  obtain ⟨j, hj, rfl⟩ := hk
  exact List.mem_map.2 ⟨_, List.mem_range'.2 ⟨j, by omega, rfl⟩, e⟩
structure Goes (w w' : World) (B rb pb rg : Nat) (cap : Cfg) (gb fb n : Nat) (Ps : List PM) : Prop where
  st : ∃ n' X f' s', n ≤ n' ∧ RW w' B rb pb rg cap gb fb n' (Ps ++ X) f' s' ∧ ∀ P ∈ X, P.id ∉ idsTo n
  below : Below B w w'
  held : HeldT (· = 9) w w'
section
variable {w : World} {B rb pb rg : Nat} {cap : Cfg} {gb fb n : Nat} {Ps : List PM} {f : ByteArray → Option ByteArray} {s : ByteArray → PL}
theorem RunA.goes {w' : World} {Fs : List Fl} {one : Bool} {T : ByteArray} (h : RW w B rb pb rg cap gb fb n Ps f s) (k : RunA w w' B rb pb rg cap gb fb n Ps f s Fs one T) : Goes w w' B rb pb rg cap gb fb n Ps := by
  rcases k with ⟨_, k⟩ | ⟨_, hb, _⟩
  · obtain ⟨P, s', hP, h1, _⟩ := k.st
    exact ⟨⟨n + 1, [P], _, _, by omega, h1, fun Q hQ => by rw [List.mem_singleton.1 hQ, hP]; exact idsTo_fresh h.lo h.hi⟩, k.below, k.held⟩
  · exact ⟨⟨n, [], _, _, Nat.le_refl _, by rw [List.append_nil]; exact h.below hb, fun Q hQ => by cases hQ⟩, hb.mono h.base, HeldT.of_below hb⟩
theorem Goes.ahead {u w' : World} (hb : Below w.heap.size w u) (hB : B ≤ w.heap.size) (k : Goes u w' B rb pb rg cap gb fb n Ps) : Goes w w' B rb pb rg cap gb fb n Ps := ⟨k.st, (hb.mono hB).trans k.below, (HeldT.of_below hb).trans k.held⟩
theorem Goes.put {w' : World} {f' : ByteArray → Option ByteArray} {s' : ByteArray → PL} (h : RW w B rb pb rg cap gb fb n Ps f s) (hu : UW w' B pb rg cap gb fb Ps f' s' (idsTo n)) (hi : ∀ P ∈ Ps, P.id ∈ idsTo n) (hb : Below B w w') (hh : HeldT kin w w') : Goes w w' B rb pb rg cap gb fb n Ps :=
  ⟨⟨n, [], _, _, Nat.le_refl _, by rw [List.append_nil]; exact h.put hu hi hh, fun Q hQ => by cases hQ⟩, hb, kin9 hh⟩
end
end Go.Proofs.YtgdfipmdmgkidaaGreatDoor

/- Mathematics: the lines that a step writes. -/
namespace Go.Proofs.YtgdfipmdmgkidaaGreatDoor
open Go.RowKit
def AllE (L : List ByteArray) : Prop := ∀ l ∈ L, l ∈ eightLines
theorem five_eight {l : ByteArray} (h : l ∈ fiveLines) : l ∈ eightLines := List.mem_append.2 (.inl h)
theorem AllE.size {L : List ByteArray} (h : AllE L) : ∀ l ∈ L, l.size ≤ 1000 := fun l hl => by have := eight_size (h l hl); omega
theorem AllE.take {L : List ByteArray} (h : AllE L) (k : Nat) : AllE (L.take k) := fun l hl => h l (List.mem_of_mem_take hl)
theorem AllE.drop {L : List ByteArray} (h : AllE L) (k : Nat) : AllE (L.drop k) := fun l hl => h l (List.mem_of_mem_drop hl)
theorem AllE.app {L M : List ByteArray} (h : AllE L) (k : AllE M) : AllE (L ++ M) := fun l hl => (List.mem_append.1 hl).elim (h l) (k l)
theorem AllE.one {l : ByteArray} (h : l ∈ eightLines) : AllE [l] := fun x hx => by rw [List.mem_singleton.1 hx]; exact h
theorem TX.shape {t : ByteArray} (h : TX t) : (cutAll t).length ≤ 16 ∧ (cutAll t = [] ∨ ∃ A m, cutAll t = A ++ [m] ∧ AllE A ∧ 1 ≤ m.size ∧ m.size ≤ 13 ∧ ((gb m (m.size - 1) = 10 ∧ m ∈ eightLines) ∨ (gb m (m.size - 1) ≠ 10 ∧ m ++ ⟨#[10]⟩ ∈ eightLines))) := by
  obtain ⟨_, C, hC⟩ := h
  rw [hC.cut]
  refine ⟨hC.len, ?_⟩
  rcases hC.parts with h8 | ⟨A, m, rfl, hA, hm⟩
  · by_cases h0 : C = []
    · exact .inl h0
    · obtain ⟨A, m, rfl⟩ : ∃ A m, C = A ++ [m] := ⟨_, _, (List.dropLast_concat_getLast h0).symm⟩
      have hm := h8 m (by simp)
      obtain ⟨e1, e2, e3, _⟩ := eight_facts m hm
      exact .inr ⟨A, m, rfl, fun l hl => h8 l (by simp [hl]), e1, e2, .inl ⟨e3, hm⟩⟩
  · exact .inr ⟨A, m, rfl, hA, hm.pos, by have := hm.size; omega, .inr ⟨hm.last, hm.mem⟩⟩
theorem TX.three {l1 l2 : ByteArray} (h1 : l1 ∈ fiveLines) (h2 : l2 ∈ fiveLines) : TX (((((⟨#[120, 10]⟩ : ByteArray) ++ l1) ++ ⟨#[121, 10]⟩) ++ l2) ++ ⟨#[122, 10]⟩) := by
  have e : ((((⟨#[120, 10]⟩ : ByteArray) ++ l1) ++ ⟨#[121, 10]⟩) ++ l2) ++ ⟨#[122, 10]⟩ = catB [⟨#[120, 10]⟩, l1, ⟨#[121, 10]⟩, l2, ⟨#[122, 10]⟩] := by
    rw [show ([⟨#[120, 10]⟩, l1, ⟨#[121, 10]⟩, l2, ⟨#[122, 10]⟩] : List ByteArray) = ((([⟨#[120, 10]⟩] ++ [l1]) ++ [⟨#[121, 10]⟩]) ++ [l2]) ++ [⟨#[122, 10]⟩] from rfl]
    rw [catB_app, catB_app, catB_app, catB_app, catB_one, catB_one, catB_one, catB_one, catB_one]
  have k1 := eight_size (five_eight h1)
  have k2 := eight_size (five_eight h2)
  have hsz : (((((⟨#[120, 10]⟩ : ByteArray) ++ l1) ++ ⟨#[121, 10]⟩) ++ l2) ++ ⟨#[122, 10]⟩).size ≤ 240 := by
    simp only [ByteArray.size_append]
    have a1 : (⟨#[120, 10]⟩ : ByteArray).size = 2 := rfl
    have a2 : (⟨#[121, 10]⟩ : ByteArray).size = 2 := rfl
    have a3 : (⟨#[122, 10]⟩ : ByteArray).size = 2 := rfl
    omega
  rw [e] at hsz ⊢
  refine TX.cat (fun l hl => ?_) (by simp) hsz
  simp only [List.mem_cons, List.not_mem_nil, or_false] at hl
  unfold eightLines
  rcases hl with rfl | rfl | rfl | rfl | rfl
  · simp
  · exact List.mem_append.2 (.inl h1)
  · simp
  · exact List.mem_append.2 (.inl h2)
  · simp
theorem TX.small : TX ⟨#[120, 10]⟩ := by
  have e : (⟨#[120, 10]⟩ : ByteArray) = catB [⟨#[120, 10]⟩] := by rw [catB_one]
  rw [e]
  exact TX.cat (fun l hl => by rw [List.mem_singleton.1 hl]; unfold eightLines; simp) (by simp) (by decide +kernel)
end Go.Proofs.YtgdfipmdmgkidaaGreatDoor

/- A step of a script writes a file. -/
namespace Go.Proofs.YtgdfipmdmgkidaaGreatDoor
open Go.RowKit
structure WrS (rb pb eb : Nat) (b c : Int) (w : World) : Prop where
  c0 : w.cell? ⟨rb, 0, none⟩ = some (.pointer (some ⟨pb, 0, none⟩))
  c1 : w.cell? ⟨eb, 2, none⟩ = some (.int .i64 b)
  c2 : w.cell? ⟨eb, 3, none⟩ = some (.int .i64 c)
theorem tdiv_range {c : Int} (k : Int) (hk : 1 ≤ k) (h : i64R c) : i64R (c.tdiv k) := by
  have h1 := h.1
  have h2 := h.2
  rcases Int.le_total 0 c with h0 | h0
  · have e := Int.tdiv_eq_ediv_of_nonneg h0 (b := k)
    have k1 := Int.ediv_nonneg h0 (show 0 ≤ k by omega)
    have k2 := Int.ediv_le_self k h0
    rw [e]
    constructor <;> omega
  · have h0' : 0 ≤ -c := by omega
    have e : c.tdiv k = -((-c).tdiv k) := by rw [Int.neg_tdiv, Int.neg_neg]
    have e2 := Int.tdiv_eq_ediv_of_nonneg h0' (b := k)
    have k1 := Int.ediv_nonneg h0' (show 0 ≤ k by omega)
    have k2 := Int.ediv_le_self k h0'
    rw [e, e2]
    constructor <;> omega
section
variable {w : World} {B rb pb rg : Nat} {cap : Cfg} {gb fb n : Nat} {Ps : List PM} {f : ByteArray → Option ByteArray} {s : ByteArray → PL}
set_option maxRecDepth 100000 in
set_option maxHeartbeats 6400000 in
theorem run_write_new (h : RW w B rb pb rg cap gb fb n Ps f s) (p : Ed) (hp : EdOK p) {x : ByteArray} (hx : x ∈ names3) (hnx : ∀ w, Calls Tryz.prog 49 #[.int .i64 p.a] w fun e w' => e = .returned (.string x) ∧ w' = w) (hf : f x = none) :
    Calls Tryz.prog 24 #[.pointer (some ⟨rb, 0, none⟩), .int .i64 cap.r, edV p] w fun e w' => e = .returned (.bool true) ∧ ∃ f', RW w' B rb pb rg cap gb fb n Ps f' s ∧ Below B w w' ∧ HeldT kin w w' := by
  obtain ⟨i0, hi, hz0, hz1, hz2⟩ := info_parts Tryz.info9
  obtain ⟨kd, a, b, c⟩ := p
  obtain ⟨_, ⟨a1, a2⟩, ⟨b1, b2⟩, ⟨c1, c2⟩⟩ := id hp
  have HX := hid hnx
  obtain ⟨w1, hw1⟩ : ∃ w1, w1 = w.alloc (.cells #[.int .i64 kd, .int .i64 a, .int .i64 b, .int .i64 c] 45) := ⟨_, rfl⟩
  have hb1 : Below w.heap.size w w1 := by rw [hw1]; exact (Below.refl _ _).alloc (Nat.le_refl _) _
  have hk1 : w1.heap[w.heap.size]? = some (.cells #[.int .i64 kd, .int .i64 a, .int .i64 b, .int .i64 c] 45 (0, 0)) := by rw [hw1]; exact (MapKept.heap_alloc w _).1
  have hs1 : w.heap.size < w1.heap.size := by rw [hw1]; simp
  have h1 := h.below hb1
  have HT : Hid (Calls Tryz.prog 50 #[.pointer (some ⟨pb, 0, none⟩), .int .i64 cap.r, .string x] w1 fun e w' => e = .returned (.tuple #[.string ⟨#[]⟩, .int .i64 5]) ∧ Below w1.heap.size w1 w') := by
    have := h1.uw.text hx
    simp only [hf, Option.isSome_none, Option.getD_none, Bool.false_eq_true, if_false] at this
    exact this
  have HH := hid h1
  have HB1 := hid hb1
  have HK1 := hid hk1
  have hB := h.base
  -- what ends every way
  have HEND : Hid (∀ u v, Below w1.heap.size w1 u → (∃ t, UW v B pb rg cap gb fb Ps (fun y => if y = x then some t else f y) s (idsTo n)) → Below B u v → HeldT kin3 u v → ∃ f', RW v B rb pb rg cap gb fb n Ps f' s ∧ Below B w v ∧ HeldT kin w v) := by
    intro u v hu ⟨t, hv⟩ hb hh
    exact ⟨_, (h1.below hu).put hv h1.ids (kin3k hh), (hb1.mono hB).trans ((hu.mono (by omega)).trans hb), (HeldT.of_below hb1).trans ((HeldT.of_below hu).trans (kin3k hh))⟩
  obtain ⟨rc0, rc1⟩ := h1.at_
  clear hnx h hb1 hp h1 hk1
  go_enter Tryz.func24, Tryz.ntmps24
  go_wp2_with fail
  rw [← hw1]
  clear hw1
  refine (HX.out _).mono ?_
  rintro e w' ⟨rfl, hww⟩
  have hww' := hww.symm
  clear hww
  subst hww'
  clear HX
  go_wp2_with fail
  refine HT.out.mono ?_
  rintro e w2 ⟨rfl, hb2⟩
  clear HT
  have HB2 := hid hb2
  have h2 := HH.out.below hb2
  obtain ⟨rd0, rd1⟩ := h2.at_
  have hk2 := (hb2.block _ hs1).trans HK1.out
  obtain ⟨e0, e1, e2, e3⟩ := cells4_of hk2
  have hs2 := hb2.size
  have HH2 := hid h2
  have HK2 := hid hk2
  clear hb2 h2 hk2 rc0 rc1 HH HK1
  obtain ⟨l1, hl1, hc1⟩ := kline22_det b b1 b2
  obtain ⟨l2, hl2, hc2⟩ := kline22_det c c1 c2
  have HL1 := hid hc1
  have HL2 := hid hc2
  have hbd : Below w2.heap.size w2 w2.drew := (Below.refl _ _).drew
  have h3 := HH2.out.below hbd
  have HS0 : Hid (WrS rb pb w.heap.size b c w2.drew) := ⟨h3.at_.c0, e2, e3⟩
  have htb : TB w2.drew w.heap.size 45 := ⟨_, _, HK2.out⟩
  have HW : Hid (Calls Tryz.prog 16 #[.pointer (some ⟨pb, 0, none⟩), .int .i64 cap.r, .string x, .string (((((⟨#[120, 10]⟩ : ByteArray) ++ l1) ++ ⟨#[121, 10]⟩) ++ l2) ++ ⟨#[122, 10]⟩)] w2.drew fun e w' => e = .returned (.int .i64 0) ∧ (∃ f', RW w' B rb pb rg cap gb fb n Ps f' s ∧ Below B w w' ∧ HeldT kin w w') ∧ WrS rb pb w.heap.size b c w') := by
    refine (h3.uw.write hx (TX.three hl1 hl2)).mono ?_
    rintro e w' ⟨rfl, hu, hb, hh⟩
    refine ⟨rfl, HEND.out w2.drew w' (HB2.out.trans (hbd.mono hs2)) ⟨_, hu⟩ hb hh, ((h3.put hu h3.ids (kin3k hh)).at_).c0, (cell_same (hh.keep _ 45 htb (.inr (.inr rfl))) _).trans e2, (cell_same (hh.keep _ 45 htb (.inr (.inr rfl))) _).trans e3⟩
  have y1 := eight_size (five_eight hl1)
  have y2 := eight_size (five_eight hl2)
  have z1 : ¬ 9223372036854775807 < 2 + l1.size := by omega
  have z2 : ¬ 9223372036854775807 < 2 + l1.size + 2 := by omega
  have z3 : ¬ 9223372036854775807 < 2 + l1.size + 2 + l2.size := by omega
  have z4 : ¬ 9223372036854775807 < 2 + l1.size + 2 + l2.size + 2 := by omega
  clear hc1 hc2 h3 htb hbd HEND HK2 HH2 y1 y2
  go_wp2_with fail
  refine wp_region_Z (WrS rb pb w.heap.size b c) 99 (by kernel_rfl) ?_
  refine zt 0 (v := ?z1) HS0.out (fun w0 hS0 => ?hy) ?_
  case hy => obtain ⟨s1, s2, s3⟩ := hS0; go_simp; with_reducible rfl
  simp only [Act.put, List.setIfInBounds_toArray]
  refine zt 1 (v := ?z2) HS0.out (fun w0 hS0 => ?hy) ?_
  case hy => obtain ⟨s1, s2, s3⟩ := hS0; go_simp; with_reducible rfl
  simp only [Act.put]
  refine zt 2 (v := ?z3) HS0.out (fun w0 hS0 => ?hy) ?_
  case hy => obtain ⟨s1, s2, s3⟩ := hS0; go_simp; with_reducible rfl
  simp only [Act.put]
  refine zt 3 (v := ?z4) HS0.out (fun w0 hS0 => ?hy) ?_
  case hy => obtain ⟨s1, s2, s3⟩ := hS0; go_simp; with_reducible rfl
  simp only [Act.put]
  refine zt 4 (v := ?z5) HS0.out (fun w0 hS0 => ?hy) ?_
  case hy => obtain ⟨s1, s2, s3⟩ := hS0; go_simp; with_reducible rfl
  simp only [Act.put]
  refine zt 5 (v := ?z6) HS0.out (fun w0 hS0 => ?hy) ?_
  case hy => obtain ⟨s1, s2, s3⟩ := hS0; go_simp; with_reducible rfl
  simp only [Act.put]
  refine zt 6 (v := ?z7) HS0.out (fun w0 hS0 => ?hy) ?_
  case hy => obtain ⟨s1, s2, s3⟩ := hS0; go_simp; with_reducible rfl
  simp only [Act.put]
  refine zt 7 (v := ?z8) HS0.out (fun w0 hS0 => ?hy) ?_
  case hy => obtain ⟨s1, s2, s3⟩ := hS0; go_simp; with_reducible rfl
  simp only [Act.put]
  refine zt 11 (v := ?z9) HS0.out (fun w0 hS0 => ?hy) ?_
  case hy => obtain ⟨s1, s2, s3⟩ := hS0; go_simp; with_reducible rfl
  simp only [Act.put]
  refine zt 12 (v := ?z10) HS0.out (fun w0 hS0 => ?hy) ?_
  case hy => obtain ⟨s1, s2, s3⟩ := hS0; go_simp; with_reducible rfl
  simp only [Act.put]
  refine wpZ_one 8 _ rfl (by kernel_rfl) (fun KK hK => ?_)
  go_simp
  refine (HL1.out _).mono ?_
  rintro e w3 ⟨rfl, rfl⟩
  dsimp only
  refine hK.out _ _ (fun _ => HS0.out) ?_
  clear hK
  refine zt 9 (v := ?z11) HS0.out (fun w0 hS0 => ?hy) ?_
  case hy => obtain ⟨s1, s2, s3⟩ := hS0; go_simp; with_reducible rfl
  simp only [Act.put, List.setIfInBounds_toArray]
  refine zt 10 (v := ?z12) HS0.out (fun w0 hS0 => ?hy) ?_
  case hy => obtain ⟨s1, s2, s3⟩ := hS0; go_simp; with_reducible rfl
  simp only [Act.put]
  refine wpZ_one 13 _ rfl (by kernel_rfl) (fun KK hK => ?_)
  go_simp
  refine (HL2.out _).mono ?_
  rintro e w3 ⟨rfl, rfl⟩
  dsimp only
  refine hK.out _ _ (fun _ => HS0.out) ?_
  clear hK
  refine zt 14 (v := ?z13) HS0.out (fun w0 hS0 => ?hy) ?_
  case hy => obtain ⟨s1, s2, s3⟩ := hS0; go_simp; with_reducible rfl
  simp only [Act.put, List.setIfInBounds_toArray]
  refine zt 15 (v := ?z14) HS0.out (fun w0 hS0 => ?hy) ?_
  case hy => obtain ⟨s1, s2, s3⟩ := hS0; go_simp; with_reducible rfl
  simp only [Act.put]
  refine wpZ_one 16 _ rfl (by kernel_rfl) (fun KK hK => ?_)
  go_simp
  refine HW.out.mono ?_
  rintro e w3 ⟨rfl, hend, hs3⟩
  dsimp only
  have HS3 := hid hs3
  have HE := hid hend
  refine hK.out _ _ (fun _ => hs3) ?_
  clear hK hs3 hend
  refine zt 17 (v := ?z15) HS3.out (fun w0 hS0 => ?hy) ?_
  case hy => obtain ⟨s1, s2, s3⟩ := hS0; go_simp; with_reducible rfl
  simp only [Act.put, List.setIfInBounds_toArray]
  refine wpZ_done (by kernel_rfl) ?_ _
  go_wp2_with fail
  go_ret
  exact ⟨rfl, HE.out⟩
end
end Go.Proofs.YtgdfipmdmgkidaaGreatDoor

/- A step of a script writes an empty file anew. -/
set_option maxHeartbeats 6400000
namespace Go.Proofs.YtgdfipmdmgkidaaGreatDoor
open Go.RowKit
section
variable {w : World} {B rb pb rg : Nat} {cap : Cfg} {gb fb n : Nat} {Ps : List PM} {f : ByteArray → Option ByteArray} {s : ByteArray → PL}
theorem kcut_nil (w : World) : Calls Tryz.prog 19 #[.string ⟨#[]⟩] w fun e w' => e = .returned (.slice none 0 0) ∧ w' = w := by
  go_enter Tryz.func19, Tryz.ntmps19
  go_wp2
  go_loopw [3, 4, 5] (fun v st i wr => v = .slice none 0 0 ∧ st = .int .i64 0 ∧ i = .int .i64 0 ∧ wr = w) (fun _ _ i _ => 0)
  case atStart => exact ⟨rfl, rfl, rfl, rfl⟩
  case round =>
    obtain ⟨rfl, rfl, rfl, rfl⟩ := hrel
    go_wp2
    go_ret
    exact ⟨rfl, rfl⟩
set_option maxRecDepth 100000 in
theorem run_write_empty (h : RW w B rb pb rg cap gb fb n Ps f s) (p : Ed) (hp : EdOK p) {x : ByteArray} (hx : x ∈ names3) (hnx : ∀ w, Calls Tryz.prog 49 #[.int .i64 p.a] w fun e w' => e = .returned (.string x) ∧ w' = w) (hf : f x = some ⟨#[]⟩) :
    Calls Tryz.prog 24 #[.pointer (some ⟨rb, 0, none⟩), .int .i64 cap.r, edV p] w fun e w' => e = .returned (.bool true) ∧ ∃ f', RW w' B rb pb rg cap gb fb n Ps f' s ∧ Below B w w' ∧ HeldT kin w w' := by
  obtain ⟨i0, hi, hz0, hz1, hz2⟩ := info_parts Tryz.info9
  obtain ⟨kd, a, b, c⟩ := p
  obtain ⟨_, ⟨a1, a2⟩, ⟨b1, b2⟩, ⟨c1, c2⟩⟩ := id hp
  have HX : Hid (∀ w, Calls Tryz.prog 49 #[.int .i64 a] w fun e w' => e = .returned (.string x) ∧ w' = w) := hnx
  obtain ⟨w1, hw1⟩ : ∃ w1, w1 = w.alloc (.cells #[.int .i64 kd, .int .i64 a, .int .i64 b, .int .i64 c] 45) := ⟨_, rfl⟩
  have hb1 : Below w.heap.size w w1 := by rw [hw1]; exact (Below.refl _ _).alloc (Nat.le_refl _) _
  have hk1 : w1.heap[w.heap.size]? = some (.cells #[.int .i64 kd, .int .i64 a, .int .i64 b, .int .i64 c] 45 (0, 0)) := by rw [hw1]; exact (MapKept.heap_alloc w _).1
  have hs1 : w.heap.size < w1.heap.size := by rw [hw1]; simp
  have h1 := h.below hb1
  have HT : Hid (Calls Tryz.prog 50 #[.pointer (some ⟨pb, 0, none⟩), .int .i64 cap.r, .string x] w1 fun e w' => e = .returned (.tuple #[.string ⟨#[]⟩, .int .i64 0]) ∧ Below w1.heap.size w1 w') := by
    have := h1.uw.text hx
    simp only [hf, Option.isSome_some, Option.getD_some, if_true] at this
    exact this
  have HH : Hid (RW w1 B rb pb rg cap gb fb n Ps f s) := h1
  have HB1 : Hid (Below w.heap.size w w1) := hb1
  have HK1 : Hid (w1.heap[w.heap.size]? = some (.cells #[.int .i64 kd, .int .i64 a, .int .i64 b, .int .i64 c] 45 (0, 0))) := hk1
  have hB := h.base
  -- what ends every way
  have HEND : Hid (∀ u v, Below w1.heap.size w1 u → (∃ t, UW v B pb rg cap gb fb Ps (fun y => if y = x then some t else f y) s (idsTo n)) → Below B u v → HeldT kin3 u v → ∃ f', RW v B rb pb rg cap gb fb n Ps f' s ∧ Below B w v ∧ HeldT kin w v) := by
    intro u v hu ⟨t, hv⟩ hb hh
    exact ⟨_, (h1.below hu).put hv h1.ids (kin3k hh), (hb1.mono hB).trans ((hu.mono (by omega)).trans hb), (HeldT.of_below hb1).trans ((HeldT.of_below hu).trans (kin3k hh))⟩
  obtain ⟨rc0, rc1⟩ := h1.at_
  clear hnx h hb1 hp h1 hk1
  go_enter Tryz.func24, Tryz.ntmps24
  go_wp2_with fail
  rw [← hw1]
  clear hw1
  refine (HX.out _).mono ?_
  rintro e w' ⟨rfl, hww⟩
  have hww' := hww.symm
  clear hww
  subst hww'
  clear HX
  go_wp2_with fail
  refine HT.out.mono ?_
  rintro e w2 ⟨rfl, hb2⟩
  clear HT
  have HB2 : Hid (Below w1.heap.size w1 w2) := hb2
  have h2 := HH.out.below hb2
  obtain ⟨rd0, rd1⟩ := h2.at_
  have hk2 := (hb2.block _ hs1).trans HK1.out
  obtain ⟨e0, e1, e2, e3⟩ := cells4_of hk2
  have hs2 := hb2.size
  have HH2 : Hid (RW w2 B rb pb rg cap gb fb n Ps f s) := h2
  have HK2 : Hid (w2.heap[w.heap.size]? = some (.cells #[.int .i64 kd, .int .i64 a, .int .i64 b, .int .i64 c] 45 (0, 0))) := hk2
  clear hb2 h2 hk2 rc0 rc1 HH HK1
  go_wp2_with fail
  refine (kcut_nil w2).mono ?_
  rintro e w3 ⟨rfl, hw3⟩
  have hw3' := hw3.symm
  clear hw3
  subst hw3'
  have HCB : Hid (∀ u, Below w2.heap.size w2 u → WrS rb pb w.heap.size b c u) := fun u hu => ⟨((HH2.out.below hu).at_).c0, (hu.cell (p := ⟨w.heap.size, 2, none⟩) (by show w.heap.size < _; omega)).trans e2, (hu.cell (p := ⟨w.heap.size, 3, none⟩) (by show w.heap.size < _; omega)).trans e3⟩
  have HW : Hid (∀ u t', Below w2.heap.size w2 u → TX t' → Calls Tryz.prog 16 #[.pointer (some ⟨pb, 0, none⟩), .int .i64 cap.r, .string x, .string t'] u fun e w' => e = .returned (.int .i64 0) ∧ ∃ f', RW w' B rb pb rg cap gb fb n Ps f' s ∧ Below B w w' ∧ HeldT kin w w') := by
    intro u t' hu ht'
    refine ((HH2.out.below hu).uw.write hx ht').mono ?_
    rintro e w' ⟨rfl, hu', hb, hh⟩
    exact ⟨rfl, HEND.out u w' (HB2.out.trans (hu.mono hs2)) ⟨_, hu'⟩ hb hh⟩
  clear HEND HK2 HH2 e0 e1 e2 e3 rd0 rd1
  obtain ⟨ln, hln⟩ : ∃ ln, ln = 0 := ⟨_, rfl⟩
  obtain ⟨k, hk, hpk⟩ := kpick23_det b (ln + 1) (by omega) (by omega) b1 b2
  obtain ⟨hw, hhw, hph⟩ := kpick23_det c 3 (by omega) (by omega) c1 c2
  obtain ⟨hd3a, hd3b⟩ := tdiv_range 3 (by omega) (show i64R c from ⟨c1, c2⟩)
  obtain ⟨hd6a, hd6b⟩ := tdiv_range 16 (by omega) (show i64R c from ⟨c1, c2⟩)
  obtain ⟨l3, hl3, hc3⟩ := kline22_det (c.tdiv 3) hd3a hd3b
  obtain ⟨op, hop, hpo⟩ := kpick23_det (c.tdiv 16) 5 (by omega) (by omega) hd6a hd6b
  have HP9 : Hid (∀ w, Calls Tryz.prog 31 #[.int .i64 b, .int .i64 (ln + 1 : Nat)] w fun e w' => e = .returned (.int .i64 k) ∧ w' = w) := hpk
  have HPH : Hid (∀ w, Calls Tryz.prog 31 #[.int .i64 c, .int .i64 3] w fun e w' => e = .returned (.int .i64 hw) ∧ w' = w) := hph
  have HL3 : Hid (∀ w, Calls Tryz.prog 39 #[.int .i64 (c.tdiv 3)] w fun e w' => e = .returned (.string l3) ∧ w' = w) := hc3
  have HPO : Hid (∀ w, Calls Tryz.prog 31 #[.int .i64 (c.tdiv 16), .int .i64 5] w fun e w' => e = .returned (.int .i64 op) ∧ w' = w) := hpo
  have wd3 : IntKind.i64.wrap (c.tdiv 3) = c.tdiv 3 := by simp [IntKind.wrap, IntKind.signed, IntKind.bits]; omega
  have wd6 : IntKind.i64.wrap (c.tdiv 16) = c.tdiv 16 := by simp [IntKind.wrap, IntKind.signed, IntKind.bits]; omega
  have q9 : IntKind.i64.wrap ((ln : Int) + 1) = ((ln + 1 : Nat) : Int) := by simp [IntKind.wrap, IntKind.signed, IntKind.bits]; omega
  have hl3e := five_eight hl3
  clear hpk hph hc3 hpo hd3a hd3b hd6a hd6b hl3
  subst hln
  have hk0 : k = 0 := by omega
  subst hk0
  go_wp2_with fail
  go_quiet (fail)
  have hbD : Below w2.heap.size w2 (w2.drewN nq) := below_drewN (Below.refl _ w2) nq
  generalize w2.drewN nq = wD at *
  have hsD := hbD.size
  have HBD : Hid (Below w2.heap.size w2 wD) := hbD
  obtain ⟨dc0, dc1, dc2⟩ := HCB.out wD hbD
  have HP9' : Hid (∀ w, Calls Tryz.prog 31 #[.int .i64 b, .int .i64 1] w fun e w' => e = .returned (.int .i64 0) ∧ w' = w) := HP9.out
  clear hbD HP9
  go_wp2_with fail
  refine (HP9'.out _).mono ?_
  rintro e w' ⟨rfl, hww⟩
  have hww' := hww.symm
  clear hww
  subst hww'
  clear HP9'
  go_wp2_with (at_builtin; refine wpList_append_all (by rfl) _ _ 35 (by rfl) wD.heap.size 9 i0 _ 1 16 Tryz.underlying35 hi hz0 hz1 hz2 rfl (by omega) _ 0 [] (by rfl) (World.ownsRow_nil _ _ _ _) none 0 0 (strs []) (by rfl) (by rfl) (.inl rfl) (strs_one _) (by unfold maxLen; omega) (by omega) (Nat.le_refl _) ?_)
  intro va vn vc w4 ho4 hg4
  have ho5 : w4.ownsRow wD.heap.size 9 1 (.slice va vn vc) ([] : List ByteArray).length (strs []) := ho4
  have hvn : vn = 0 := (own_cells ho5).1
  subst hvn
  have hb4 : Below wD.heap.size wD w4 := (Below.refl _ _).grown hg4 (Nat.le_refl _) (fun j hj => by cases hj)
  have HO5 : Hid (w4.ownsRow wD.heap.size 9 1 (.slice va 0 vc) 0 (strs [])) := ho5
  have HB4 : Hid (Below wD.heap.size wD w4) := hb4
  have hs4 := hb4.size
  obtain ⟨f0, f1, f2⟩ := HCB.out w4 (HBD.out.trans (hb4.mono hsD))
  clear ho4 hg4 ho5 dc0 dc1 dc2 hb4
  go_wp2_with fail
  refine (HPH.out _).mono ?_
  rintro e w' ⟨rfl, hww⟩
  have hww' := hww.symm
  clear hww
  subst hww'
  clear HPH
  go_upto_if 104 with fail
  go_cut [13] (fun s13 wx => ∃ (vb : Option Addr) (ol vd : Nat) (E : List ByteArray), s13 = .slice vb ol vd ∧ E.length = ol ∧ AllE E ∧ ol ≤ 1 ∧ wx.ownsRow wD.heap.size 9 1 (.slice vb ol vd) ol (strs E) ∧ Below wD.heap.size wD wx)
  case first =>
    by_cases hh1 : hw = 1
    · have hb1 : ((hw : Int) != 1) = false := by simp; omega
      have H1 : Hid (hw = 1) := hh1
      clear hh1
      go_wp2_with fail
      go_meet
      exact ⟨va, 0, vc, [], rfl, rfl, (fun l hl => by cases hl), by omega, HO5.out, HB4.out⟩
    · have hb1 : ((hw : Int) != 1) = true := by simp; omega
      have hb2 : ¬ (hw : Int) = 1 := by omega
      clear hh1
      go_wp2_with fail
      refine (HL3.out _).mono ?_
      rintro e w' ⟨rfl, hww⟩
      have hww' := hww.symm
      clear hww
      subst hww'
      have hown4 := HO5.out
      go_wp2_with (at_builtin; refine wpList_append_own _ rfl _ _ 35 rfl wD.heap.size 9 i0 (.string ⟨#[]⟩) 1 16 Tryz.underlying35 hi hz0 hz1 hz2 rfl (by decide) _ _ _ rfl (hown4.alloc _) ⟨w4.heap.size, 0, none⟩ 1 1 [.string l3] rfl rfl ?c1 ?c2 ?c3 ?c4 ?c5 ?_)
      case c1 => exact new_one _ _ _
      case c2 => exact strs_one [_]
      case c3 => unfold maxLen; omega
      case c4 => omega
      case c5 => simp; omega
      intro v' w5 hown' hg _
      have HOW' : Hid (w5.ownsRow wD.heap.size 9 1 v' 1 (strs [l3])) := hown'
      have HBW : Hid (Below wD.heap.size wD w5) := (HB4.out.alloc hs4 _).grown hg (by simp; omega) (fun j hj => (hown4.lt j hj).1)
      clear hown' hg hown4
      obtain ⟨vb, vd, rfl⟩ := own_shape HOW'.out
      go_wp2_with fail
      go_meet
      exact ⟨vb, 1, vd, [l3], rfl, rfl, AllE.one hl3e, by omega, HOW'.out, HBW.out⟩
  case rest =>
  obtain ⟨vb, ol, vd, E, rfl, hEl, hEE, hol, hownE, hbE⟩ := hcut
  clear HL3 HO5 HB4 hs4 f0 f1 f2 wd3
  generalize wc = wE at *
  have hsE := hbE.size
  have HOE : Hid (wE.ownsRow wD.heap.size 9 1 (.slice vb ol vd) ol (strs E)) := hownE
  have HBE : Hid (Below wD.heap.size wD wE) := hbE
  clear hownE hbE
  go_upto_region 17 with fail
  go_cut [119] (fun s119 wx => s119 = .bool false ∧ wx = wE)
  case first =>
    by_cases hh0 : hw = 0
    · have hb1 : ((hw : Int) != 0) = false := by simp; omega
      have H1 : Hid (hw = 0) := hh0
      clear hh0
      go_wp2_with fail
      go_meet
      first | done | exact ⟨rfl, rfl⟩
    · have hb1 : ((hw : Int) != 0) = true := by simp; omega
      have hb2 : ¬ (hw : Int) = 0 := by omega
      clear hh0
      go_wp2_with fail
      go_meet
      first | done | exact ⟨rfl, rfl⟩
  case rest =>
  obtain ⟨rfl, hwc⟩ := hcut
  have hwc' := hwc.symm
  clear hwc
  subst hwc'
  go_wp2_with (at_builtin; refine wpList_append_all (by rfl) _ _ 35 (by rfl) wD.heap.size 9 i0 _ 1 16 Tryz.underlying35 hi hz0 hz1 hz2 rfl (by omega) _ ol (strs E) (by rfl) HOE.out none 0 0 (strs []) (by rfl) (by rfl) (.inl rfl) (strs_one _) (by unfold maxLen; omega) (by omega) (by omega) ?_)
  intro vb2 ol2 vd2 wF ho5 hg5
  have hown5 : wF.ownsRow wD.heap.size 9 1 (.slice vb2 ol2 vd2) E.length (strs E) := by
    rw [hEl]
    simpa using ho5
  have hn5 : ol2 = ol := by rw [(own_cells hown5).1, hEl]
  subst hn5
  have hownE2 : wF.ownsRow wD.heap.size 9 1 (.slice vb2 ol2 vd2) ol2 (strs E) := by
    rw [hEl] at hown5
    exact hown5
  have hbE2 : Below wD.heap.size wD wF := HBE.out.grown hg5 (by omega) (fun j hj => (HOE.out.lt j hj).1)
  obtain ⟨E2, hE2⟩ : ∃ E2, E = E2 := ⟨_, rfl⟩
  rw [hE2] at hownE2 hEE hEl
  have hEE2 := hEE
  have hEl2 := hEl
  have hol2 : ol2 ≤ 40 := by omega
  have HBF : Hid (Below w2.heap.size w2 wF) := HBD.out.trans (hbE2.mono hsD)
  clear HOE HBE ho5 hg5 hown5 hEE hEl hsE
  have hcp2 : ol2 ≤ vd2 := own_cap hownE2
  have HOF : Hid (wF.ownsRow wD.heap.size 9 1 (.slice vb2 ol2 vd2) ol2 (strs E2)) := hownE2
  have HE2 : Hid (AllE E2) := hEE2
  have HL2 : Hid (E2.length = ol2) := hEl2
  obtain ⟨f0, f1, f2⟩ := HCB.out wF HBF.out
  clear hownE2 hbE2 hEE2 hEl2
  go_upto_if 129 with fail
  go_cut [13] (fun s13 wx => ∃ (vb : Option Addr) (ol vd : Nat) (E : List ByteArray), s13 = .slice vb ol vd ∧ E.length = ol ∧ AllE E ∧ ol ≤ 16 ∧ View wx vb E ∧ wx = wF)
  case first =>
    have hVO : View wF vb2 E2 := by
      have h1 := HOF.out
      rw [← HL2.out] at h1
      exact View.own h1
    by_cases h6 : 16 < ol2
    · exfalso; omega
    · have hb6 : decide ((16 : Int) < (ol2 : Int)) = false := by simp; omega
      have hb7 : ¬ (16 : Int) < (ol2 : Int) := by omega
      have HV : Hid (View wF vb2 E2) := hVO
      clear hVO
      go_wp2_with fail
      go_meet
      exact ⟨vb2, ol2, vd2, E2, rfl, HL2.out, HE2.out, by omega, HV.out, rfl⟩
  case rest =>
  obtain ⟨vb3, ol3, vd3, E3, rfl, hEl3, hEE3, hol3, hV3, hwc⟩ := hcut
  have hwc' := hwc.symm
  clear hwc
  subst hwc'
  clear HOF HE2 HL2 hcp2 hol2
  obtain ⟨jt, hjt⟩ : ∃ jt, joinedB E3 ((op : Int) == 4) = jt := ⟨_, rfl⟩
  have HJ : Hid (Calls Tryz.prog 40 #[.slice vb3 ol3 vd3, .bool ((op : Int) == 4)] wF fun e w' => e = .returned (.string jt) ∧ w' = wF) := by
    have := kjoined24_any E3 ((op : Int) == 4) vb3 vd3 wF hV3 (by omega) hEE3.size
    rw [hEl3, hjt] at this
    exact this
  have HTJ : Hid (jt.size ≤ 240 → TX jt) := fun hs => by
    rw [← hjt] at hs ⊢
    exact TX.joined hEE3 (by omega) hs
  clear hjt hV3 hEE3 hEl3
  go_wp2_with fail
  refine (HPO.out _).mono ?_
  rintro e w' ⟨rfl, hww⟩
  have hww' := hww.symm
  clear hww
  subst hww'
  clear HPO
  go_wp2_with fail
  refine HJ.out.mono ?_
  rintro e w' ⟨rfl, hww⟩
  have hww' := hww.symm
  clear hww
  subst hww'
  clear HJ
  go_upto_if 141 with fail
  go_cut [15] (fun s15 wx => ∃ t', s15 = .string t' ∧ TX t' ∧ wx = wF)
  case first =>
    by_cases h24 : 240 < jt.size
    · have hb6 : decide ((240 : Int) < (jt.size : Int)) = true := by simp; omega
      have hb7 : (240 : Int) < (jt.size : Int) := by omega
      go_wp2_with fail
      go_meet
      exact ⟨_, rfl, TX.small, rfl⟩
    · have hb6 : decide ((240 : Int) < (jt.size : Int)) = false := by simp; omega
      have hb7 : ¬ (240 : Int) < (jt.size : Int) := by omega
      go_wp2_with fail
      go_meet
      exact ⟨jt, rfl, HTJ.out (by omega), rfl⟩
  case rest =>
  obtain ⟨t', rfl, htx, hwc⟩ := hcut
  have hwc' := hwc.symm
  clear hwc
  subst hwc'
  have HWW := HW.out wF t' HBF.out htx
  clear HTJ HW
  go_wp2_with fail
  refine HWW.mono ?_
  rintro e w' ⟨rfl, hend⟩
  have HE : Hid (∃ f', RW w' B rb pb rg cap gb fb n Ps f' s ∧ Below B w w' ∧ HeldT kin w w') := hend
  clear hend
  go_wp2_with fail
  go_ret
  exact ⟨rfl, HE.out⟩
end
end Go.Proofs.YtgdfipmdmgkidaaGreatDoor
