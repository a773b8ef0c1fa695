/- A hunk is applied to a row in its frame. -/
import Derived.Test.YtgdfipmdmgkidaaGreatDoorPeq
set_option maxHeartbeats 6400000
set_option maxRecDepth 100000
namespace Go.Proofs.YtgdfipmdmgkidaaGreatDoor
open Go.RowKit
def midRow (N : List Spot) : List Spot := (N.take (N.length - 1)).drop 1
def hApply (S N Br : List Spot) (p : Nat) : List Spot := S.take (p + 1) ++ (deadRow (midRow N) ++ (Br ++ S.drop (p + N.length - 1)))
theorem SV.rest {w : World} {b o cap : Nat} {S : List Spot} {n : Nat} (h : SV w (.slice (some ⟨b, o, none⟩) n cap) S) (x : Nat) (hx : x ≤ S.length) : SV w (.slice (some ⟨b, o + x * 7, none⟩) (S.length - x) (cap - x)) (S.drop x) := by
  have := h.part x S.length hx (Nat.le_refl _)
  rwa [List.take_length] at this
theorem SV.first {w : World} {b o cap : Nat} {S : List Spot} {n : Nat} (h : SV w (.slice (some ⟨b, o, none⟩) n cap) S) (y : Nat) (hy : y ≤ S.length) : SV w (.slice (some ⟨b, o, none⟩) y cap) (S.take y) := by
  have := h.part 0 y (Nat.zero_le _) hy
  simpa using this
theorem four_new {w : World} {g : Nat} {x y z u : Value} {t : TypeId} {f : Nat × Nat} (h : w.heap[g]? = some (.cells #[x, y, z, u] t f)) : w.cell? ⟨g, 0 + 0, none⟩ = some x ∧ w.cell? ⟨g, 0 + 1, none⟩ = some y ∧ w.cell? ⟨g, 0 + 2, none⟩ = some z ∧ w.cell? ⟨g, 0 + 3, none⟩ = some u := by
  simp [World.cell?, h]
theorem concat4 (w : World) (x y z u : Value) (X Y Z U : List Spot) (hx : SV w x X) (hy : SV w y Y) (hz : SV w z Z) (hu : SV w u U) (hlen : X.length + Y.length + Z.length + U.length ≤ 1000000) :
    Calls Tryz.prog 267 #[.slice (some ⟨w.heap.size, 0, none⟩) 4 4] (w.alloc (.cells #[x, y, z, u] 183)) fun e w' => ∃ v, e = .returned v ∧ w'.ownsRow w.heap.size 313 7 v (X ++ (Y ++ (Z ++ U))).length (rowC (X ++ (Y ++ (Z ++ U)))) ∧ Below w.heap.size w w' := by
  have hb : Below w.heap.size w (w.alloc (.cells #[x, y, z, u] 183)) := (Below.refl _ _).alloc (Nat.le_refl _) _
  have hcell := four_new (MapKept.heap_alloc w (.cells #[x, y, z, u] 183)).1
  have hR : RV (w.alloc (.cells #[x, y, z, u] 183)) (.slice (some ⟨w.heap.size, 0, none⟩) 4 4) [(x, X), (y, Y), (z, Z), (u, U)] := by
    refine ⟨_, _, rfl, fun k r hk => ⟨w.heap.size, 0, rfl, by simp, ?_⟩⟩
    match k, hk with
    | 0, hk => cases hk; exact hcell.1
    | 1, hk => cases hk; exact hcell.2.1
    | 2, hk => cases hk; exact hcell.2.2.1
    | 3, hk => cases hk; exact hcell.2.2.2
    | k + 4, hk => simp at hk
  have hall : ∀ r ∈ [(x, X), (y, Y), (z, Z), (u, U)], SV (w.alloc (.cells #[x, y, z, u] 183)) r.1 r.2 := by
    intro r hr
    simp only [List.mem_cons, List.not_mem_nil, or_false] at hr
    rcases hr with rfl | rfl | rfl | rfl
    · exact hx.below hb (Nat.le_refl _)
    · exact hy.below hb (Nat.le_refl _)
    · exact hz.below hb (Nat.le_refl _)
    · exact hu.below hb (Nat.le_refl _)
  have e : ([(x, X), (y, Y), (z, Z), (u, U)] : List (Value × List Spot)).flatMap (·.2) = X ++ (Y ++ (Z ++ U)) := by simp
  have h := concat195_any _ _ _ hR hall (by simp) (by rw [e]; simp only [List.length_append]; omega)
  rw [e] at h
  refine h.mono ?_
  rintro e' w' ⟨v, rfl, ho, hb'⟩
  exact ⟨v, rfl, ownsRow_mono ho (by simp), hb.trans (hb'.mono (by simp))⟩
theorem happly247_any (S N Br : List Spot) (t : Spot) (p : Nat) (hN : N[0]? = some t) (hp : idxS S t = some p) (hpl : p + N.length ≤ S.length) (hN2 : 2 ≤ N.length) (nv bv v0 : Value) (w : World) (hn : SV w nv N) (hb : SV w bv Br) (hv : SV w v0 S) (hlen : S.length + N.length + Br.length ≤ 300000) :
    Calls Tryz.prog 355 #[.agg #[nv, bv], v0] w fun e w' => ∃ v, e = .returned v ∧ w'.ownsRow w.heap.size 313 7 v (hApply S N Br p).length (rowC (hApply S N Br p)) ∧ Below w.heap.size w w' := by
  obtain ⟨na, nc, rfl⟩ := hn.shape
  obtain ⟨ba, bc, rfl⟩ := hb.shape
  obtain ⟨b, o, cap, rfl, hcap⟩ : ∃ b o cap, v0 = .slice (some ⟨b, o, none⟩) S.length cap ∧ S.length ≤ cap := by
    rcases hv with ⟨_, rfl⟩ | ⟨b, o, cap, rfl, hc, _⟩
    · rw [List.length_nil] at hpl; omega
    · exact ⟨b, o, cap, rfl, hc⟩
  have hb0 : Below w.heap.size w (w.alloc (.cells #[.slice na N.length nc, .slice ba Br.length bc] 327)) := (Below.refl _ _).alloc (Nat.le_refl _) _
  have hk0 := (MapKept.heap_alloc w (.cells #[.slice na N.length nc, .slice ba Br.length bc] 327)).1
  have hs0 : (w.alloc (.cells #[.slice na N.length nc, .slice ba Br.length bc] 327)).heap.size = w.heap.size + 1 := by simp
  have HP : Hid (Calls Tryz.prog 362 #[.agg #[.slice na N.length nc, .slice ba Br.length bc], .slice (some ⟨b, o, none⟩) S.length cap] (w.alloc (.cells #[.slice na N.length nc, .slice ba Br.length bc] 327)) fun e w' => e = .returned (.int .i64 (p : Int)) ∧ Below (w.alloc (.cells #[.slice na N.length nc, .slice ba Br.length bc] 327)).heap.size (w.alloc (.cells #[.slice na N.length nc, .slice ba Br.length bc] 327)) w') := by
    have h := place250_any N S t hN _ _ _ ba Br.length bc rfl _ (hn.below hb0 (Nat.le_refl _)) (hv.below hb0 (Nat.le_refl _)) (by omega)
    rw [hp] at h
    exact h
  clear hp hN
  have hn1 := hn.below hb0 (Nat.le_refl _)
  have hb1 := hb.below hb0 (Nat.le_refl _)
  have hv1 := hv.below hb0 (Nat.le_refl _)
  clear hn hb hv
  go_enter Tryz.func355, Tryz.ntmps355
  go_wp2_with fail
  generalize w.alloc (.cells #[.slice na N.length nc, .slice ba Br.length bc] 327) = wa at *
  refine HP.out.mono ?_
  rintro e w1 ⟨rfl, hbe1⟩
  clear HP
  have hn2 := hn1.below hbe1 (Nat.le_refl _)
  have hb2 := hb1.below hbe1 (Nat.le_refl _)
  have hv2 := hv1.below hbe1 (Nat.le_refl _)
  have hk1 := (hbe1.block w.heap.size (by omega)).trans hk0
  have hbw1 : Below w.heap.size w w1 := hb0.trans (hbe1.mono (by omega))
  have hs1 := hbe1.size
  obtain ⟨k0, k1⟩ := cells2_of hk1
  clear hn1 hb1 hv1 hk0 hb0 hbe1
  go_wp2_with fail
  obtain ⟨q, hq⟩ : ∃ q : Nat, q + 1 = p + N.length := ⟨p + N.length - 1, by omega⟩
  have hqi : (p : Int) + (N.length : Int) - 1 = (q : Int) := by omega
  rw [hqi]
  have hq0 : (q : Int) ≤ (S.length : Int) := by omega
  have hq1 : q ≤ S.length := by omega
  have hp1 : (p : Int) + 1 ≤ (cap : Int) := by omega
  have hp0 : (0 : Int) ≤ (p : Int) + 1 := by omega
  have hp2 : p + 1 ≤ cap := by omega
  have hqc : q ≤ cap := by omega
  have hw1 : IntKind.i64.wrap ((p : Int) + 1) = (p : Int) + 1 := by simp [IntKind.wrap, IntKind.signed, IntKind.bits]; omega
  have ht1 : ((p : Int) + 1).toNat = p + 1 := by omega
  have hml : (midRow N).length ≤ 900000 := by unfold midRow; simp; omega
  have HF : Hid (hApply S N Br p = S.take (p + 1) ++ (deadRow (midRow N) ++ (Br ++ S.drop q))) := by show _ = _; unfold hApply; rw [show p + N.length - 1 = q by omega]
  have hdl : (deadRow (midRow N)).length ≤ N.length := by unfold deadRow midRow; simp; omega
  have hsum : (S.take (p + 1)).length + (deadRow (midRow N)).length + Br.length + (S.drop q).length ≤ 1000000 := by simp; omega
  obtain ⟨F, hF⟩ : ∃ F, S.take (p + 1) ++ (deadRow (midRow N) ++ (Br ++ S.drop q)) = F := ⟨_, rfl⟩
  have HF2 : Hid (hApply S N Br p = F) := by show _ = _; rw [HF.out, hF]
  go_region_with (first
    | (go_at_call 360; refine (between251_any N _ _ ba Br.length bc rfl _ (by exact hn2) (by omega) hN2).mono ?_; rintro e w2 ⟨mv, rfl, hmv, hbe2⟩; have hmv' : SV w2 mv (midRow N) := hmv; obtain ⟨ma, mc, rfl⟩ := hmv'.shape; have hk2 := (hbe2.block w.heap.size (by simp; omega)).trans hk1; have k1' : w2.cell? ⟨w.heap.size, 1, none⟩ = some (.slice ba Br.length bc) := (cells2_of hk2).2)
    | (go_at_call 345; refine (dead244_any (midRow N) _ _ (by exact hmv') (by omega)).mono ?_; rintro e w3 ⟨dv, rfl, hdo, hbe3⟩; have hdv := SV.own hdo; obtain ⟨da, dc, rfl⟩ := hdv.shape; have hk3 := (hbe3.block w.heap.size (by have := hbe2.size; simp at this ⊢; omega)).trans hk2; have k1'' : w3.cell? ⟨w.heap.size, 1, none⟩ = some (.slice ba Br.length bc) := (cells2_of hk3).2)
    | (go_at_call 267; have HC := concat4 w3 _ _ _ _ (S.take (p + 1)) (deadRow (midRow N)) Br (S.drop q) ((((show SV w1.drew _ _ from hv2).below hbe2 (Nat.le_refl _)).below hbe3 (Nat.le_refl _)).first (p + 1) (by omega)) hdv (((show SV w1.drew _ _ from hb2).below hbe2 (Nat.le_refl _)).below hbe3 (Nat.le_refl _)) ((((show SV w1.drew _ _ from hv2).below hbe2 (Nat.le_refl _)).below hbe3 (Nat.le_refl _)).rest q hq1) hsum; rw [hF] at HC; refine HC.mono ?_; clear HC; rintro e w4 ⟨rv, rfl, hro, hbe4⟩; obtain ⟨ra, rc, rfl⟩ := own_shape hro))
  all_goals
    have hbw4 : Below w.heap.size w w4 := ((hbw1.drew.trans (hbe2.mono (by simp; omega))).trans (hbe3.mono (by have := hbe2.size; simp at this; omega))).trans (hbe4.mono (by have := hbe2.size; have := hbe3.size; simp at *; omega))
    have hro' := ownsRow_mono hro (show w.heap.size ≤ w3.heap.size by have := hbe2.size; have := hbe3.size; simp at *; omega)
    clear hro hbe2 hbe3 hbe4
    go_wp2
    go_ret
    exact ⟨_, rfl, by rw [HF2.out]; exact hro', hbw4⟩
end Go.Proofs.YtgdfipmdmgkidaaGreatDoor
/- A hunk is told. -/
namespace Go.Proofs.YtgdfipmdmgkidaaGreatDoor
open Go.RowKit
def tellB (mark : ByteArray) (S : List Spot) : ByteArray := ⟨(tellL mark (rowLines S)).toArray⟩
def hTell (S N Br : List Spot) (p : Nat) : ByteArray := ((((⟨#[64]⟩ : ByteArray) ++ ⟨(Lib.decDigits (living (S.take (p + 1))).length).toArray⟩) ++ ⟨#[10]⟩) ++ tellB ⟨#[45]⟩ (midRow N)) ++ tellB ⟨#[43]⟩ Br
structure Small (S : List Spot) : Prop where
  len : S.length ≤ 100000
  line : ∀ l ∈ rowLines S, l.size ≤ 1000
theorem tellL_small (mark : ByteArray) (hm : mark.size ≤ 10) (L : List ByteArray) (h : ∀ l ∈ L, l.size ≤ 1000) : (tellL mark L).length ≤ L.length * 1012 := by
  induction L with
  | nil => simp [tellL]
  | cons l L ih =>
    have h1 := ih (fun x hx => h x (List.mem_cons_of_mem _ hx))
    have h2 := h l List.mem_cons_self
    have e : tellL mark (l :: L) = tlB mark l ++ tellL mark L := by simp [tellL]
    have e1 : mark.data.toList.length = mark.size := Array.length_toList
    have e2 : l.data.toList.length = l.size := Array.length_toList
    have h3 : (tlB mark l).length ≤ 1012 := by
      unfold tlB
      split <;> simp only [List.length_append, e1, e2, List.length_nil, List.length_cons] <;> omega
    rw [e, List.length_append, List.length_cons]
    omega
theorem dec_size (n : Nat) (h : n < 100) : (⟨(Lib.decDigits n).toArray⟩ : ByteArray).size ≤ 2 := by
  have h2 : ∀ n, n < 100 → (Lib.decDigits n).length ≤ 2 := by decide +kernel
  exact h2 n h
theorem tellB_size (mark : ByteArray) (S : List Spot) (hm : mark.size ≤ 10) (hs : Small S) : (tellB mark S).size ≤ 200000000 := by
  have h1 := tellL_small mark hm (rowLines S) hs.line
  have h2 := rowLines_len S
  have h3 := hs.len
  show (tellL mark (rowLines S)).length ≤ _
  omega
theorem tellLines240_small (mark : ByteArray) (S : List Spot) (v0 : Value) (w : World) (hv : SV w v0 S) (hm : mark.size ≤ 10) (hs : Small S) :
    Calls Tryz.prog 338 #[.string mark, v0] w fun e w' => e = .returned (.string (tellB mark S)) ∧ Below w.heap.size w w' := by
  have h1 := tellL_small mark hm (rowLines S) hs.line
  have h2 := rowLines_len S
  have h3 := hs.len
  exact tellLines240_any mark S v0 w hv (by omega) hm (by omega) (fun l hl => by have := hs.line l hl; omega)
theorem htell249_any (S N Br : List Spot) (t : Spot) (p : Nat) (hN : N[0]? = some t) (hp : idxS S t = some p) (hpl : p + 1 ≤ S.length) (hN2 : 2 ≤ N.length) (nv bv v0 : Value) (w : World) (hn : SV w nv N) (hb : SV w bv Br) (hv : SV w v0 S) (hS : S.length ≤ 100000)
    (hsm : Small (midRow N)) (hsb : Small Br) (hNl : N.length ≤ 100000) (hliv : (living (S.take (p + 1))).length < 100) :
    Calls Tryz.prog 361 #[.agg #[nv, bv], v0] w fun e w' => e = .returned (.string (hTell S N Br p)) ∧ Below w.heap.size w w' := by
  obtain ⟨na, nc, rfl⟩ := hn.shape
  obtain ⟨ba, bc, rfl⟩ := hb.shape
  obtain ⟨b, o, cap, rfl, hcap⟩ : ∃ b o cap, v0 = .slice (some ⟨b, o, none⟩) S.length cap ∧ S.length ≤ cap := by
    rcases hv with ⟨_, rfl⟩ | ⟨b, o, cap, rfl, hc, _⟩
    · rw [List.length_nil] at hpl; omega
    · exact ⟨b, o, cap, rfl, hc⟩
  have hb0 : Below w.heap.size w (w.alloc (.cells #[.slice na N.length nc, .slice ba Br.length bc] 327)) := (Below.refl _ _).alloc (Nat.le_refl _) _
  have hk0 := (MapKept.heap_alloc w (.cells #[.slice na N.length nc, .slice ba Br.length bc] 327)).1
  have hs0 : (w.alloc (.cells #[.slice na N.length nc, .slice ba Br.length bc] 327)).heap.size = w.heap.size + 1 := by simp
  have HP : Hid (Calls Tryz.prog 362 #[.agg #[.slice na N.length nc, .slice ba Br.length bc], .slice (some ⟨b, o, none⟩) S.length cap] (w.alloc (.cells #[.slice na N.length nc, .slice ba Br.length bc] 327)) fun e w' => e = .returned (.int .i64 (p : Int)) ∧ Below (w.alloc (.cells #[.slice na N.length nc, .slice ba Br.length bc] 327)).heap.size (w.alloc (.cells #[.slice na N.length nc, .slice ba Br.length bc] 327)) w') := by
    have h := place250_any N S t hN _ _ _ ba Br.length bc rfl _ (hn.below hb0 (Nat.le_refl _)) (hv.below hb0 (Nat.le_refl _)) (by omega)
    rw [hp] at h
    exact h
  clear hp hN
  have hn1 := hn.below hb0 (Nat.le_refl _)
  have hb1 := hb.below hb0 (Nat.le_refl _)
  have hv1 := hv.below hb0 (Nat.le_refl _)
  clear hn hb hv
  have hp0 : (0 : Int) ≤ (p : Int) + 1 := by omega
  have hp1 : (p : Int) + 1 ≤ (cap : Int) := by omega
  have hp2 : p + 1 ≤ cap := by omega
  go_enter Tryz.func361, Tryz.ntmps361
  go_wp2_with fail
  generalize w.alloc (.cells #[.slice na N.length nc, .slice ba Br.length bc] 327) = wa at *
  refine HP.out.mono ?_
  rintro e w1 ⟨rfl, hbe1⟩
  clear HP
  have hn2 := hn1.below hbe1 (Nat.le_refl _)
  have hb2 := hb1.below hbe1 (Nat.le_refl _)
  have hv2 := hv1.below hbe1 (Nat.le_refl _)
  have hk1 := (hbe1.block w.heap.size (by omega)).trans hk0
  have hbw1 : Below w.heap.size w w1 := hb0.trans (hbe1.mono (by omega))
  have hs1 := hbe1.size
  obtain ⟨k0, k1⟩ := cells2_of hk1
  clear hn1 hb1 hv1 hk0 hb0 hbe1
  have HL : Hid (Calls Tryz.prog 237 #[.slice (some ⟨b, o, none⟩) (p + 1) cap] w1 fun e w' => ∃ v, e = .returned v ∧ w'.ownsRow w1.heap.size 3 1 v (living (S.take (p + 1))).length (nats (living (S.take (p + 1)))) ∧ Below w1.heap.size w1 w') :=
    living174_any (S.take (p + 1)) _ w1 (hv2.first (p + 1) hpl) (by simp; omega)
  go_wp2_with fail
  refine HL.out.mono ?_
  rintro e w2 ⟨lv, rfl, hlo, hbe2⟩
  clear HL
  obtain ⟨n, hn⟩ : ∃ n, (living (S.take (p + 1))).length = n := ⟨_, rfl⟩
  rw [hn] at hlo hliv
  have HNL := hid hn
  clear hn
  obtain ⟨la, lc, rfl⟩ := own_shape hlo
  clear hlo
  have hn3 := hn2.below hbe2 (Nat.le_refl _)
  have hb3 := hb2.below hbe2 (Nat.le_refl _)
  have hk2 := (hbe2.block w.heap.size (by omega)).trans hk1
  have hbw2 : Below w.heap.size w w2 := hbw1.trans (hbe2.mono (by omega))
  have hs2 := hbe2.size
  obtain ⟨k0', k1'⟩ := cells2_of hk2
  clear hn2 hb2 hv2 hk1 hbe2 k0 k1
  go_wp2_with fail
  refine (Tryz.strconv_Itoa_small n hliv w2).mono ?_
  rintro e w2' ⟨rfl, rfl⟩
  have hds : (⟨(Lib.decDigits n).toArray⟩ : ByteArray).size ≤ 2 := dec_size n hliv
  obtain ⟨D, hD⟩ : ∃ D : ByteArray, (⟨(Lib.decDigits n).toArray⟩ : ByteArray) = D := ⟨_, rfl⟩
  rw [hD] at hds ⊢
  have HD := hid hD
  clear hD
  have hx1 : (⟨#[64]⟩ : ByteArray).size = 1 := rfl
  have hx2 : (⟨#[10]⟩ : ByteArray).size = 1 := rfl
  have hx3 : ((⟨#[64]⟩ : ByteArray) ++ D).size ≤ 3 := by rw [ByteArray.size_append]; omega
  have hx4 : (((⟨#[64]⟩ : ByteArray) ++ D) ++ ⟨#[10]⟩).size ≤ 4 := by rw [ByteArray.size_append]; omega
  go_wp2_with fail
  obtain ⟨E, hE⟩ : ∃ E, ((⟨#[64]⟩ : ByteArray) ++ D) ++ ⟨#[10]⟩ = E := ⟨_, rfl⟩
  rw [hE] at hx4 ⊢
  have HE := hid hE
  clear hE hx3 hx2 hx1
  have hy1 := tellB_size ⟨#[45]⟩ (midRow N) (by decide) hsm
  have hy2 := tellB_size ⟨#[43]⟩ Br (by decide) hsb
  obtain ⟨T1, hT1⟩ : ∃ T1, tellB ⟨#[45]⟩ (midRow N) = T1 := ⟨_, rfl⟩
  obtain ⟨T2, hT2⟩ : ∃ T2, tellB ⟨#[43]⟩ Br = T2 := ⟨_, rfl⟩
  rw [hT1] at hy1
  rw [hT2] at hy2
  have hz1 : ¬ (9223372036854775807 < (E.size : Int) + (T1.size : Int)) := by omega
  have hz2 : (E ++ T1).size = E.size + T1.size := ByteArray.size_append
  have hz3 : ¬ (9223372036854775807 < (E.size : Int) + (T1.size : Int) + (T2.size : Int)) := by omega
  have hz4 : ¬ (9223372036854775807 < ((E ++ T1).size : Int) + (T2.size : Int)) := by omega
  have hmid : Hid (midRow N = (N.take (N.length - 1)).drop 1) := rfl
  go_region_with (first
    | (go_at_call 360; refine (between251_any N _ _ ba Br.length bc rfl _ (by exact hn3) (by omega) hN2).mono ?_; rintro e w3 ⟨mv, rfl, hmv, hbe3⟩; have hmv' : SV w3 mv (midRow N) := hmv; obtain ⟨ma, mc, rfl⟩ := hmv'.shape; have hk3 := (hbe3.block w.heap.size (by simp; omega)).trans hk2; have k3' : w3.cell? ⟨w.heap.size, 1, none⟩ = some (.slice ba Br.length bc) := (cells2_of hk3).2)
    | (go_at_call_of 338 (Value.string (⟨#[45]⟩ : ByteArray)); refine (tellLines240_small ⟨#[45]⟩ (midRow N) _ _ (by exact hmv') (by decide) hsm).mono ?_; rw [hT1]; rintro e w4 ⟨rfl, hbe4⟩; have hk4 := (hbe4.block w.heap.size (by have := hbe3.size; simp at this ⊢; omega)).trans hk3; have k4' : w4.cell? ⟨w.heap.size, 1, none⟩ = some (.slice ba Br.length bc) := (cells2_of hk4).2)
    | (go_at_call_of 338 (Value.string (⟨#[43]⟩ : ByteArray)); refine (tellLines240_small ⟨#[43]⟩ Br _ _ (((show SV w2'.drew _ _ from hb3).below hbe3 (Nat.le_refl _)).below hbe4 (Nat.le_refl _)) (by decide) hsb).mono ?_; rw [hT2]; rintro e w5 ⟨rfl, hbe5⟩))
  all_goals
    have hbw5 : Below w.heap.size w w5 := ((hbw2.drew.trans (hbe3.mono (by simp; omega))).trans (hbe4.mono (by have := hbe3.size; simp at this; omega))).trans (hbe5.mono (by have := hbe3.size; have := hbe4.size; simp at *; omega))
    clear hbe3 hbe4 hbe5
    go_wp2
    go_ret
    exact ⟨by unfold hTell; rw [HNL.out, HD.out, hT1, hT2, HE.out]; rfl, hbw5⟩
end Go.Proofs.YtgdfipmdmgkidaaGreatDoor
