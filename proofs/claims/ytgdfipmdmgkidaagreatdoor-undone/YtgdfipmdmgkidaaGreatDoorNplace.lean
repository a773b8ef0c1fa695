/- Where a patch stands; may it leave. -/
import Derived.Test.YtgdfipmdmgkidaaGreatDoorNneed
import Derived.Laws.BytesArg
namespace Go.Proofs.YtgdfipmdmgkidaaGreatDoor
open Go.RowKit

set_option maxRecDepth 100000 in
theorem place188_any (P : PM) (i : Pid) (ib : Nat) (w : World) (hcv : ∃ a n c, P.cv = .slice a n c) (hi : w.heap[ib]? = some (.cells #[.int .u8 i.a, .int .u8 i.b, .int .u8 i.c, .int .u8 i.d] 113 (0, 0))) :
    Calls Tryz.prog 188 #[pmV P, .pointer (some ⟨ib, 0, none⟩)] w fun e w' => e = .returned (.bool (decide (P.id = i))) ∧ Below w.heap.size w w' := by
  obtain ⟨ca, cn, cc, hcv⟩ := hcv
  have hib := (Array.getElem?_eq_some_iff.1 hi).1
  obtain ⟨w1, hw1⟩ : ∃ w1, w1 = w.alloc (.cells #[.int .u8 P.id.a, .int .u8 P.id.b, .int .u8 P.id.c, .int .u8 P.id.d, .slice ca cn cc] 149) := ⟨_, rfl⟩
  have hb1 : Below w.heap.size w w1 := by rw [hw1]; exact (Below.refl _ _).alloc (Nat.le_refl _) _
  have hk1 := (MapKept.heap_alloc w (.cells #[.int .u8 P.id.a, .int .u8 P.id.b, .int .u8 P.id.c, .int .u8 P.id.d, .slice ca cn cc] 149)).1
  rw [← hw1] at hk1
  obtain ⟨p0, p1, p2, p3, _⟩ := cells5_of hk1
  obtain ⟨i0, i1, i2, i3⟩ := cells4_at ((hb1.block ib hib).trans hi)
  have hq := run_eql_id P.id i
  clear hk1 hi
  unfold pmV
  rw [hcv]
  subst hw1
  go_enter Tryz.func188, Tryz.ntmps188
  go_wp2
  go_ret
  exact ⟨rfl, hb1⟩
set_option maxRecDepth 100000 in
theorem drop192_any (P : PM) (i : Pid) (ib : Nat) (w : World) (hcv : ∃ a n c, P.cv = .slice a n c) (hi : w.heap[ib]? = some (.cells #[.int .u8 i.a, .int .u8 i.b, .int .u8 i.c, .int .u8 i.d] 113 (0, 0))) :
    Calls Tryz.prog 192 #[pmV P, .pointer (some ⟨ib, 0, none⟩)] w fun e w' => e = .returned (.bool (decide (P.id = i))) ∧ Below w.heap.size w w' := by
  obtain ⟨ca, cn, cc, hcv⟩ := hcv
  have hib := (Array.getElem?_eq_some_iff.1 hi).1
  obtain ⟨w1, hw1⟩ : ∃ w1, w1 = w.alloc (.cells #[.int .u8 P.id.a, .int .u8 P.id.b, .int .u8 P.id.c, .int .u8 P.id.d, .slice ca cn cc] 149) := ⟨_, rfl⟩
  have hb1 : Below w.heap.size w w1 := by rw [hw1]; exact (Below.refl _ _).alloc (Nat.le_refl _) _
  have hk1 := (MapKept.heap_alloc w (.cells #[.int .u8 P.id.a, .int .u8 P.id.b, .int .u8 P.id.c, .int .u8 P.id.d, .slice ca cn cc] 149)).1
  rw [← hw1] at hk1
  obtain ⟨p0, p1, p2, p3, _⟩ := cells5_of hk1
  obtain ⟨i0, i1, i2, i3⟩ := cells4_at ((hb1.block ib hib).trans hi)
  have hq := run_eql_id P.id i
  clear hk1 hi
  unfold pmV
  rw [hcv]
  subst hw1
  go_enter Tryz.func192, Tryz.ntmps192
  go_wp2
  go_ret
  exact ⟨rfl, hb1⟩

theorem PV.cv {w : World} {pv : Value} {Ps : List PM} (h : PV w pv Ps) {P : PM} (hP : P ∈ Ps) : CV w P.cv P.Cs := by
  obtain ⟨_, _, _, hc⟩ := h
  obtain ⟨k, hk⟩ := List.mem_iff_getElem?.1 hP
  obtain ⟨_, _, _, _, _, _, _, _, _, h⟩ := hc k P hk
  exact h
theorem CV.cvS {w : World} {v : Value} {Cs : List (ByteArray × ChM)} (h : CV w v Cs) : ∃ a n c, v = .slice a n c := by
  obtain ⟨a, c, rfl, _⟩ := h
  exact ⟨a, _, c, rfl⟩

set_option maxRecDepth 100000 in
theorem place122_any (Ps : List PM) (pv : Value) (i : Pid) (rg ro : Nat) (w : World) (hp : PV w pv Ps) (hl : Ps.length ≤ 10000) (hr : w.cell? ⟨rg, ro, none⟩ = some pv) (hrg : rg < w.heap.size) :
    Calls Tryz.prog 122 #[.pointer (some ⟨rg, ro, none⟩), .agg #[.int .u8 i.a, .int .u8 i.b, .int .u8 i.c, .int .u8 i.d]] w fun e w' => e = .returned (.int .i64 (idxInt (Ps.findIdx? fun P => decide (P.id = i)))) ∧ Below w.heap.size w w' := by
  obtain ⟨w1, hw1⟩ : ∃ w1, w1 = w.alloc (.cells #[.int .u8 i.a, .int .u8 i.b, .int .u8 i.c, .int .u8 i.d] 113) := ⟨_, rfl⟩
  have hb1 : Below w.heap.size w w1 := by rw [hw1]; exact (Below.refl _ _).alloc (Nat.le_refl _) _
  have hk1 := (MapKept.heap_alloc w (.cells #[.int .u8 i.a, .int .u8 i.b, .int .u8 i.c, .int .u8 i.d] 113)).1
  rw [← hw1] at hk1
  have hs1 : w.heap.size < w1.heap.size := by rw [hw1]; simp
  have r1 : w1.cell? ⟨rg, ro, none⟩ = some pv := (hb1.cell (p := ⟨rg, ro, none⟩) hrg).trans hr
  have HC : Hid (Calls Tryz.prog 187 #[pv, .func (.func 188) #[] #[.pointer (some ⟨w.heap.size, 0, none⟩)]] w1 fun e w' => e = .returned (.int .i64 (idxInt (Ps.findIdx? fun P => decide (P.id = i)))) ∧ Below w1.heap.size w1 w') := by
    refine idxf187_any Ps (fun P => decide (P.id = i)) 188 _ (fun _ _ => by kernel_rfl) pv w1 (hp.below hb1 (Nat.le_refl _)) (by omega) (fun P hP u hu => ?_)
    exact place188_any P i w.heap.size u (hp.cv hP).cvS ((hu.block _ hs1).trans hk1)
  obtain ⟨pa, pc, rfl, _⟩ := hp
  clear hk1 hr
  subst hw1
  go_enter Tryz.func122, Tryz.ntmps122
  go_wp2_with fail
  refine HC.out.mono ?_
  rintro e w' ⟨rfl, hb⟩
  clear HC r1
  go_wp2
  go_ret
  exact ⟨rfl, hb1.trans (hb.mono hb1.size)⟩

/-- An id, as a text. -/
def idText (i : Pid) : ByteArray := strOfNums [i.a, i.b, i.c, i.d]
set_option maxRecDepth 100000 in
theorem string115_any (i : Pid) (w : World) :
    Calls Tryz.prog 115 #[.agg #[.int .u8 i.a, .int .u8 i.b, .int .u8 i.c, .int .u8 i.d]] w fun e w' => e = .returned (.string (idText i)) ∧ Below w.heap.size w w' := by
  obtain ⟨w1, hw1⟩ : ∃ w1, w1 = w.alloc (.cells #[.int .u8 i.a, .int .u8 i.b, .int .u8 i.c, .int .u8 i.d] 113) := ⟨_, rfl⟩
  have hb1 : Below w.heap.size w w1 := by rw [hw1]; exact (Below.refl _ _).alloc (Nat.le_refl _) _
  have hk1 := (MapKept.heap_alloc w (.cells #[.int .u8 i.a, .int .u8 i.b, .int .u8 i.c, .int .u8 i.d] 113)).1
  rw [← hw1] at hk1
  obtain ⟨i0, i1, i2, i3⟩ := cells4_at hk1
  have hcv : (convert 156 9 (.slice (some ⟨w.heap.size, 0, none⟩) 4 4)).run Tryz.prog w1 = .ok (.string (idText i)) w1 := run_convert_bytes_arg w1 156 5 Tryz.underlying156 Tryz.underlying5 w.heap.size 0 4 4 [i.a, i.b, i.c, i.d] rfl (fun j hj => by
    match j, hj with
    | 0, _ => exact i0
    | 1, _ => exact i1
    | 2, _ => exact i2
    | 3, _ => exact i3) 9 Tryz.underlying9
  clear hk1
  subst hw1
  go_enter Tryz.func115, Tryz.ntmps115
  go_wp2
  go_ret
  exact ⟨rfl, hb1⟩

/-- What mayLeave answers. -/
def leaveR (Ps : List PM) (i : Pid) : ByteArray × Int := match Ps.find? fun P => decide (P.id = i) with
  | none => (⟨#[]⟩, 7)
  | some P => match Ps.find? fun Q => needsP Q P with
    | none => (⟨#[]⟩, 0)
    | some Q => (idText Q.id, 11)

/-- What is read as a patch is held against the one that leaves. -/
structure LeaveS (rg ro T b o p : Nat) (pv : Value) (Q : Pid) (qv : Value) (P : Pid) (cv : Value) (w : World) : Prop where
  q0 : w.cell? ⟨T, 0, none⟩ = some (.int .u8 Q.a)
  q1 : w.cell? ⟨T, 1, none⟩ = some (.int .u8 Q.b)
  q2 : w.cell? ⟨T, 2, none⟩ = some (.int .u8 Q.c)
  q3 : w.cell? ⟨T, 3, none⟩ = some (.int .u8 Q.d)
  q4 : w.cell? ⟨T, 4, none⟩ = some qv
  r : w.cell? ⟨rg, ro, none⟩ = some pv
  p0 : w.cell? ⟨b, o + p * 5, none⟩ = some (.int .u8 P.a)
  p1 : w.cell? ⟨b, o + p * 5 + 1, none⟩ = some (.int .u8 P.b)
  p2 : w.cell? ⟨b, o + p * 5 + 2, none⟩ = some (.int .u8 P.c)
  p3 : w.cell? ⟨b, o + p * 5 + 3, none⟩ = some (.int .u8 P.d)
  p4 : w.cell? ⟨b, o + p * 5 + 4, none⟩ = some cv

theorem find_of {α : Type} {L : List α} {p : α → Bool} {k : Nat} (h : L.findIdx? p = some k) : ∃ x, L[k]? = some x ∧ L.find? p = some x := by
  rw [List.findIdx?_eq_some_iff_getElem] at h
  obtain ⟨h1, h2, h3⟩ := h
  refine ⟨L[k], List.getElem?_eq_getElem h1, ?_⟩
  rw [List.find?_eq_some_iff_getElem]
  exact ⟨h2, k, h1, rfl, fun j hj => by have := h3 j hj; simpa using this⟩
theorem find_none_of {α : Type} {L : List α} {p : α → Bool} (h : L.findIdx? p = none) : L.find? p = none := by
  rw [List.findIdx?_eq_none_iff] at h
  rw [List.find?_eq_none]
  intro x hx
  rw [h x hx]
  simp

set_option maxRecDepth 100000 in
set_option maxHeartbeats 6400000 in
theorem leave126_any (Ps : List PM) (pv : Value) (i : Pid) (rg ro : Nat) (w : World) (hp : PV w pv Ps) (hl : Ps.length ≤ 10000) (hr : w.cell? ⟨rg, ro, none⟩ = some pv) (hrg : rg < w.heap.size) (hsm : ∀ P ∈ Ps, P.Cs.length ≤ 1000 ∧ ∀ d ∈ P.Cs, ChSmall d.2) :
    Calls Tryz.prog 126 #[.pointer (some ⟨rg, ro, none⟩), .agg #[.int .u8 i.a, .int .u8 i.b, .int .u8 i.c, .int .u8 i.d]] w fun e w' => e = .returned (.tuple #[.string (leaveR Ps i).1, .int .i64 (leaveR Ps i).2]) ∧ Below w.heap.size w w' := by
  obtain ⟨w1, hw1⟩ : ∃ w1, w1 = w.alloc (.cells #[.int .u8 i.a, .int .u8 i.b, .int .u8 i.c, .int .u8 i.d] 113) := ⟨_, rfl⟩
  have hb1 : Below w.heap.size w w1 := by rw [hw1]; exact (Below.refl _ _).alloc (Nat.le_refl _) _
  have hk1 := (MapKept.heap_alloc w (.cells #[.int .u8 i.a, .int .u8 i.b, .int .u8 i.c, .int .u8 i.d] 113)).1
  rw [← hw1] at hk1
  obtain ⟨i0, i1, i2, i3⟩ := cells4_at hk1
  have r1 : w1.cell? ⟨rg, ro, none⟩ = some pv := (hb1.cell (p := ⟨rg, ro, none⟩) hrg).trans hr
  have hrg1 : rg < w1.heap.size := Nat.lt_of_lt_of_le hrg hb1.size
  have HPV1 : Hid (PV w1 pv Ps) := hp.below hb1 (Nat.le_refl _)
  have HC : Hid (Calls Tryz.prog 122 #[.pointer (some ⟨rg, ro, none⟩), .agg #[.int .u8 i.a, .int .u8 i.b, .int .u8 i.c, .int .u8 i.d]] w1 fun e w' => e = .returned (.int .i64 (idxInt (Ps.findIdx? fun P => decide (P.id = i)))) ∧ Below w1.heap.size w1 w') := place122_any Ps pv i rg ro w1 HPV1.out hl r1 hrg1
  have HSM : Hid (∀ P ∈ Ps, P.Cs.length ≤ 1000 ∧ ∀ d ∈ P.Cs, ChSmall d.2) := hsm
  clear hk1 hr hp hsm
  go_enter Tryz.func126, Tryz.ntmps126
  go_wp2_with fail
  rw [← hw1]
  clear hw1
  go_wp2_with fail
  refine HC.out.mono ?_
  rintro e w2 ⟨rfl, hb2⟩
  clear HC i0 i1 i2 i3
  have r2 : w2.cell? ⟨rg, ro, none⟩ = some pv := (hb2.cell (p := ⟨rg, ro, none⟩) hrg1).trans r1
  have hb02 : Below w.heap.size w w2 := hb1.trans (hb2.mono hb1.size)
  cases hfi : Ps.findIdx? fun P => decide (P.id = i) with
  | none =>
    have HR : Hid (leaveR Ps i = (⟨#[]⟩, 7)) := by show _ = _; unfold leaveR; rw [find_none_of hfi]
    simp only [idxInt]
    clear hfi r1 r2
    go_wp2
    go_ret2
    exact ⟨by rw [HR.out]; rfl, hb02⟩
  | some p =>
    obtain ⟨P, hP, hfP⟩ := find_of hfi
    have hpl : p < Ps.length := (List.getElem?_eq_some_iff.1 hP).1
    have HR : Hid (leaveR Ps i = match Ps.find? fun Q => needsP Q P with | none => (⟨#[]⟩, 0) | some Q => (idText Q.id, 11)) := by show _ = _; unfold leaveR; rw [hfP]
    have HP : Hid (Ps[p]? = some P) := hP
    have HPV2 : Hid (PV w2 pv Ps) := HPV1.out.below hb2 (Nat.le_refl _)
    obtain ⟨pa, pc, rfl, _⟩ := HPV2.out
    simp only [idxInt]
    have hneg : ¬ ((p : Int) < 0) := by omega
    clear hfi hfP hP r1 hb2
    go_wp2
    go_loopw [19] (fun x wr => ∃ k : Nat, k ≤ Ps.length ∧ x = .int .i64 k ∧ Hid (∀ j (hj : j < Ps.length), j < k → needsP Ps[j] P = false) ∧ Below w2.heap.size w2 wr) (fun x _ => Ps.length - (intOf x).toNat)
    case atStart => exact ⟨0, Nat.zero_le _, rfl, (fun j _ h => by omega), Below.refl _ _⟩
    case round =>
      obtain ⟨k, hk, rfl, HN, hbw⟩ := hrel
      have hsz := hbw.size
      by_cases hlt : k < Ps.length
      · have hd : Ps[k]? = some Ps[k] := List.getElem?_eq_getElem hlt
        have hQm := List.getElem_mem hlt
        obtain ⟨Q, hQe⟩ : ∃ Q, Ps[k] = Q := ⟨_, rfl⟩
        rw [hQe] at hd hQm
        have HQE : Hid (Ps[k] = Q) := hQe
        obtain ⟨_, _, e1, hcc⟩ := HPV2.out.below hbw (Nat.le_refl _)
        cases e1
        obtain ⟨b, o, rfl, hb, d0, d1, d2, d3, d4, hcvQ⟩ := hcc k _ hd
        obtain ⟨b', o', e2, hb', p0, p1, p2, p3, p4, hcvP⟩ := hcc p _ HP.out
        cases e2
        obtain ⟨qa, qn, qc, hqv⟩ := hcvQ.cvS
        obtain ⟨pa', pn', pc', hpv'⟩ := hcvP.cvS
        clear hcc hd hQe hb'
        obtain ⟨w4, hw4⟩ : ∃ w4, w4 = wr.alloc (.cells #[.int .u8 Q.id.a, .int .u8 Q.id.b, .int .u8 Q.id.c, .int .u8 Q.id.d, .slice qa qn qc] 149) := ⟨_, rfl⟩
        have hb4 : Below wr.heap.size wr w4 := by rw [hw4]; exact (Below.refl _ _).alloc (Nat.le_refl _) _
        have hk4 := (MapKept.heap_alloc wr (.cells #[.int .u8 Q.id.a, .int .u8 Q.id.b, .int .u8 Q.id.c, .int .u8 Q.id.d, .slice qa qn qc] 149)).1
        rw [← hw4] at hk4
        have hs4 : wr.heap.size < w4.heap.size := by rw [hw4]; simp
        obtain ⟨q0, q1, q2, q3, q4⟩ := cells5_of hk4
        have hrgw : rg < wr.heap.size := by have := hb02.size; omega
        have hc4 : ∀ x, w4.cell? ⟨b, x, none⟩ = wr.cell? ⟨b, x, none⟩ := fun x => hb4.cell (p := ⟨b, x, none⟩) hb.lt
        have hrw : wr.cell? ⟨rg, ro, none⟩ = some (.slice (some ⟨b, o, none⟩) Ps.length pc) := (hbw.cell (p := ⟨rg, ro, none⟩) (by show rg < w2.heap.size; have := hb02.size; omega)).trans r2
        rw [hqv] at d4
        rw [hpv'] at p4
        have hS4 : LeaveS rg ro wr.heap.size b o p (.slice (some ⟨b, o, none⟩) Ps.length pc) Q.id (.slice qa qn qc) P.id (.slice pa' pn' pc') w4.drew :=
          ⟨q0, q1, q2, q3, q4, (hb4.cell (p := ⟨rg, ro, none⟩) hrgw).trans hrw, (hc4 _).trans p0, (hc4 _).trans p1, (hc4 _).trans p2, (hc4 _).trans p3, (hc4 _).trans p4⟩
        obtain ⟨hlQ, hsQ⟩ := HSM.out Q hQm
        obtain ⟨hlP, hsP⟩ := HSM.out P (List.mem_of_getElem? HP.out)
        have HNC : Hid (Calls Tryz.prog 121 #[.agg #[.int .u8 Q.id.a, .int .u8 Q.id.b, .int .u8 Q.id.c, .int .u8 Q.id.d, .slice qa qn qc], .agg #[.int .u8 P.id.a, .int .u8 P.id.b, .int .u8 P.id.c, .int .u8 P.id.d, .slice pa' pn' pc']] w4.drew fun e w' => e = .returned (.bool (needsP Q P)) ∧ Below w4.heap.size w4 w') := by
          have hbd : Below wr.heap.size wr w4.drew := hb4.trans ((Below.refl _ w4).drew)
          have := needs121_any Q P w4.drew (hcvQ.below hbd (Nat.le_refl _)) hsQ (hcvP.below hbd (Nat.le_refl _)) hsP hlQ hlP
          unfold pmV at this
          rw [hqv, hpv'] at this
          exact this.mono fun e w' ⟨h1, h2⟩ => ⟨h1, (Below.refl _ w4).drew.trans h2⟩
        have hb24 : Below w2.heap.size w2 w4 := hbw.trans (hb4.mono hsz)
        have hj1 : (p : Int) < (Ps.length : Int) := by omega
        clear hqv hpv' p0 p1 p2 p3 p4 hc4 hrw hcvQ hcvP hb
        go_wp2_with fail
        rw [← hw4]
        clear hw4 d0 d1 d2 d3 d4 r2
        refine wp_region_Z (LeaveS rg ro wr.heap.size b o p (.slice (some ⟨b, o, none⟩) Ps.length pc) Q.id (.slice qa qn qc) P.id (.slice pa' pn' pc')) 99 (by kernel_rfl) ?_
        refine wpZ_take 0 _ (v := ?v0) rfl (by kernel_rfl) (by kernel_rfl) (by kernel_rfl) (fun _ _ _ h => h) (by kernel_rfl) (by decide) hS4 rfl (fun w0 hS0 => ?hy) ?_
        case hy =>
          obtain ⟨q0, q1, q2, q3, q4, r, p0, p1, p2, p3, p4⟩ := hS0
          go_simp
          with_reducible rfl
        simp only [Act.put, List.setIfInBounds_toArray]
        refine wpZ_take 1 _ (v := ?v1) rfl (by kernel_rfl) (by kernel_rfl) (by kernel_rfl) (fun _ _ _ h => h) (by kernel_rfl) (by decide) hS4 rfl (fun w0 hS0 => ?hy) ?_
        case hy =>
          obtain ⟨q0, q1, q2, q3, q4, r, p0, p1, p2, p3, p4⟩ := hS0
          go_simp
          with_reducible rfl
        simp only [Act.put]
        refine wpZ_take 2 _ (v := ?v2) rfl (by kernel_rfl) (by kernel_rfl) (by kernel_rfl) (fun _ _ _ h => h) (by kernel_rfl) (by decide) hS4 rfl (fun w0 hS0 => ?hy) ?_
        case hy =>
          obtain ⟨q0, q1, q2, q3, q4, r, p0, p1, p2, p3, p4⟩ := hS0
          go_simp
          with_reducible rfl
        simp only [Act.put]
        refine wpZ_take 3 _ (v := ?v3) rfl (by kernel_rfl) (by kernel_rfl) (by kernel_rfl) (fun _ _ _ h => h) (by kernel_rfl) (by decide) hS4 rfl (fun w0 hS0 => ?hy) ?_
        case hy =>
          obtain ⟨q0, q1, q2, q3, q4, r, p0, p1, p2, p3, p4⟩ := hS0
          go_simp
          with_reducible rfl
        simp only [Act.put]
        refine wpZ_take 4 _ (v := ?v4) rfl (by kernel_rfl) (by kernel_rfl) (by kernel_rfl) (fun _ _ _ h => h) (by kernel_rfl) (by decide) hS4 rfl (fun w0 hS0 => ?hy) ?_
        case hy =>
          obtain ⟨q0, q1, q2, q3, q4, r, p0, p1, p2, p3, p4⟩ := hS0
          go_simp
          with_reducible rfl
        simp only [Act.put]
        refine wpZ_take 5 _ (v := ?v5) rfl (by kernel_rfl) (by kernel_rfl) (by kernel_rfl) (fun _ _ _ h => h) (by kernel_rfl) (by decide) hS4 rfl (fun w0 hS0 => ?hy) ?_
        case hy =>
          obtain ⟨q0, q1, q2, q3, q4, r, p0, p1, p2, p3, p4⟩ := hS0
          go_simp
          with_reducible rfl
        simp only [Act.put]
        refine wpZ_take 6 _ (v := ?v6) rfl (by kernel_rfl) (by kernel_rfl) (by kernel_rfl) (fun _ _ _ h => h) (by kernel_rfl) (by decide) hS4 rfl (fun w0 hS0 => ?hy) ?_
        case hy =>
          obtain ⟨q0, q1, q2, q3, q4, r, p0, p1, p2, p3, p4⟩ := hS0
          go_simp
          with_reducible rfl
        simp only [Act.put]
        refine wpZ_take 7 _ (v := ?v7) rfl (by kernel_rfl) (by kernel_rfl) (by kernel_rfl) (fun _ _ _ h => h) (by kernel_rfl) (by decide) hS4 rfl (fun w0 hS0 => ?hy) ?_
        case hy =>
          obtain ⟨q0, q1, q2, q3, q4, r, p0, p1, p2, p3, p4⟩ := hS0
          go_simp
          with_reducible rfl
        simp only [Act.put]
        refine wpZ_one 8 _ rfl (by kernel_rfl) (fun KK hK => ?_)
        go_simp
        refine HNC.out.mono ?_
        rintro e w5 ⟨rfl, hb5⟩
        clear HNC
        dsimp only
        have hb25 : Below w2.heap.size w2 w5 := hb24.trans (hb5.mono hb24.size)
        obtain ⟨t0, t1, t2, t3, t4⟩ := cells5_of ((hb5.block _ hs4).trans hk4)
        have hS5 : LeaveS rg ro wr.heap.size b o p (.slice (some ⟨b, o, none⟩) Ps.length pc) Q.id (.slice qa qn qc) P.id (.slice pa' pn' pc') w5 := by
          obtain ⟨_, _, _, _, _, r, p0, p1, p2, p3, p4⟩ := hS4
          have hbb : b < w4.heap.size := by
            rcases Nat.lt_or_ge b w4.heap.size with h | h
            · exact h
            · have p0' : w4.cell? ⟨b, o + p * 5, none⟩ = some (.int .u8 P.id.a) := p0
              rw [World.cell?, Array.getElem?_eq_none h] at p0'
              cases p0'
          have hc5 : ∀ x, w5.cell? ⟨b, x, none⟩ = w4.cell? ⟨b, x, none⟩ := fun x => hb5.cell (p := ⟨b, x, none⟩) hbb
          exact ⟨t0, t1, t2, t3, t4, (hb5.cell (p := ⟨rg, ro, none⟩) (by show rg < w4.heap.size; omega)).trans r, (hc5 _).trans p0, (hc5 _).trans p1, (hc5 _).trans p2, (hc5 _).trans p3, (hc5 _).trans p4⟩
        refine hK.out _ _ (fun _ => hS5) ?_
        clear hK
        refine wpZ_done (by kernel_rfl) ?_ _
        clear hS4 hS5 hk4 q0 q1 q2 q3 q4
        obtain ⟨bn, hbn⟩ : ∃ b, needsP Q P = b := ⟨_, rfl⟩
        rw [hbn]
        have HBN : Hid (needsP Q P = bn) := hbn
        clear hbn
        cases bn
        · clear t0 t1 t2 t3 t4
          go_wp2
          go_roundw
          case rel =>
            refine ⟨k + 1, by omega, by go_num, fun j hj h => ?_, hb25⟩
            by_cases e : j = k
            · subst e; rw [HQE.out]; exact HBN.out
            · exact HN.out j hj (by omega)
          case measure => simp [intOf]; omega
        · have HSC := string115_any Q.id w5
          have HZ : Hid (leaveR Ps i = (idText Q.id, 11)) := by
            show _ = _
            rw [HR.out]
            have : (Ps.find? fun Q => needsP Q P) = some Q := by
              rw [List.find?_eq_some_iff_getElem]
              exact ⟨HBN.out, k, hlt, HQE.out, fun j hj => by rw [HN.out j (by omega) hj]; rfl⟩
            rw [this]
          go_wp2_with fail
          refine HSC.mono ?_
          rintro e w6 ⟨rfl, hb6⟩
          clear HSC t0 t1 t2 t3 t4
          go_wp2
          go_ret2
          exact ⟨by rw [HZ.out]; rfl, hb02.trans ((hb25.trans (hb6.mono hb25.size)).mono hb02.size)⟩
      · obtain rfl : k = Ps.length := by omega
        have HZ : Hid (leaveR Ps i = (⟨#[]⟩, 0)) := by
          show _ = _
          rw [HR.out]
          have : (Ps.find? fun Q => needsP Q P) = none := by
            rw [List.find?_eq_none]
            intro x hx
            obtain ⟨j, hj, rfl⟩ := List.getElem_of_mem hx
            rw [HN.out j hj hj]
            simp
          rw [this]
        go_wp2
        go_ret2
        exact ⟨by rw [HZ.out]; rfl, hb02.trans (hbw.mono hb02.size)⟩
end Go.Proofs.YtgdfipmdmgkidaaGreatDoor
