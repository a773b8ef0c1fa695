/- Where a patch stands; may it leave. -/
import Derived.Test.YtgdfipmdmgkidaaGreatDoorNneed
import Derived.Laws.BytesArg
import Derived.Test.YtgdfipmdmgkidaaGreatDoorProw
namespace Go.Proofs.YtgdfipmdmgkidaaGreatDoor
open Go.RowKit

set_option maxRecDepth 100000 in
theorem place188_any (P : PM) (i : Pid) (ib : Nat) (w : World) (hcv : ∃ a n c, P.cv = .slice a n c) (hi : w.heap[ib]? = some (.cells #[.int .u8 i.a, .int .u8 i.b, .int .u8 i.c, .int .u8 i.d] 113 (0, 0))) :
    Calls Tryz.prog 188 #[pmV P, .pointer (some ⟨ib, 0, none⟩)] w fun e w' => e = .returned (.bool (decide (P.id = i))) ∧ Below w.heap.size w w' := by
  obtain ⟨ca, cn, cc, hcv⟩ := hcv
  have hib := (Array.getElem?_eq_some_iff.1 hi).1
  obtain ⟨w1, hw1⟩ : ∃ w1, w1 = w.alloc (.cells #[.int .u8 P.id.a, .int .u8 P.id.b, .int .u8 P.id.c, .int .u8 P.id.d, .slice ca cn cc] 149) := ⟨_, rfl⟩
  have hb1 : Below w.heap.size w w1 := by rw [hw1]; exact (Below.refl _ _).alloc (Nat.le_refl _) _
  have hk1 := (MapKept.heap_alloc w (.cells #[.int .u8 P.id.a, .int .u8 P.id.b, .int .u8 P.id.c, .int .u8 P.id.d, .slice ca cn cc] 149)).1
  rw [← hw1] at hk1
  obtain ⟨p0, p1, p2, p3, _⟩ := cells5_of hk1
  obtain ⟨i0, i1, i2, i3⟩ := cells4_at ((hb1.block ib hib).trans hi)
  have hq := run_eql_id P.id i
  clear hk1 hi
  unfold pmV
  rw [hcv]
  subst hw1
  go_enter Tryz.func188, Tryz.ntmps188
  go_wp2
  go_ret
  exact ⟨rfl, hb1⟩
set_option maxRecDepth 100000 in
theorem drop192_any (P : PM) (i : Pid) (ib : Nat) (w : World) (hcv : ∃ a n c, P.cv = .slice a n c) (hi : w.heap[ib]? = some (.cells #[.int .u8 i.a, .int .u8 i.b, .int .u8 i.c, .int .u8 i.d] 113 (0, 0))) :
    Calls Tryz.prog 192 #[pmV P, .pointer (some ⟨ib, 0, none⟩)] w fun e w' => e = .returned (.bool (decide (P.id = i))) ∧ Below w.heap.size w w' := by
  obtain ⟨ca, cn, cc, hcv⟩ := hcv
  have hib := (Array.getElem?_eq_some_iff.1 hi).1
  obtain ⟨w1, hw1⟩ : ∃ w1, w1 = w.alloc (.cells #[.int .u8 P.id.a, .int .u8 P.id.b, .int .u8 P.id.c, .int .u8 P.id.d, .slice ca cn cc] 149) := ⟨_, rfl⟩
  have hb1 : Below w.heap.size w w1 := by rw [hw1]; exact (Below.refl _ _).alloc (Nat.le_refl _) _
  have hk1 := (MapKept.heap_alloc w (.cells #[.int .u8 P.id.a, .int .u8 P.id.b, .int .u8 P.id.c, .int .u8 P.id.d, .slice ca cn cc] 149)).1
  rw [← hw1] at hk1
  obtain ⟨p0, p1, p2, p3, _⟩ := cells5_of hk1
  obtain ⟨i0, i1, i2, i3⟩ := cells4_at ((hb1.block ib hib).trans hi)
  have hq := run_eql_id P.id i
  clear hk1 hi
  unfold pmV
  rw [hcv]
  subst hw1
  go_enter Tryz.func192, Tryz.ntmps192
  go_wp2
  go_ret
  exact ⟨rfl, hb1⟩

theorem PV.cv {w : World} {pv : Value} {Ps : List PM} (h : PV w pv Ps) {P : PM} (hP : P ∈ Ps) : CV w P.cv P.Cs := by
  obtain ⟨_, _, _, hc⟩ := h
  obtain ⟨k, hk⟩ := List.mem_iff_getElem?.1 hP
  obtain ⟨_, _, _, _, _, _, _, _, _, h⟩ := hc k P hk
  exact h
theorem CV.cvS {w : World} {v : Value} {Cs : List (ByteArray × ChM)} (h : CV w v Cs) : ∃ a n c, v = .slice a n c := by
  obtain ⟨a, c, rfl, _⟩ := h
  exact ⟨a, _, c, rfl⟩

set_option maxRecDepth 100000 in
theorem place122_any (Ps : List PM) (pv : Value) (i : Pid) (rg ro : Nat) (w : World) (hp : PV w pv Ps) (hl : Ps.length ≤ 10000) (hr : w.cell? ⟨rg, ro, none⟩ = some pv) (hrg : rg < w.heap.size) :
    Calls Tryz.prog 122 #[.pointer (some ⟨rg, ro, none⟩), .agg #[.int .u8 i.a, .int .u8 i.b, .int .u8 i.c, .int .u8 i.d]] w fun e w' => e = .returned (.int .i64 (idxInt (Ps.findIdx? fun P => decide (P.id = i)))) ∧ Below w.heap.size w w' := by
  obtain ⟨w1, hw1⟩ : ∃ w1, w1 = w.alloc (.cells #[.int .u8 i.a, .int .u8 i.b, .int .u8 i.c, .int .u8 i.d] 113) := ⟨_, rfl⟩
  have hb1 : Below w.heap.size w w1 := by rw [hw1]; exact (Below.refl _ _).alloc (Nat.le_refl _) _
  have hk1 := (MapKept.heap_alloc w (.cells #[.int .u8 i.a, .int .u8 i.b, .int .u8 i.c, .int .u8 i.d] 113)).1
  rw [← hw1] at hk1
  have hs1 : w.heap.size < w1.heap.size := by rw [hw1]; simp
  have r1 : w1.cell? ⟨rg, ro, none⟩ = some pv := (hb1.cell (p := ⟨rg, ro, none⟩) hrg).trans hr
  have HC : Hid (Calls Tryz.prog 187 #[pv, .func (.func 188) #[] #[.pointer (some ⟨w.heap.size, 0, none⟩)]] w1 fun e w' => e = .returned (.int .i64 (idxInt (Ps.findIdx? fun P => decide (P.id = i)))) ∧ Below w1.heap.size w1 w') := by
    refine idxf187_any Ps (fun P => decide (P.id = i)) 188 _ (fun _ _ => by kernel_rfl) pv w1 (hp.below hb1 (Nat.le_refl _)) (by omega) (fun P hP u hu => ?_)
    exact place188_any P i w.heap.size u (hp.cv hP).cvS ((hu.block _ hs1).trans hk1)
  obtain ⟨pa, pc, rfl, _⟩ := hp
  clear hk1 hr
  subst hw1
  go_enter Tryz.func122, Tryz.ntmps122
  go_wp2_with fail
  refine HC.out.mono ?_
  rintro e w' ⟨rfl, hb⟩
  clear HC r1
  go_wp2
  go_ret
  exact ⟨rfl, hb1.trans (hb.mono hb1.size)⟩

/-- An id, as a text. -/
def idText (i : Pid) : ByteArray := strOfNums [i.a, i.b, i.c, i.d]
set_option maxRecDepth 100000 in
theorem string115_any (i : Pid) (w : World) :
    Calls Tryz.prog 115 #[.agg #[.int .u8 i.a, .int .u8 i.b, .int .u8 i.c, .int .u8 i.d]] w fun e w' => e = .returned (.string (idText i)) ∧ Below w.heap.size w w' := by
  obtain ⟨w1, hw1⟩ : ∃ w1, w1 = w.alloc (.cells #[.int .u8 i.a, .int .u8 i.b, .int .u8 i.c, .int .u8 i.d] 113) := ⟨_, rfl⟩
  have hb1 : Below w.heap.size w w1 := by rw [hw1]; exact (Below.refl _ _).alloc (Nat.le_refl _) _
  have hk1 := (MapKept.heap_alloc w (.cells #[.int .u8 i.a, .int .u8 i.b, .int .u8 i.c, .int .u8 i.d] 113)).1
  rw [← hw1] at hk1
  obtain ⟨i0, i1, i2, i3⟩ := cells4_at hk1
  have hcv : (convert 156 9 (.slice (some ⟨w.heap.size, 0, none⟩) 4 4)).run Tryz.prog w1 = .ok (.string (idText i)) w1 := run_convert_bytes_arg w1 156 5 Tryz.underlying156 Tryz.underlying5 w.heap.size 0 4 4 [i.a, i.b, i.c, i.d] rfl (fun j hj => by
    match j, hj with
    | 0, _ => exact i0
    | 1, _ => exact i1
    | 2, _ => exact i2
    | 3, _ => exact i3) 9 Tryz.underlying9
  clear hk1
  subst hw1
  go_enter Tryz.func115, Tryz.ntmps115
  go_wp2
  go_ret
  exact ⟨rfl, hb1⟩

/-- What mayLeave answers. -/
def leaveR (Ps : List PM) (i : Pid) : ByteArray × Int := match Ps.find? fun P => decide (P.id = i) with
  | none => (⟨#[]⟩, 7)
  | some P => match Ps.find? fun Q => needsP Q P with
    | none => (⟨#[]⟩, 0)
    | some Q => (idText Q.id, 11)

end Go.Proofs.YtgdfipmdmgkidaaGreatDoor

/- A patch leaves: slices.DeleteFunc on the list of patches, drop, unrecord. -/
namespace Go.Proofs.YtgdfipmdmgkidaaGreatDoor
open Go.RowKit

theorem pm_len (S : List PM) : (pmCells S).length = S.length * 5 := by
  induction S with
  | nil => rfl
  | cons x S ih => simp only [pmCells, List.flatMap_cons, List.length_append, List.length_cons, List.length_nil] at *; rw [ih]; omega
theorem pm_app (S T : List PM) : pmCells (S ++ T) = pmCells S ++ pmCells T := List.flatMap_append
theorem pm_take (L : List PM) (i : Nat) (hi : i ≤ L.length) : (pmCells L).take (i * 5) = pmCells (L.take i) := by
  conv => lhs; rw [← List.take_append_drop i L, pm_app]
  rw [List.take_append_of_le_length (by rw [pm_len, List.length_take]; omega), List.take_of_length_le (by rw [pm_len, List.length_take]; omega)]
theorem pm_set5 (L : List PM) (i : Nat) (s : PM) (hi : i < L.length) : pmCells (L.set i s) = (((((pmCells L).set (i * 5) (.int .u8 s.id.a)).set (i * 5 + 1) (.int .u8 s.id.b)).set (i * 5 + 2) (.int .u8 s.id.c)).set (i * 5 + 3) (.int .u8 s.id.d)).set (i * 5 + 4) s.cv := by
  induction L generalizing i with
  | nil => simp at hi
  | cons x L ih =>
    cases i with
    | zero => simp [pmCells]
    | succ i =>
      have := ih i (by simpa using hi)
      simp only [List.set_cons_succ]
      obtain ⟨X, hX⟩ : ∃ X : List Value, X = [.int .u8 x.id.a, .int .u8 x.id.b, .int .u8 x.id.c, .int .u8 x.id.d, x.cv] := ⟨_, rfl⟩
      have hXl : X.length = 5 := by rw [hX]; rfl
      have e : ∀ (u : Value) (T : List Value) (j : Nat), (X ++ T).set ((i + 1) * 5 + j) u = X ++ T.set (i * 5 + j) u := fun u T j => by
        rw [List.set_append_right _ _ (by omega)]
        congr 2
        omega
      have e0 : ∀ (u : Value) (T : List Value), (X ++ T).set ((i + 1) * 5) u = X ++ T.set (i * 5) u := fun u T => e u T 0
      have c1 : pmCells (x :: L.set i s) = X ++ pmCells (L.set i s) := by rw [hX]; rfl
      have c2 : pmCells (x :: L) = X ++ pmCells L := by rw [hX]; rfl
      rw [c1, c2, this, e0, e, e, e, e]
theorem own_set5 {w w1 w2 w3 w4 w5 : World} {base g cap : Nat} {L : List PM} (h : w.ownsRow base 149 5 (.slice (some ⟨g, 0, none⟩) L.length cap) L.length (pmCells L)) {i : Nat} (hi : i < L.length) (s : PM)
    (e1 : w1 = w.setCell ⟨g, i * 5, none⟩ (.int .u8 s.id.a)) (e2 : w2 = w1.setCell ⟨g, i * 5 + 1, none⟩ (.int .u8 s.id.b)) (e3 : w3 = w2.setCell ⟨g, i * 5 + 2, none⟩ (.int .u8 s.id.c)) (e4 : w4 = w3.setCell ⟨g, i * 5 + 3, none⟩ (.int .u8 s.id.d)) (e5 : w5 = w4.setCell ⟨g, i * 5 + 4, none⟩ s.cv) :
    w5.ownsRow base 149 5 (.slice (some ⟨g, 0, none⟩) L.length cap) L.length (pmCells (L.set i s)) ∧ w.grownBy w5 (some g) := by
  obtain ⟨h1, k1⟩ := h.stored (i * 5) (.int .u8 s.id.a)
  rw [← e1] at h1 k1
  obtain ⟨h2, k2⟩ := h1.stored (i * 5 + 1) (.int .u8 s.id.b)
  rw [← e2] at h2 k2
  obtain ⟨h3, k3⟩ := h2.stored (i * 5 + 2) (.int .u8 s.id.c)
  rw [← e3] at h3 k3
  obtain ⟨h4, k4⟩ := h3.stored (i * 5 + 3) (.int .u8 s.id.d)
  rw [← e4] at h4 k4
  obtain ⟨h5, k5⟩ := h4.stored (i * 5 + 4) s.cv
  rw [← e5] at h5 k5
  rw [pm_set5 L i s hi]
  exact ⟨h5, grown_trans k1 (grown_trans k2 (grown_trans k3 (grown_trans k4 k5)))⟩
theorem pm_at {w : World} {base g cap : Nat} {L : List PM} (h : w.ownsRow base 149 5 (.slice (some ⟨g, 0, none⟩) L.length cap) L.length (pmCells L)) {k : Nat} {s : PM} (hk : L[k]? = some s) :
    w.cell? ⟨g, k * 5, none⟩ = some (.int .u8 s.id.a) ∧ w.cell? ⟨g, k * 5 + 1, none⟩ = some (.int .u8 s.id.b) ∧ w.cell? ⟨g, k * 5 + 2, none⟩ = some (.int .u8 s.id.c) ∧ w.cell? ⟨g, k * 5 + 3, none⟩ = some (.int .u8 s.id.d) ∧ w.cell? ⟨g, k * 5 + 4, none⟩ = some s.cv := by
  have hkl := (List.getElem?_eq_some_iff.1 hk).1
  obtain ⟨f0, f1, f2, f3, f4⟩ := pm_flat L k s hk
  refine ⟨?_, ?_, ?_, ?_, ?_⟩
  · rw [World.ownsRow.cellAt h _ (by omega), f0]
  · rw [World.ownsRow.cellAt h _ (by omega), f1]
  · rw [World.ownsRow.cellAt h _ (by omega), f2]
  · rw [World.ownsRow.cellAt h _ (by omega), f3]
  · rw [World.ownsRow.cellAt h _ (by omega), f4]
theorem grown_of {a b : World} (h : Below a.heap.size a b) (r : Option Nat) : a.grownBy b r := ⟨h.os, h.tape, h.output, h.size, fun k hk _ => h.block k hk⟩

/-- What is read and written as one patch is moved ahead. -/
structure DropS (w : World) (g base cap : Nat) (L : List PM) (vb i : Nat) (s : Pid) (cv : Value) : Prop where
  d0 : w.cell? ⟨vb, 0, none⟩ = some (.int .u8 s.a)
  d1 : w.cell? ⟨vb, 1, none⟩ = some (.int .u8 s.b)
  d2 : w.cell? ⟨vb, 2, none⟩ = some (.int .u8 s.c)
  d3 : w.cell? ⟨vb, 3, none⟩ = some (.int .u8 s.d)
  d4 : w.cell? ⟨vb, 4, none⟩ = some cv
  r0 : ∃ t, w.cell? ⟨g, i * 5, none⟩ = some (.int .u8 t)
  r1 : ∃ t, w.cell? ⟨g, i * 5 + 1, none⟩ = some (.int .u8 t)
  r2 : ∃ t, w.cell? ⟨g, i * 5 + 2, none⟩ = some (.int .u8 t)
  r3 : ∃ t, w.cell? ⟨g, i * 5 + 3, none⟩ = some (.int .u8 t)
  r4 : ∃ a n c, w.cell? ⟨g, i * 5 + 4, none⟩ = some (.slice a n c)
  fz : ∀ x, w.frozen? ⟨g, x, none⟩ = false
  own : w.ownsRow base 149 5 (.slice (some ⟨g, 0, none⟩) L.length cap) L.length (pmCells L)
theorem DropS.of {w : World} {g base cap : Nat} {L : List PM} {vb i : Nat} {s : Pid} {cv : Value} {t : PM} (ho : w.ownsRow base 149 5 (.slice (some ⟨g, 0, none⟩) L.length cap) L.length (pmCells L)) (hk : w.heap[vb]? = some (.cells #[.int .u8 s.a, .int .u8 s.b, .int .u8 s.c, .int .u8 s.d, cv] 149 (0, 0))) (ht : L[i]? = some t) (hc : ∃ a n c, t.cv = .slice a n c) : DropS w g base cap L vb i s cv := by
  obtain ⟨d0, d1, d2, d3, d4⟩ := cells5_of hk
  obtain ⟨c0, c1, c2, c3, c4⟩ := pm_at ho ht
  obtain ⟨a, n, c, hc⟩ := hc
  rw [hc] at c4
  exact ⟨d0, d1, d2, d3, d4, ⟨_, c0⟩, ⟨_, c1⟩, ⟨_, c2⟩, ⟨_, c3⟩, ⟨a, n, c, c4⟩, fun x => World.ownsRow.frozenAt ho x, ho⟩

set_option maxRecDepth 100000 in
set_option maxHeartbeats 6400000 in
theorem del191_any (S : List PM) (p : PM → Bool) (f : FuncId) (ib : Nat) (io : Obj) (ef : ∀ args w, (callFunc f args).run Tryz.prog w = .ok (.enter f args) w) (v : Value) (base : Nat) (w : World) (ho : w.ownsRow base 149 5 v S.length (pmCells S)) (hcv : ∀ P ∈ S, CV w P.cv P.Cs) (hlen : S.length ≤ 1000000) (hib : w.heap[ib]? = some io) (hio : ∀ A fz, io ≠ .cells A 149 fz)
    (hp : ∀ s ∈ S, ∀ u : World, u.heap[ib]? = some io → Calls Tryz.prog f (#[pmV s] ++ #[.pointer (some ⟨ib, 0, none⟩)]) u fun e w' => e = .returned (.bool (p s)) ∧ Below u.heap.size u w') :
    Calls Tryz.prog 191 #[v, .func (.func f) #[] #[.pointer (some ⟨ib, 0, none⟩)]] w fun e w' => ∃ v', e = .returned v' ∧ w'.ownsRow base 149 5 v' (S.filter fun s => !p s).length (pmCells (S.filter fun s => !p s)) ∧ w.grownBy w' v.ownBlock := by
  have hibl := (Array.getElem?_eq_some_iff.1 hib).1
  have HF : Hid (Calls Tryz.prog 187 #[v, .func (.func f) #[] #[.pointer (some ⟨ib, 0, none⟩)]] w fun e w' => e = .returned (.int .i64 (idxInt (S.findIdx? p))) ∧ Below w.heap.size w w') := idxf187_any S p f _ ef v w (pm_view ho hcv) hlen (fun s hs u hu => hp s hs u ((hu.block _ hibl).trans hib))
  have HP : Hid (∀ s ∈ S, ∀ u : World, u.heap[ib]? = some io → Calls Tryz.prog f (#[pmV s] ++ #[.pointer (some ⟨ib, 0, none⟩)]) u fun e w' => e = .returned (.bool (p s)) ∧ Below u.heap.size u w') := hp
  have HCV : Hid (∀ P ∈ S, ∃ a n c, P.cv = .slice a n c) := fun P hP => (hcv P hP).cvS
  have HIB : Hid (w.heap[ib]? = some io) := hib
  clear hp hcv
  cases hq : S.findIdx? p with
  | none =>
    have HQ : Hid ((S.filter fun s => !p s) = S) := keep_none hq
    rw [hq] at HF
    simp only [idxInt] at HF
    have HO : Hid (w.ownsRow base 149 5 v S.length (pmCells S)) := ho
    have HG : Hid (∀ u, Below w.heap.size w u → w.grownBy u v.ownBlock) := fun u hu => grown_of hu _
    obtain ⟨va, vn, vc, rfl⟩ : ∃ a n c, v = .slice a n c := by
      rcases ho.2 with ⟨rfl, _⟩ | ⟨g, cap, cur, rfl, _⟩
      · exact ⟨_, _, _, rfl⟩
      · exact ⟨_, _, _, rfl⟩
    clear ho hq hib
    go_enter Tryz.func191, Tryz.ntmps191
    go_wp2_with fail
    refine HF.out.mono ?_
    rintro e w1 ⟨rfl, hb1⟩
    clear HF
    go_wp2
    go_ret
    refine ⟨_, rfl, ?_, HG.out _ hb1⟩
    rw [HQ.out]
    exact own_below HO.out hb1 (Nat.le_refl _)
  | some i =>
    obtain ⟨hiS, hfirst⟩ := keepTo_first hq
    rw [hq] at HF
    simp only [idxInt] at HF
    rcases ho.2 with ⟨rfl, h0⟩ | ⟨g, cap, cur, rfl, hg0, hgc, _⟩
    · omega
    · have hgi : ib ≠ g := by
        rintro rfl
        rw [hib] at hgc
        injection hgc with e
        exact hio _ _ e
      have HO : Hid (w.ownsRow base 149 5 (.slice (some ⟨g, 0, none⟩) S.length cap) S.length (pmCells S)) := ho
      have HK1 : Hid (keepTo p S (i + 1) = S.take i) := hfirst
      clear ho hq hfirst hib hgc
      go_enter Tryz.func191, Tryz.ntmps191
      go_wp2_with fail
      refine HF.out.mono ?_
      rintro e w1 ⟨rfl, hb1⟩
      clear HF
      have HO1 : Hid (w1.ownsRow base 149 5 (.slice (some ⟨g, 0, none⟩) S.length cap) S.length (pmCells S)) := own_below HO.out hb1 (Nat.le_refl _)
      have HG1 : Hid (w.grownBy w1 (some g)) := grown_of hb1 _
      have hne : ¬ ((i : Int) = -1) := by omega
      clear HO hb1
      go_wp2
      go_loopw [5, 6] (fun a b wr => ∃ (j : Nat) (L : List PM), j ≤ S.length ∧ (keepTo p S j).length < j ∧ L.length = S.length ∧ a = .int .i64 ((keepTo p S j).length : Nat) ∧ b = .int .i64 j ∧ Hid (L.take (keepTo p S j).length = keepTo p S j ∧ L.drop j = S.drop j ∧ ∀ P ∈ L, P ∈ S) ∧ Hid (wr.ownsRow base 149 5 (.slice (some ⟨g, 0, none⟩) L.length cap) L.length (pmCells L)) ∧ Hid (w.grownBy wr (some g))) (fun _ b _ => S.length - (intOf b).toNat)
      case atStart =>
        refine ⟨i + 1, S, by omega, ?_, rfl, ?_, by go_num, ?_, HO1, HG1⟩
        · rw [HK1.out, List.length_take]; omega
        · rw [HK1.out, List.length_take, Nat.min_eq_left (by omega)]
        · exact ⟨by rw [HK1.out, List.length_take, Nat.min_eq_left (by omega)], rfl, fun _ h => h⟩
      case round =>
        clear HO1 HK1 hne HG1
        obtain ⟨j, L, hj, hkj, hL, rfl, rfl, HL, HO, HG⟩ := hrel
        obtain ⟨K, hK⟩ : ∃ K, keepTo p S j = K := ⟨_, rfl⟩
        rw [hK] at hkj HL ⊢
        by_cases hlt : j < S.length
        · obtain ⟨s, hs⟩ : ∃ s, S[j]? = some s := ⟨_, List.getElem?_eq_getElem hlt⟩
          have hLs : L[j]? = some s := by
            have h : (L.drop j)[0]? = (S.drop j)[0]? := by rw [HL.out.2.1]
            rw [List.getElem?_drop, List.getElem?_drop, Nat.add_zero, hs] at h
            exact h
          obtain ⟨c0, c1, c2, c3, c4⟩ := pm_at HO.out hLs
          obtain ⟨sa, sn, sc, hsv⟩ := HCV.out s (List.mem_of_getElem? hs)
          rw [hsv] at c4
          obtain ⟨w4, hw4⟩ : ∃ w4, w4 = wr.alloc (.cells #[.int .u8 s.id.a, .int .u8 s.id.b, .int .u8 s.id.c, .int .u8 s.id.d, .slice sa sn sc] 149) := ⟨_, rfl⟩
          have hb4 : Below wr.heap.size wr w4 := by rw [hw4]; exact (Below.refl _ _).alloc (Nat.le_refl _) _
          have hk4 := (MapKept.heap_alloc wr (.cells #[.int .u8 s.id.a, .int .u8 s.id.b, .int .u8 s.id.c, .int .u8 s.id.d, .slice sa sn sc] 149)).1
          rw [← hw4] at hk4
          have hs4 : wr.heap.size < w4.heap.size := by rw [hw4]; simp
          have hszw := HG.out.size
          have hib4 : w4.heap[ib]? = some io := (hb4.block ib (by omega)).trans ((HG.out.block ib hibl (by intro e; injection e with e; exact hgi e)).trans HIB.out)
          obtain ⟨d0, d1, d2, d3, d4⟩ := cells5_of hk4
          have HKS : Hid (keepTo p S (j + 1) = if p s then keepTo p S j else keepTo p S j ++ [s]) := keepTo_succ hs
          have hcall := HP.out s (List.mem_of_getElem? hs) w4 hib4
          unfold pmV at hcall
          rw [hsv] at hcall
          have HK4 : Hid (w4.heap[wr.heap.size]? = some (.cells #[.int .u8 s.id.a, .int .u8 s.id.b, .int .u8 s.id.c, .int .u8 s.id.d, .slice sa sn sc] 149 (0, 0))) := hk4
          have HKK : Hid (keepTo p S j = K) := hK
          have HSM : Hid (s ∈ S) := List.mem_of_getElem? hs
          have HSV : Hid (s.cv = .slice sa sn sc) := hsv
          have HG4 : Hid (w.grownBy w4 (some g)) := grown_trans HG.out (grown_of hb4 _)
          clear hs hLs hk4 hK hib4 hsv
          subst hw4
          cases hq : p s with
          | true =>
            rw [hq] at hcall
            go_wp2_with (go_at_fn f; refine hcall.mono ?_; rintro e w5 ⟨rfl, hb5⟩)
            go_roundw
            case rel =>
              have hb45 : Below wr.heap.size wr w5 := hb4.trans (hb5.mono hb4.size)
              have e1 : keepTo p S (j + 1) = K := by rw [HKS.out, if_pos hq, HKK.out]
              refine ⟨_, _, _, _, _, _, _, _, _, _, _, _, _, _, _, _, _, _, _, _, _, _, _, ⟨j + 1, L, by omega, by rw [e1]; omega, hL, by rw [e1], by go_num, ?_, own_below HO.out hb45 (Nat.le_refl _), grown_trans HG4.out (grown_of hb5 _)⟩, rfl⟩
              rw [e1]
              refine ⟨HL.out.1, ?_, HL.out.2.2⟩
              have := HL.out.2.1
              rw [← List.drop_drop, this, List.drop_drop]
            case measure => simp [intOf]; omega
          | false =>
            rw [hq] at hcall
            have hi : K.length < L.length := by omega
            obtain ⟨t, ht⟩ : ∃ t, L[K.length]? = some t := ⟨_, List.getElem?_eq_getElem hi⟩
            have htc := HCV.out t (HL.out.2.2 t (List.mem_of_getElem? ht))
            have HN : Hid (∀ w5, Below (wr.alloc (.cells #[.int .u8 s.id.a, .int .u8 s.id.b, .int .u8 s.id.c, .int .u8 s.id.d, .slice sa sn sc] 149)).heap.size (wr.alloc (.cells #[.int .u8 s.id.a, .int .u8 s.id.b, .int .u8 s.id.c, .int .u8 s.id.d, .slice sa sn sc] 149)) w5 → DropS w5 g base cap L wr.heap.size K.length s.id (.slice sa sn sc)) := by
              intro w5 hb5
              have hb45 : Below wr.heap.size wr w5 := hb4.trans (hb5.mono hb4.size)
              exact DropS.of (own_below HO.out hb45 (Nat.le_refl _)) ((hb5.block _ hs4).trans HK4.out) ht htc
            clear d0 d1 d2 d3 d4 ht htc
            obtain ⟨d0, d1, d2, d3, d4⟩ := cells5_of HK4.out
            go_wp2_with (go_at_fn f; refine hcall.mono ?_; rintro e w5 ⟨rfl, hb5⟩; clear d0 d1 d2 d3 d4 c0 c1 c2 c3 c4; obtain ⟨d0, d1, d2, d3, d4, ⟨_, r0⟩, ⟨_, r1⟩, ⟨_, r2⟩, ⟨_, r3⟩, ⟨_, _, _, r4⟩, fz, HO5⟩ := HN.out w5 hb5; have f0 := fz (K.length * 5); have f1 := fz (K.length * 5 + 1); have f2 := fz (K.length * 5 + 2); have f3 := fz (K.length * 5 + 3); have f4 := fz (K.length * 5 + 4); clear HN)
            obtain ⟨w7, hw7⟩ : ∃ w7, w7 = ((((w5.setCell ⟨g, K.length * 5, none⟩ (.int .u8 s.id.a)).setCell ⟨g, K.length * 5 + 1, none⟩ (.int .u8 s.id.b)).setCell ⟨g, K.length * 5 + 2, none⟩ (.int .u8 s.id.c)).setCell ⟨g, K.length * 5 + 3, none⟩ (.int .u8 s.id.d)).setCell ⟨g, K.length * 5 + 4, none⟩ (.slice sa sn sc) := ⟨_, rfl⟩
            rw [← hw7]
            obtain ⟨o7, g7⟩ := own_set5 (w5 := w7) HO5 hi s rfl rfl rfl rfl (by rw [HSV.out]; exact hw7)
            have HG7 : Hid (w.grownBy w7 (some g)) := grown_trans HG4.out (grown_trans (grown_of hb5 _) g7)
            have HO7 : Hid (w7.ownsRow base 149 5 (.slice (some ⟨g, 0, none⟩) L.length cap) L.length (pmCells (L.set K.length s))) := o7
            clear o7 g7 hw7 d0 d1 d2 d3 d4 r0 r1 r2 r3 r4 f0 f1 f2 f3 f4 fz HO5
            go_wp2
            go_roundw
            case rel =>
              have e1 : keepTo p S (j + 1) = K ++ [s] := by rw [HKS.out, if_neg (by rw [hq]; simp), HKK.out]
              first
                | refine ⟨j + 1, by omega, by rw [e1, List.length_append, List.length_singleton]; omega, L.set K.length s, by rw [List.length_set]; exact hL, by rw [e1, List.length_append, List.length_singleton]; omega, by omega, ?_, ?_, HG7⟩
                | refine ⟨_, _, _, _, _, _, _, _, _, _, _, _, _, _, _, _, _, _, _, _, _, _, _, ⟨j + 1, L.set K.length s, by omega, by rw [e1, List.length_append, List.length_singleton]; omega, by rw [List.length_set]; exact hL, by rw [e1, List.length_append, List.length_singleton]; go_num, by go_num, ?_, ?_, HG7⟩, rfl⟩
              · rw [e1, List.length_append, List.length_singleton]
                refine ⟨by rw [set_take hi, HL.out.1], ?_, fun P hP => ?_⟩
                · rw [set_drop (by omega), ← List.drop_drop, HL.out.2.1, List.drop_drop]
                · rcases List.mem_or_eq_of_mem_set hP with h | h
                  · exact HL.out.2.2 P h
                  · rw [h]; exact HSM.out
              · show World.ownsRow _ _ _ _ _ _ _
                rw [List.length_set]
                exact HO7.out
            case measure => simp [intOf]; omega
        · obtain rfl : j = S.length := by omega
          have HKK : Hid (K = S.filter fun s => !p s) := by
            show _ = _
            rw [← hK]
            unfold keepTo
            rw [List.take_length]
          have hcap : L.length ≤ cap := by
            rcases HO.out.2 with ⟨h', _⟩ | ⟨_, _, _, h', _, _, hnc, _⟩
            · cases h'
            · cases h'; exact hnc
          have hcl : ∀ ty, (Builtin.clear_ #[84] ty #[.slice (some ⟨g, K.length * 5, none⟩) (S.length - K.length) (cap - K.length)]).run Tryz.prog wr = .ok (.tuple #[]) (wr.setCells g (K.length * 5) (Builtin.zeroCells (Value.agg #[.int .u8 0, .int .u8 0, .int .u8 0, .int .u8 0, .slice none 0 0]).cells (S.length - K.length)).toList) := fun ty => by
            refine run_clear_row wr 84 149 ty (Value.agg #[.int .u8 0, .int .u8 0, .int .u8 0, .int .u8 0, .slice none 0 0]) Tryz.underlying84 Tryz.zeroValue149 (by decide) g (K.length * 5) _ _ (by omega) (fun x hx => ?_) (fun x hx => World.ownsRow.frozenAt HO.out _)
            have hx7 : x < (S.length - K.length) * 5 := hx
            rw [World.ownsRow.cellAt HO.out _ (by omega), List.getElem?_eq_getElem (by rw [pm_len]; omega)]
            rfl
          obtain ⟨w6, hw6⟩ : ∃ w6, w6 = wr.setCells g (K.length * 5) (Builtin.zeroCells (Value.agg #[.int .u8 0, .int .u8 0, .int .u8 0, .int .u8 0, .slice none 0 0]).cells (S.length - K.length)).toList := ⟨_, rfl⟩
          rw [← hw6] at hcl
          obtain ⟨o6, g6⟩ := own_setCells (Builtin.zeroCells (Value.agg #[.int .u8 0, .int .u8 0, .int .u8 0, .int .u8 0, .slice none 0 0]).cells (S.length - K.length)).toList wr (K.length * 5) (own_cut HO.out (i := K.length) (by omega)) (by rw [List.length_take]; omega)
          rw [← hw6] at o6 g6
          rw [pm_take L _ (by omega), HL.out.1] at o6
          have HG6 : Hid (w.grownBy w6 (some g)) := grown_trans HG.out g6
          have HO6 : Hid (w6.ownsRow base 149 5 (.slice (some ⟨g, 0, none⟩) K.length cap) K.length (pmCells K)) := o6
          have hk1 : (K.length : Int) ≤ (S.length : Int) := by omega
          have hk2 : (S.length : Int) ≤ (cap : Int) := by omega
          clear o6 g6 hw6 hK HL HO HG
          go_wp2
          go_ret
          refine ⟨_, rfl, ?_, HG6.out⟩
          rw [← HKK.out]
          exact HO6.out
end Go.Proofs.YtgdfipmdmgkidaaGreatDoor

/- A patch leaves the repository: drop, unrecord. -/
namespace Go.Proofs.YtgdfipmdmgkidaaGreatDoor
open Go.RowKit

section
variable {w : World} {B pb rg cap gb : Nat} {pv : Value} {Ps : List PM} {fb fn : Nat} {f : ByteArray → Option ByteArray} {G : List Pid}
/-- The list of patches became another one of its own patches, and was stored. -/
theorem OneAt.shrink {w1 w2 : World} (h1 : OneAt w1 B pb rg cap gb pv Ps fb fn f G) {v : Value} {Qs : List PM} (hg : w1.grownBy w2 pv.ownBlock) (hown : w2.ownsRow B 149 5 v Qs.length (pmCells Qs)) (hsub : ∀ P ∈ Qs, P ∈ Ps) :
    OneAt (w2.setCell ⟨rg, 0, none⟩ v) B pb rg cap gb v Qs fb fn f G ∧ (∀ T : TypeId → Prop, ¬ T 149 → ¬ T 87 → HeldT T w1 (w2.setCell ⟨rg, 0, none⟩ v)) ∧ ∀ k, k < w1.heap.size → k ≠ rg → (∀ q, pv.ownBlock = some q → k ≠ q) → (w2.setCell ⟨rg, 0, none⟩ v).heap[k]? = w1.heap[k]? := by
  obtain ⟨l1, l2, l3, l4⟩ := h1.lts
  obtain ⟨A, hA, hA0, hA1⟩ := h1.row
  have tb : ∀ q, pv.ownBlock = some q → TB w1 q 149 := fun q hq => own_TB h1.own hq
  have ne : ∀ {k : Nat} {o : Obj}, w1.heap[k]? = some o → (∀ cs fz, o ≠ .cells cs 149 fz) → ∀ q, pv.ownBlock = some q → k ≠ q := fun hk ho q hq e => by
    subst e
    obtain ⟨cs, fz, hq2⟩ := tb _ hq
    rw [hk] at hq2
    injection hq2 with e
    exact ho cs fz e
  have far : ∀ k, k < w1.heap.size → (∀ q, pv.ownBlock = some q → k ≠ q) → w2.heap[k]? = w1.heap[k]? := fun k hk hq => hg.block k hk (fun e => hq k e.symm rfl)
  have far2 : ∀ k, k < w1.heap.size → k ≠ rg → (∀ q, pv.ownBlock = some q → k ≠ q) → (w2.setCell ⟨rg, 0, none⟩ v).heap[k]? = w1.heap[k]? := fun k hk hr hq => (Below.heap_setCell _ _ _ _ hr).trans (far k hk hq)
  have hA2 : w2.heap[rg]? = some (.cells A 87 (0, 0)) := (far rg l2 (ne hA (fun cs fz e => by simp at e))).trans hA
  have heldT : ∀ T : TypeId → Prop, ¬ T 149 → ¬ T 87 → HeldT T w1 (w2.setCell ⟨rg, 0, none⟩ v) := fun T t1 t2 => (HeldT.of_grown hg (fun q hq => ⟨149, tb q hq, t1⟩)).trans (HeldT.set ⟨A, _, hA2⟩ t2 _)
  have held := heldT stuff (by simp [stuff]) (by simp [stuff])
  obtain ⟨es1, c1, m1⟩ := h1.given.map
  obtain ⟨es2, c2, m2⟩ := h1.files.map
  refine ⟨⟨h1.lo, (far2 pb l1 (fun e => ?_) (ne h1.wb (fun cs fz e => by simp at e))).trans h1.wb, ⟨_, heap_setCell_same w2 rg 0 A 87 _ hA2, ?_, ?_⟩, h1.given.same (far2 gb l3 (fun e => ?_) (ne m1 (fun cs fz e => by cases e))), ?_, fun Q hQ => (h1.chs Q (hsub Q hQ)).held held, h1.files.same (far2 fb l4 (fun e => ?_) (ne m2 (fun cs fz e => by cases e))), h1.ne, h1.cap1⟩, heldT, far2⟩
  · have := h1.wb
    rw [e, hA] at this
    simp at this
  · have : 0 < A.size := (Array.getElem?_eq_some_iff.1 hA0).1
    simp [this]
  · rw [Array.getElem?_setIfInBounds_ne (by omega)]
    exact hA1
  · rw [e, hA] at m1
    cases m1
  · refine hown.kept (w' := w2.setCell ⟨rg, 0, none⟩ _) (row := some rg) ⟨rfl, rfl, rfl, by simp [World.setCell], fun k _ hne => Below.heap_setCell _ _ _ _ (fun e => hne (by rw [e]))⟩ (Or.inr ?_)
    intro e
    obtain ⟨cs, fz, hq⟩ := own_TB hown e
    rw [hA2] at hq
    simp at hq
  · rw [e, hA] at m2
    cases m2

set_option maxRecDepth 100000 in
set_option maxHeartbeats 1600000 in
theorem OneAt.drop (h : OneAt w B pb rg cap gb pv Ps fb fn f G) (hB : B ≤ w.heap.size) (i : Pid) (hl : Ps.length ≤ 10000) :
    Calls Tryz.prog 127 #[.pointer (some ⟨rg, 0, none⟩), .agg #[.int .u8 i.a, .int .u8 i.b, .int .u8 i.c, .int .u8 i.d]] w fun e w' => e = .returned (.tuple #[]) ∧ ∃ pv', OneAt w' B pb rg cap gb pv' (Ps.filter fun P => !decide (P.id = i)) fb fn f G ∧ Below B w w' ∧ HeldT (fun t => t = 9 ∨ t = 53) w w' := by
  obtain ⟨w1, hw1⟩ : ∃ w1, w1 = w.alloc (.cells #[.int .u8 i.a, .int .u8 i.b, .int .u8 i.c, .int .u8 i.d] 113) := ⟨_, rfl⟩
  have hb1 : Below w.heap.size w w1 := by rw [hw1]; exact (Below.refl _ _).alloc (Nat.le_refl _) _
  have hk1 := (MapKept.heap_alloc w (.cells #[.int .u8 i.a, .int .u8 i.b, .int .u8 i.c, .int .u8 i.d] 113)).1
  rw [← hw1] at hk1
  have h1 := h.below hb1
  have HD : Hid (Calls Tryz.prog 191 #[pv, .func (.func 192) #[] #[.pointer (some ⟨w.heap.size, 0, none⟩)]] w1 fun e w' => ∃ v, e = .returned v ∧ w'.ownsRow B 149 5 v (Ps.filter fun P => !decide (P.id = i)).length (pmCells (Ps.filter fun P => !decide (P.id = i))) ∧ w1.grownBy w' pv.ownBlock) := del191_any Ps (fun P => decide (P.id = i)) 192 w.heap.size _ (fun _ _ => by kernel_rfl) pv B w1 h1.own h1.chs (by omega) hk1 (fun A fz e => by simp at e) (fun P hP u hu => drop192_any P i w.heap.size u (h1.chs P hP).cvS hu)
  have r1 := h1.r0
  have HH1 : Hid (OneAt w1 B pb rg cap gb pv Ps fb fn f G) := h1
  have hBq : ∀ q, pv.ownBlock = some q → B ≤ q := fun q hq => (h.own.lt q hq).1
  have HBQ : Hid (∀ q, pv.ownBlock = some q → B ≤ q) := hBq
  have hBr := h.lo.2.1
  clear hk1 h1 h hBq
  obtain ⟨pa, pn, pc, rfl⟩ : ∃ a n c, pv = .slice a n c := by
    rcases HH1.out.own.2 with ⟨rfl, _⟩ | ⟨g, cap, cur, rfl, _⟩
    · exact ⟨_, _, _, rfl⟩
    · exact ⟨_, _, _, rfl⟩
  subst hw1
  go_enter Tryz.func127, Tryz.ntmps127
  go_wp2_with fail
  refine HD.out.mono ?_
  rintro e w2 ⟨v2, rfl, ho2, hg2⟩
  clear HD r1
  obtain ⟨hO, hH, hF⟩ := HH1.out.shrink hg2 ho2 (fun P hP => (List.mem_filter.1 hP).1)
  have hne : rg < w.heap.size + 1 := by have := HH1.out.lts.2.1; simpa using this
  have hA2 : ∃ A, w2.heap[rg]? = some (.cells A 87 (0, 0)) ∧ 0 < A.size := by
    obtain ⟨A, hA, hA0, _⟩ := HH1.out.row
    refine ⟨A, (hg2.block rg HH1.out.lts.2.1 (fun e => ?_)).trans hA, (Array.getElem?_eq_some_iff.1 hA0).1⟩
    obtain ⟨cs, fz, hq⟩ := own_TB HH1.out.own e.symm
    rw [hA] at hq
    simp at hq
  obtain ⟨A, hA, hAs⟩ := hA2
  have c2 : ∃ u, w2.cell? ⟨rg, 0, none⟩ = some u := ⟨A[0], by simp [World.cell?, hA, hAs]⟩
  obtain ⟨u, c2⟩ := c2
  have fz2 : w2.frozen? ⟨rg, 0, none⟩ = false := free3 hA 0
  obtain ⟨va, vn, vc, rfl⟩ : ∃ a n c, v2 = .slice a n c := by
    rcases ho2.2 with ⟨rfl, _⟩ | ⟨g, cap, cur, rfl, _⟩
    · exact ⟨_, _, _, rfl⟩
    · exact ⟨_, _, _, rfl⟩
  have hsz : w.heap.size ≤ w2.heap.size := Nat.le_trans hb1.size hg2.size
  have hbB : Below B w (w2.setCell ⟨rg, 0, none⟩ (.slice va vn vc)) :=
    ⟨hg2.os.trans hb1.os, hg2.tape.trans hb1.tape, hg2.output.trans hb1.output, by simpa [World.setCell] using hsz, fun k hk => (hF k (by have := hb1.size; omega) (by omega) (fun q hq => by have := HBQ.out q hq; omega)).trans (hb1.block k (by omega))⟩
  have hH9 : HeldT (fun t => t = 9 ∨ t = 53) w (w2.setCell ⟨rg, 0, none⟩ (.slice va vn vc)) := (HeldT.of_below hb1).trans (hH _ (by decide) (by decide))
  have HO : Hid (OneAt (w2.setCell ⟨rg, 0, none⟩ (.slice va vn vc)) B pb rg cap gb (.slice va vn vc) (Ps.filter fun P => !decide (P.id = i)) fb fn f G) := hO
  clear hO hH hF ho2 hg2 hA hAs
  go_wp2
  refine bodyPost_end (results_none rfl _ _ _) rfl ?_
  exact ⟨rfl, _, HO.out, hbB, hH9⟩

end
end Go.Proofs.YtgdfipmdmgkidaaGreatDoor

/- Mathematics: a hunk is laid on a row; two hunks that do not lean on one another change places. -/
namespace Go.Proofs.YtgdfipmdmgkidaaGreatDoor
open Go.RowKit

/-- A hunk that names N and brings Br is laid on the row F. -/
def HStep (F N Br F' : List Spot) : Prop := ∃ A a M b C, N = a :: (M ++ [b]) ∧ F = A ++ (N ++ C) ∧ F' = A ++ (a :: (deadRow M ++ (Br ++ (b :: C)))) ∧ a.alive = true ∧ b.alive = true ∧ ((∃ m ∈ M, m.alive = true) ∨ Br ≠ [])
/-- What it kills, dead. -/
def killsH (N : List Spot) : List Spot := deadRow (aliveOf ((N.take (N.length - 1)).drop 1))
theorem mid_of (a b : Spot) (M : List Spot) : ((a :: (M ++ [b])).take ((a :: (M ++ [b])).length - 1)).drop 1 = M := by
  simp
theorem seg_cases {α : Type} {X Z Y A N C : List α} (h : X ++ (Z ++ Y) = A ++ (N ++ C)) (hN : N ≠ []) (hz1 : ∀ t, N.head? = some t → t ∉ Z) (hz2 : ∀ t, N.getLast? = some t → t ∉ Z) (hZ : ∃ z ∈ Z, z ∉ N) :
    (∃ D, X = A ++ (N ++ D) ∧ C = D ++ (Z ++ Y)) ∨ (∃ D, Y = D ++ (N ++ C) ∧ A = X ++ (Z ++ D)) := by
  by_cases h1 : A.length + N.length ≤ X.length
  · left
    have e1 : A ++ N = X.take (A.length + N.length) := by
      have := congrArg (List.take (A.length + N.length)) h
      rw [List.take_append_of_le_length h1, ← List.append_assoc, List.take_left' (by simp)] at this
      exact this.symm
    have e2 : C = X.drop (A.length + N.length) ++ (Z ++ Y) := by
      have := congrArg (List.drop (A.length + N.length)) h
      rw [List.drop_append_of_le_length h1, ← List.append_assoc A N C, List.drop_left' (by simp)] at this
      exact this.symm
    refine ⟨X.drop (A.length + N.length), ?_, e2⟩
    rw [← List.append_assoc, e1, List.take_append_drop]
  · by_cases h2 : X.length + Z.length ≤ A.length
    · right
      have e1 : A.take (X.length + Z.length) = X ++ Z := by
        have := congrArg (List.take (X.length + Z.length)) h
        rw [List.take_append_of_le_length h2, ← List.append_assoc, List.take_left' (by simp)] at this
        exact this.symm
      have e2 : Y = A.drop (X.length + Z.length) ++ (N ++ C) := by
        have := congrArg (List.drop (X.length + Z.length)) h
        rw [List.drop_append_of_le_length h2, ← List.append_assoc X Z Y, List.drop_left' (by simp)] at this
        exact this
      refine ⟨A.drop (X.length + Z.length), e2, ?_⟩
      rw [← List.append_assoc, ← e1, List.take_append_drop]
    · exfalso
      -- positions: X.length - A.length .. : the first of N lies ahead of Z's end, the last behind X's end
      have hat : ∀ j, j < N.length → (X ++ (Z ++ Y))[A.length + j]? = N[j]? := fun j hj => by
        rw [h, List.getElem?_append_right (by omega), List.getElem?_append_left (by omega)]
        congr 1
        omega
      have hzz : ∀ j, j < N.length → X.length ≤ A.length + j → A.length + j < X.length + Z.length → N[j]? = Z[A.length + j - X.length]? := fun j hj h3 h4 => by
        rw [← hat j hj, List.getElem?_append_right h3, List.getElem?_append_left (by omega)]
      have hNl : 0 < N.length := List.length_pos_iff.2 hN
      -- the first is not in Z
      have hA : A.length < X.length := by
        by_cases hc : A.length < X.length
        · exact hc
        · have := hzz 0 hNl (by omega) (by omega)
          have hi : A.length + 0 - X.length < Z.length := by omega
          rw [List.getElem?_eq_getElem hi] at this
          exact absurd (List.getElem_mem hi) (hz1 _ (by rw [List.head?_eq_getElem?]; exact this))
      have hB : X.length + Z.length < A.length + N.length := by
        by_cases hc : X.length + Z.length < A.length + N.length
        · exact hc
        · have := hzz (N.length - 1) (by omega) (by omega) (by omega)
          have hi : A.length + (N.length - 1) - X.length < Z.length := by omega
          rw [List.getElem?_eq_getElem hi] at this
          exact absurd (List.getElem_mem hi) (hz2 _ (by rw [List.getLast?_eq_getElem?]; exact this))
      obtain ⟨z, hz, hzN⟩ := hZ
      obtain ⟨k, hk, rfl⟩ := List.getElem_of_mem hz
      have := hzz (X.length + k - A.length) (by omega) (by omega) (by omega)
      have e : A.length + (X.length + k - A.length) - X.length = k := by omega
      rw [e, List.getElem?_eq_getElem hk] at this
      exact hzN (List.mem_of_getElem? this)
theorem hstep_swap {F F1 F12 N1 B1 N2 B2 : List Spot} (h1 : HStep F N1 B1 F1) (h2 : HStep F1 N2 B2 F12) (hb : ∀ t ∈ N2, t ∉ B1) (hk : ∀ t ∈ N2, t ∉ killsH N1) : ∃ F2, HStep F N2 B2 F2 ∧ HStep F2 N1 B1 F12 := by
  obtain ⟨A1, a1, M1, b1, C1, rfl, rfl, rfl, la1, lb1, e1⟩ := h1
  obtain ⟨A2, a2, M2, b2, C2, rfl, hF, rfl, la2, lb2, e2⟩ := h2
  unfold killsH at hk
  rw [mid_of] at hk
  have hZ : (A1 ++ [a1]) ++ ((deadRow M1 ++ B1) ++ (b1 :: C1)) = A2 ++ ((a2 :: (M2 ++ [b2])) ++ C2) := by
    rw [← hF]
    simp
  have hdead : ∀ t, t.alive = true → t ∈ a2 :: (M2 ++ [b2]) → t ∉ deadRow M1 ++ B1 := fun t ha ht hm => by
    rcases List.mem_append.1 hm with hm | hm
    · obtain ⟨u, _, rfl⟩ := List.mem_map.1 hm
      cases ha
    · exact hb t ht hm
  have hz : ∃ z ∈ deadRow M1 ++ B1, z ∉ a2 :: (M2 ++ [b2]) := by
    rcases e1 with ⟨m, hm, hma⟩ | hne
    · refine ⟨deadS m, List.mem_append.2 (.inl (List.mem_map.2 ⟨m, hm, rfl⟩)), fun hin => ?_⟩
      exact hk _ hin (List.mem_map.2 ⟨m, List.mem_filter.2 ⟨hm, hma⟩, rfl⟩)
    · obtain ⟨z, hz⟩ := List.exists_mem_of_ne_nil _ hne
      exact ⟨z, List.mem_append.2 (.inr hz), fun hin => hb _ hin hz⟩
  have hc := seg_cases hZ (by simp) (fun t ht => by simp at ht; subst ht; exact hdead _ la2 (by simp)) (fun t ht => by
    have : t = b2 := by
      rw [show a2 :: (M2 ++ [b2]) = (a2 :: M2) ++ [b2] by simp, List.getLast?_concat] at ht
      simpa using ht.symm
    subst this
    exact hdead _ lb2 (by simp)) hz
  rcases hc with ⟨D, hX, rfl⟩ | ⟨D, hY, rfl⟩
  · -- the second hunk lies ahead of the first
    have hE : ∃ E, A2 ++ (a2 :: (deadRow M2 ++ (B2 ++ (b2 :: D)))) = E ++ [a1] := by
      by_cases hD : D = []
      · subst hD
        have : b2 = a1 := by
          have := congrArg List.getLast? hX
          rw [List.getLast?_concat, List.append_nil, show A2 ++ (a2 :: (M2 ++ [b2])) = (A2 ++ (a2 :: M2)) ++ [b2] by simp, List.getLast?_concat] at this
          simpa using this.symm
        subst this
        exact ⟨A2 ++ (a2 :: (deadRow M2 ++ B2)), by simp⟩
      · obtain ⟨D', d, rfl⟩ : ∃ D' d, D = D' ++ [d] := ⟨_, _, (List.dropLast_concat_getLast hD).symm⟩
        have : d = a1 := by
          have := congrArg List.getLast? hX
          rw [List.getLast?_concat, show A2 ++ ((a2 :: (M2 ++ [b2])) ++ (D' ++ [d])) = (A2 ++ ((a2 :: (M2 ++ [b2])) ++ D')) ++ [d] by simp, List.getLast?_concat] at this
          simpa using this.symm
        subst this
        exact ⟨A2 ++ (a2 :: (deadRow M2 ++ (B2 ++ (b2 :: D')))), by simp⟩
    obtain ⟨E, hE⟩ := hE
    refine ⟨A2 ++ (a2 :: (deadRow M2 ++ (B2 ++ (b2 :: (D ++ (M1 ++ (b1 :: C1))))))), ⟨A2, a2, M2, b2, D ++ (M1 ++ (b1 :: C1)), rfl, ?_, rfl, la2, lb2, e2⟩, ⟨E, a1, M1, b1, C1, rfl, ?_, ?_, la1, lb1, e1⟩⟩
    · have : A1 ++ ((a1 :: (M1 ++ [b1])) ++ C1) = (A1 ++ [a1]) ++ (M1 ++ (b1 :: C1)) := by simp
      rw [this, hX]
      simp
    · have : E ++ ((a1 :: (M1 ++ [b1])) ++ C1) = (E ++ [a1]) ++ (M1 ++ (b1 :: C1)) := by simp
      rw [this, ← hE]
      simp
    · have : E ++ (a1 :: (deadRow M1 ++ (B1 ++ (b1 :: C1)))) = (E ++ [a1]) ++ ((deadRow M1 ++ B1) ++ (b1 :: C1)) := by simp
      rw [this, ← hE]
      simp
  · -- behind it
    have hE : ∃ E, D ++ (a2 :: (deadRow M2 ++ (B2 ++ (b2 :: C2)))) = b1 :: E := by
      cases D with
      | nil =>
        have : b1 = a2 := by simpa using congrArg List.head? hY
        subst this
        exact ⟨_, rfl⟩
      | cons d D' =>
        have : b1 = d := by simpa using congrArg List.head? hY
        subst this
        exact ⟨_, rfl⟩
    obtain ⟨E, hE⟩ := hE
    refine ⟨(A1 ++ (a1 :: M1)) ++ (D ++ (a2 :: (deadRow M2 ++ (B2 ++ (b2 :: C2))))), ⟨A1 ++ (a1 :: (M1 ++ D)), a2, M2, b2, C2, rfl, ?_, by simp, la2, lb2, e2⟩, ⟨A1, a1, M1, b1, E, rfl, ?_, ?_, la1, lb1, e1⟩⟩
    · have : A1 ++ ((a1 :: (M1 ++ [b1])) ++ C1) = (A1 ++ (a1 :: M1)) ++ (b1 :: C1) := by simp
      rw [this, hY]
      simp
    · rw [hE]
      simp
    · have : A1 ++ (a1 :: (deadRow M1 ++ (B1 ++ (b1 :: E)))) = ((A1 ++ [a1]) ++ (deadRow M1 ++ B1)) ++ (b1 :: E) := by simp
      rw [this, ← hE]
      simp
end Go.Proofs.YtgdfipmdmgkidaaGreatDoor
