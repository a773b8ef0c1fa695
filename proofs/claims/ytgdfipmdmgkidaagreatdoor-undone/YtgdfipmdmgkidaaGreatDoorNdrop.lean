/- A patch leaves: slices.DeleteFunc on the list of patches, drop, unrecord. -/
import Derived.Test.YtgdfipmdmgkidaaGreatDoorNplace
import Derived.Test.YtgdfipmdmgkidaaGreatDoorNneed
namespace Go.Proofs.YtgdfipmdmgkidaaGreatDoor
open Go.RowKit

theorem pm_len (S : List PM) : (pmCells S).length = S.length * 5 := by
  induction S with
  | nil => rfl
  | cons x S ih => simp only [pmCells, List.flatMap_cons, List.length_append, List.length_cons, List.length_nil] at *; rw [ih]; omega
theorem pm_app (S T : List PM) : pmCells (S ++ T) = pmCells S ++ pmCells T := List.flatMap_append
theorem pm_take (L : List PM) (i : Nat) (hi : i ≤ L.length) : (pmCells L).take (i * 5) = pmCells (L.take i) := by
  conv => lhs; rw [← List.take_append_drop i L, pm_app]
  rw [List.take_append_of_le_length (by rw [pm_len, List.length_take]; omega), List.take_of_length_le (by rw [pm_len, List.length_take]; omega)]
theorem pm_set5 (L : List PM) (i : Nat) (s : PM) (hi : i < L.length) : pmCells (L.set i s) = (((((pmCells L).set (i * 5) (.int .u8 s.id.a)).set (i * 5 + 1) (.int .u8 s.id.b)).set (i * 5 + 2) (.int .u8 s.id.c)).set (i * 5 + 3) (.int .u8 s.id.d)).set (i * 5 + 4) s.cv := by
  induction L generalizing i with
  | nil => simp at hi
  | cons x L ih =>
    cases i with
    | zero => simp [pmCells]
    | succ i =>
      have := ih i (by simpa using hi)
      simp only [List.set_cons_succ]
      obtain ⟨X, hX⟩ : ∃ X : List Value, X = [.int .u8 x.id.a, .int .u8 x.id.b, .int .u8 x.id.c, .int .u8 x.id.d, x.cv] := ⟨_, rfl⟩
      have hXl : X.length = 5 := by rw [hX]; rfl
      have e : ∀ (u : Value) (T : List Value) (j : Nat), (X ++ T).set ((i + 1) * 5 + j) u = X ++ T.set (i * 5 + j) u := fun u T j => by
        rw [List.set_append_right _ _ (by omega)]
        congr 2
        omega
      have e0 : ∀ (u : Value) (T : List Value), (X ++ T).set ((i + 1) * 5) u = X ++ T.set (i * 5) u := fun u T => e u T 0
      have c1 : pmCells (x :: L.set i s) = X ++ pmCells (L.set i s) := by rw [hX]; rfl
      have c2 : pmCells (x :: L) = X ++ pmCells L := by rw [hX]; rfl
      rw [c1, c2, this, e0, e, e, e, e]
theorem own_set5 {w w1 w2 w3 w4 w5 : World} {base g cap : Nat} {L : List PM} (h : w.ownsRow base 149 5 (.slice (some ⟨g, 0, none⟩) L.length cap) L.length (pmCells L)) {i : Nat} (hi : i < L.length) (s : PM)
    (e1 : w1 = w.setCell ⟨g, i * 5, none⟩ (.int .u8 s.id.a)) (e2 : w2 = w1.setCell ⟨g, i * 5 + 1, none⟩ (.int .u8 s.id.b)) (e3 : w3 = w2.setCell ⟨g, i * 5 + 2, none⟩ (.int .u8 s.id.c)) (e4 : w4 = w3.setCell ⟨g, i * 5 + 3, none⟩ (.int .u8 s.id.d)) (e5 : w5 = w4.setCell ⟨g, i * 5 + 4, none⟩ s.cv) :
    w5.ownsRow base 149 5 (.slice (some ⟨g, 0, none⟩) L.length cap) L.length (pmCells (L.set i s)) ∧ w.grownBy w5 (some g) := by
  obtain ⟨h1, k1⟩ := h.stored (i * 5) (.int .u8 s.id.a)
  rw [← e1] at h1 k1
  obtain ⟨h2, k2⟩ := h1.stored (i * 5 + 1) (.int .u8 s.id.b)
  rw [← e2] at h2 k2
  obtain ⟨h3, k3⟩ := h2.stored (i * 5 + 2) (.int .u8 s.id.c)
  rw [← e3] at h3 k3
  obtain ⟨h4, k4⟩ := h3.stored (i * 5 + 3) (.int .u8 s.id.d)
  rw [← e4] at h4 k4
  obtain ⟨h5, k5⟩ := h4.stored (i * 5 + 4) s.cv
  rw [← e5] at h5 k5
  rw [pm_set5 L i s hi]
  exact ⟨h5, grown_trans k1 (grown_trans k2 (grown_trans k3 (grown_trans k4 k5)))⟩
theorem pm_at {w : World} {base g cap : Nat} {L : List PM} (h : w.ownsRow base 149 5 (.slice (some ⟨g, 0, none⟩) L.length cap) L.length (pmCells L)) {k : Nat} {s : PM} (hk : L[k]? = some s) :
    w.cell? ⟨g, k * 5, none⟩ = some (.int .u8 s.id.a) ∧ w.cell? ⟨g, k * 5 + 1, none⟩ = some (.int .u8 s.id.b) ∧ w.cell? ⟨g, k * 5 + 2, none⟩ = some (.int .u8 s.id.c) ∧ w.cell? ⟨g, k * 5 + 3, none⟩ = some (.int .u8 s.id.d) ∧ w.cell? ⟨g, k * 5 + 4, none⟩ = some s.cv := by
  have hkl := (List.getElem?_eq_some_iff.1 hk).1
  obtain ⟨f0, f1, f2, f3, f4⟩ := pm_flat L k s hk
  refine ⟨?_, ?_, ?_, ?_, ?_⟩
  · rw [World.ownsRow.cellAt h _ (by omega), f0]
  · rw [World.ownsRow.cellAt h _ (by omega), f1]
  · rw [World.ownsRow.cellAt h _ (by omega), f2]
  · rw [World.ownsRow.cellAt h _ (by omega), f3]
  · rw [World.ownsRow.cellAt h _ (by omega), f4]
theorem grown_of {a b : World} (h : Below a.heap.size a b) (r : Option Nat) : a.grownBy b r := ⟨h.os, h.tape, h.output, h.size, fun k hk _ => h.block k hk⟩

/-- What is read and written as one patch is moved ahead. -/
structure DropS (w : World) (g base cap : Nat) (L : List PM) (vb i : Nat) (s : Pid) (cv : Value) : Prop where
  d0 : w.cell? ⟨vb, 0, none⟩ = some (.int .u8 s.a)
  d1 : w.cell? ⟨vb, 1, none⟩ = some (.int .u8 s.b)
  d2 : w.cell? ⟨vb, 2, none⟩ = some (.int .u8 s.c)
  d3 : w.cell? ⟨vb, 3, none⟩ = some (.int .u8 s.d)
  d4 : w.cell? ⟨vb, 4, none⟩ = some cv
  r0 : ∃ t, w.cell? ⟨g, i * 5, none⟩ = some (.int .u8 t)
  r1 : ∃ t, w.cell? ⟨g, i * 5 + 1, none⟩ = some (.int .u8 t)
  r2 : ∃ t, w.cell? ⟨g, i * 5 + 2, none⟩ = some (.int .u8 t)
  r3 : ∃ t, w.cell? ⟨g, i * 5 + 3, none⟩ = some (.int .u8 t)
  r4 : ∃ a n c, w.cell? ⟨g, i * 5 + 4, none⟩ = some (.slice a n c)
  fz : ∀ x, w.frozen? ⟨g, x, none⟩ = false
  own : w.ownsRow base 149 5 (.slice (some ⟨g, 0, none⟩) L.length cap) L.length (pmCells L)
theorem DropS.of {w : World} {g base cap : Nat} {L : List PM} {vb i : Nat} {s : Pid} {cv : Value} {t : PM} (ho : w.ownsRow base 149 5 (.slice (some ⟨g, 0, none⟩) L.length cap) L.length (pmCells L)) (hk : w.heap[vb]? = some (.cells #[.int .u8 s.a, .int .u8 s.b, .int .u8 s.c, .int .u8 s.d, cv] 149 (0, 0))) (ht : L[i]? = some t) (hc : ∃ a n c, t.cv = .slice a n c) : DropS w g base cap L vb i s cv := by
  obtain ⟨d0, d1, d2, d3, d4⟩ := cells5_of hk
  obtain ⟨c0, c1, c2, c3, c4⟩ := pm_at ho ht
  obtain ⟨a, n, c, hc⟩ := hc
  rw [hc] at c4
  exact ⟨d0, d1, d2, d3, d4, ⟨_, c0⟩, ⟨_, c1⟩, ⟨_, c2⟩, ⟨_, c3⟩, ⟨a, n, c, c4⟩, fun x => World.ownsRow.frozenAt ho x, ho⟩

set_option maxRecDepth 100000 in
set_option maxHeartbeats 6400000 in
theorem del191_any (S : List PM) (p : PM → Bool) (f : FuncId) (ib : Nat) (io : Obj) (ef : ∀ args w, (callFunc f args).run Tryz.prog w = .ok (.enter f args) w) (v : Value) (base : Nat) (w : World) (ho : w.ownsRow base 149 5 v S.length (pmCells S)) (hcv : ∀ P ∈ S, CV w P.cv P.Cs) (hlen : S.length ≤ 1000000) (hib : w.heap[ib]? = some io) (hio : ∀ A fz, io ≠ .cells A 149 fz)
    (hp : ∀ s ∈ S, ∀ u : World, u.heap[ib]? = some io → Calls Tryz.prog f (#[pmV s] ++ #[.pointer (some ⟨ib, 0, none⟩)]) u fun e w' => e = .returned (.bool (p s)) ∧ Below u.heap.size u w') :
    Calls Tryz.prog 191 #[v, .func (.func f) #[] #[.pointer (some ⟨ib, 0, none⟩)]] w fun e w' => ∃ v', e = .returned v' ∧ w'.ownsRow base 149 5 v' (S.filter fun s => !p s).length (pmCells (S.filter fun s => !p s)) ∧ w.grownBy w' v.ownBlock := by
  have hibl := (Array.getElem?_eq_some_iff.1 hib).1
  have HF : Hid (Calls Tryz.prog 187 #[v, .func (.func f) #[] #[.pointer (some ⟨ib, 0, none⟩)]] w fun e w' => e = .returned (.int .i64 (idxInt (S.findIdx? p))) ∧ Below w.heap.size w w') := idxf187_any S p f _ ef v w (pm_view ho hcv) hlen (fun s hs u hu => hp s hs u ((hu.block _ hibl).trans hib))
  have HP : Hid (∀ s ∈ S, ∀ u : World, u.heap[ib]? = some io → Calls Tryz.prog f (#[pmV s] ++ #[.pointer (some ⟨ib, 0, none⟩)]) u fun e w' => e = .returned (.bool (p s)) ∧ Below u.heap.size u w') := hp
  have HCV : Hid (∀ P ∈ S, ∃ a n c, P.cv = .slice a n c) := fun P hP => (hcv P hP).cvS
  have HIB : Hid (w.heap[ib]? = some io) := hib
  clear hp hcv
  cases hq : S.findIdx? p with
  | none =>
    have HQ : Hid ((S.filter fun s => !p s) = S) := keep_none hq
    rw [hq] at HF
    simp only [idxInt] at HF
    have HO : Hid (w.ownsRow base 149 5 v S.length (pmCells S)) := ho
    have HG : Hid (∀ u, Below w.heap.size w u → w.grownBy u v.ownBlock) := fun u hu => grown_of hu _
    obtain ⟨va, vn, vc, rfl⟩ : ∃ a n c, v = .slice a n c := by
      rcases ho.2 with ⟨rfl, _⟩ | ⟨g, cap, cur, rfl, _⟩
      · exact ⟨_, _, _, rfl⟩
      · exact ⟨_, _, _, rfl⟩
    clear ho hq hib
    go_enter Tryz.func191, Tryz.ntmps191
    go_wp2_with fail
    refine HF.out.mono ?_
    rintro e w1 ⟨rfl, hb1⟩
    clear HF
    go_wp2
    go_ret
    refine ⟨_, rfl, ?_, HG.out _ hb1⟩
    rw [HQ.out]
    exact own_below HO.out hb1 (Nat.le_refl _)
  | some i =>
    obtain ⟨hiS, hfirst⟩ := keepTo_first hq
    rw [hq] at HF
    simp only [idxInt] at HF
    rcases ho.2 with ⟨rfl, h0⟩ | ⟨g, cap, cur, rfl, hg0, hgc, _⟩
    · omega
    · have hgi : ib ≠ g := by
        rintro rfl
        rw [hib] at hgc
        injection hgc with e
        exact hio _ _ e
      have HO : Hid (w.ownsRow base 149 5 (.slice (some ⟨g, 0, none⟩) S.length cap) S.length (pmCells S)) := ho
      have HK1 : Hid (keepTo p S (i + 1) = S.take i) := hfirst
      clear ho hq hfirst hib hgc
      go_enter Tryz.func191, Tryz.ntmps191
      go_wp2_with fail
      refine HF.out.mono ?_
      rintro e w1 ⟨rfl, hb1⟩
      clear HF
      have HO1 : Hid (w1.ownsRow base 149 5 (.slice (some ⟨g, 0, none⟩) S.length cap) S.length (pmCells S)) := own_below HO.out hb1 (Nat.le_refl _)
      have HG1 : Hid (w.grownBy w1 (some g)) := grown_of hb1 _
      have hne : ¬ ((i : Int) = -1) := by omega
      clear HO hb1
      go_wp2
      go_loopw [5, 6] (fun a b wr => ∃ (j : Nat) (L : List PM), j ≤ S.length ∧ (keepTo p S j).length < j ∧ L.length = S.length ∧ a = .int .i64 ((keepTo p S j).length : Nat) ∧ b = .int .i64 j ∧ Hid (L.take (keepTo p S j).length = keepTo p S j ∧ L.drop j = S.drop j ∧ ∀ P ∈ L, P ∈ S) ∧ Hid (wr.ownsRow base 149 5 (.slice (some ⟨g, 0, none⟩) L.length cap) L.length (pmCells L)) ∧ Hid (w.grownBy wr (some g))) (fun _ b _ => S.length - (intOf b).toNat)
      case atStart =>
        refine ⟨i + 1, S, by omega, ?_, rfl, ?_, by go_num, ?_, HO1, HG1⟩
        · rw [HK1.out, List.length_take]; omega
        · rw [HK1.out, List.length_take, Nat.min_eq_left (by omega)]
        · exact ⟨by rw [HK1.out, List.length_take, Nat.min_eq_left (by omega)], rfl, fun _ h => h⟩
      case round =>
        clear HO1 HK1 hne HG1
        obtain ⟨j, L, hj, hkj, hL, rfl, rfl, HL, HO, HG⟩ := hrel
        obtain ⟨K, hK⟩ : ∃ K, keepTo p S j = K := ⟨_, rfl⟩
        rw [hK] at hkj HL ⊢
        by_cases hlt : j < S.length
        · obtain ⟨s, hs⟩ : ∃ s, S[j]? = some s := ⟨_, List.getElem?_eq_getElem hlt⟩
          have hLs : L[j]? = some s := by
            have h : (L.drop j)[0]? = (S.drop j)[0]? := by rw [HL.out.2.1]
            rw [List.getElem?_drop, List.getElem?_drop, Nat.add_zero, hs] at h
            exact h
          obtain ⟨c0, c1, c2, c3, c4⟩ := pm_at HO.out hLs
          obtain ⟨sa, sn, sc, hsv⟩ := HCV.out s (List.mem_of_getElem? hs)
          rw [hsv] at c4
          obtain ⟨w4, hw4⟩ : ∃ w4, w4 = wr.alloc (.cells #[.int .u8 s.id.a, .int .u8 s.id.b, .int .u8 s.id.c, .int .u8 s.id.d, .slice sa sn sc] 149) := ⟨_, rfl⟩
          have hb4 : Below wr.heap.size wr w4 := by rw [hw4]; exact (Below.refl _ _).alloc (Nat.le_refl _) _
          have hk4 := (MapKept.heap_alloc wr (.cells #[.int .u8 s.id.a, .int .u8 s.id.b, .int .u8 s.id.c, .int .u8 s.id.d, .slice sa sn sc] 149)).1
          rw [← hw4] at hk4
          have hs4 : wr.heap.size < w4.heap.size := by rw [hw4]; simp
          have hszw := HG.out.size
          have hib4 : w4.heap[ib]? = some io := (hb4.block ib (by omega)).trans ((HG.out.block ib hibl (by intro e; injection e with e; exact hgi e)).trans HIB.out)
          obtain ⟨d0, d1, d2, d3, d4⟩ := cells5_of hk4
          have HKS : Hid (keepTo p S (j + 1) = if p s then keepTo p S j else keepTo p S j ++ [s]) := keepTo_succ hs
          have hcall := HP.out s (List.mem_of_getElem? hs) w4 hib4
          unfold pmV at hcall
          rw [hsv] at hcall
          have HK4 : Hid (w4.heap[wr.heap.size]? = some (.cells #[.int .u8 s.id.a, .int .u8 s.id.b, .int .u8 s.id.c, .int .u8 s.id.d, .slice sa sn sc] 149 (0, 0))) := hk4
          have HKK : Hid (keepTo p S j = K) := hK
          have HSM : Hid (s ∈ S) := List.mem_of_getElem? hs
          have HSV : Hid (s.cv = .slice sa sn sc) := hsv
          have HG4 : Hid (w.grownBy w4 (some g)) := grown_trans HG.out (grown_of hb4 _)
          clear hs hLs hk4 hK hib4 hsv
          subst hw4
          cases hq : p s with
          | true =>
            rw [hq] at hcall
            go_wp2_with (go_at_fn f; refine hcall.mono ?_; rintro e w5 ⟨rfl, hb5⟩)
            go_roundw
            case rel =>
              have hb45 : Below wr.heap.size wr w5 := hb4.trans (hb5.mono hb4.size)
              have e1 : keepTo p S (j + 1) = K := by rw [HKS.out, if_pos hq, HKK.out]
              refine ⟨_, _, _, _, _, _, _, _, _, _, _, _, _, _, _, _, _, _, _, _, _, _, _, ⟨j + 1, L, by omega, by rw [e1]; omega, hL, by rw [e1], by go_num, ?_, own_below HO.out hb45 (Nat.le_refl _), grown_trans HG4.out (grown_of hb5 _)⟩, rfl⟩
              rw [e1]
              refine ⟨HL.out.1, ?_, HL.out.2.2⟩
              have := HL.out.2.1
              rw [← List.drop_drop, this, List.drop_drop]
            case measure => simp [intOf]; omega
          | false =>
            rw [hq] at hcall
            have hi : K.length < L.length := by omega
            obtain ⟨t, ht⟩ : ∃ t, L[K.length]? = some t := ⟨_, List.getElem?_eq_getElem hi⟩
            have htc := HCV.out t (HL.out.2.2 t (List.mem_of_getElem? ht))
            have HN : Hid (∀ w5, Below (wr.alloc (.cells #[.int .u8 s.id.a, .int .u8 s.id.b, .int .u8 s.id.c, .int .u8 s.id.d, .slice sa sn sc] 149)).heap.size (wr.alloc (.cells #[.int .u8 s.id.a, .int .u8 s.id.b, .int .u8 s.id.c, .int .u8 s.id.d, .slice sa sn sc] 149)) w5 → DropS w5 g base cap L wr.heap.size K.length s.id (.slice sa sn sc)) := by
              intro w5 hb5
              have hb45 : Below wr.heap.size wr w5 := hb4.trans (hb5.mono hb4.size)
              exact DropS.of (own_below HO.out hb45 (Nat.le_refl _)) ((hb5.block _ hs4).trans HK4.out) ht htc
            clear d0 d1 d2 d3 d4 ht htc
            obtain ⟨d0, d1, d2, d3, d4⟩ := cells5_of HK4.out
            go_wp2_with (go_at_fn f; refine hcall.mono ?_; rintro e w5 ⟨rfl, hb5⟩; clear d0 d1 d2 d3 d4 c0 c1 c2 c3 c4; obtain ⟨d0, d1, d2, d3, d4, ⟨_, r0⟩, ⟨_, r1⟩, ⟨_, r2⟩, ⟨_, r3⟩, ⟨_, _, _, r4⟩, fz, HO5⟩ := HN.out w5 hb5; have f0 := fz (K.length * 5); have f1 := fz (K.length * 5 + 1); have f2 := fz (K.length * 5 + 2); have f3 := fz (K.length * 5 + 3); have f4 := fz (K.length * 5 + 4); clear HN)
            obtain ⟨w7, hw7⟩ : ∃ w7, w7 = ((((w5.setCell ⟨g, K.length * 5, none⟩ (.int .u8 s.id.a)).setCell ⟨g, K.length * 5 + 1, none⟩ (.int .u8 s.id.b)).setCell ⟨g, K.length * 5 + 2, none⟩ (.int .u8 s.id.c)).setCell ⟨g, K.length * 5 + 3, none⟩ (.int .u8 s.id.d)).setCell ⟨g, K.length * 5 + 4, none⟩ (.slice sa sn sc) := ⟨_, rfl⟩
            rw [← hw7]
            obtain ⟨o7, g7⟩ := own_set5 (w5 := w7) HO5 hi s rfl rfl rfl rfl (by rw [HSV.out]; exact hw7)
            have HG7 : Hid (w.grownBy w7 (some g)) := grown_trans HG4.out (grown_trans (grown_of hb5 _) g7)
            have HO7 : Hid (w7.ownsRow base 149 5 (.slice (some ⟨g, 0, none⟩) L.length cap) L.length (pmCells (L.set K.length s))) := o7
            clear o7 g7 hw7 d0 d1 d2 d3 d4 r0 r1 r2 r3 r4 f0 f1 f2 f3 f4 fz HO5
            go_wp2
            go_roundw
            case rel =>
              have e1 : keepTo p S (j + 1) = K ++ [s] := by rw [HKS.out, if_neg (by rw [hq]; simp), HKK.out]
              first
                | refine ⟨j + 1, by omega, by rw [e1, List.length_append, List.length_singleton]; omega, L.set K.length s, by rw [List.length_set]; exact hL, by rw [e1, List.length_append, List.length_singleton]; omega, by omega, ?_, ?_, HG7⟩
                | refine ⟨_, _, _, _, _, _, _, _, _, _, _, _, _, _, _, _, _, _, _, _, _, _, _, ⟨j + 1, L.set K.length s, by omega, by rw [e1, List.length_append, List.length_singleton]; omega, by rw [List.length_set]; exact hL, by rw [e1, List.length_append, List.length_singleton]; go_num, by go_num, ?_, ?_, HG7⟩, rfl⟩
              · rw [e1, List.length_append, List.length_singleton]
                refine ⟨by rw [set_take hi, HL.out.1], ?_, fun P hP => ?_⟩
                · rw [set_drop (by omega), ← List.drop_drop, HL.out.2.1, List.drop_drop]
                · rcases List.mem_or_eq_of_mem_set hP with h | h
                  · exact HL.out.2.2 P h
                  · rw [h]; exact HSM.out
              · show World.ownsRow _ _ _ _ _ _ _
                rw [List.length_set]
                exact HO7.out
            case measure => simp [intOf]; omega
        · obtain rfl : j = S.length := by omega
          have HKK : Hid (K = S.filter fun s => !p s) := by
            show _ = _
            rw [← hK]
            unfold keepTo
            rw [List.take_length]
          have hcap : L.length ≤ cap := by
            rcases HO.out.2 with ⟨h', _⟩ | ⟨_, _, _, h', _, _, hnc, _⟩
            · cases h'
            · cases h'; exact hnc
          have hcl : ∀ ty, (Builtin.clear_ #[84] ty #[.slice (some ⟨g, K.length * 5, none⟩) (S.length - K.length) (cap - K.length)]).run Tryz.prog wr = .ok (.tuple #[]) (wr.setCells g (K.length * 5) (Builtin.zeroCells (Value.agg #[.int .u8 0, .int .u8 0, .int .u8 0, .int .u8 0, .slice none 0 0]).cells (S.length - K.length)).toList) := fun ty => by
            refine run_clear_row wr 84 149 ty (Value.agg #[.int .u8 0, .int .u8 0, .int .u8 0, .int .u8 0, .slice none 0 0]) Tryz.underlying84 Tryz.zeroValue149 (by decide) g (K.length * 5) _ _ (by omega) (fun x hx => ?_) (fun x hx => World.ownsRow.frozenAt HO.out _)
            have hx7 : x < (S.length - K.length) * 5 := hx
            rw [World.ownsRow.cellAt HO.out _ (by omega), List.getElem?_eq_getElem (by rw [pm_len]; omega)]
            rfl
          obtain ⟨w6, hw6⟩ : ∃ w6, w6 = wr.setCells g (K.length * 5) (Builtin.zeroCells (Value.agg #[.int .u8 0, .int .u8 0, .int .u8 0, .int .u8 0, .slice none 0 0]).cells (S.length - K.length)).toList := ⟨_, rfl⟩
          rw [← hw6] at hcl
          obtain ⟨o6, g6⟩ := own_setCells (Builtin.zeroCells (Value.agg #[.int .u8 0, .int .u8 0, .int .u8 0, .int .u8 0, .slice none 0 0]).cells (S.length - K.length)).toList wr (K.length * 5) (own_cut HO.out (i := K.length) (by omega)) (by rw [List.length_take]; omega)
          rw [← hw6] at o6 g6
          rw [pm_take L _ (by omega), HL.out.1] at o6
          have HG6 : Hid (w.grownBy w6 (some g)) := grown_trans HG.out g6
          have HO6 : Hid (w6.ownsRow base 149 5 (.slice (some ⟨g, 0, none⟩) K.length cap) K.length (pmCells K)) := o6
          have hk1 : (K.length : Int) ≤ (S.length : Int) := by omega
          have hk2 : (S.length : Int) ≤ (cap : Int) := by omega
          clear o6 g6 hw6 hK HL HO HG
          go_wp2
          go_ret
          refine ⟨_, rfl, ?_, HG6.out⟩
          rw [← HKK.out]
          exact HO6.out
end Go.Proofs.YtgdfipmdmgkidaaGreatDoor

/- A patch leaves the repository: drop, unrecord. -/
namespace Go.Proofs.YtgdfipmdmgkidaaGreatDoor
open Go.RowKit

section
variable {w : World} {B pb rg cap gb : Nat} {pv : Value} {Ps : List PM} {fb fn : Nat} {f : ByteArray → Option ByteArray} {G : List Pid}
/-- The list of patches became another one of its own patches, and was stored. -/
theorem OneAt.shrink {w1 w2 : World} (h1 : OneAt w1 B pb rg cap gb pv Ps fb fn f G) {v : Value} {Qs : List PM} (hg : w1.grownBy w2 pv.ownBlock) (hown : w2.ownsRow B 149 5 v Qs.length (pmCells Qs)) (hsub : ∀ P ∈ Qs, P ∈ Ps) :
    OneAt (w2.setCell ⟨rg, 0, none⟩ v) B pb rg cap gb v Qs fb fn f G ∧ (∀ T : TypeId → Prop, ¬ T 149 → ¬ T 87 → HeldT T w1 (w2.setCell ⟨rg, 0, none⟩ v)) ∧ ∀ k, k < w1.heap.size → k ≠ rg → (∀ q, pv.ownBlock = some q → k ≠ q) → (w2.setCell ⟨rg, 0, none⟩ v).heap[k]? = w1.heap[k]? := by
  obtain ⟨l1, l2, l3, l4⟩ := h1.lts
  obtain ⟨A, hA, hA0, hA1⟩ := h1.row
  have tb : ∀ q, pv.ownBlock = some q → TB w1 q 149 := fun q hq => own_TB h1.own hq
  have ne : ∀ {k : Nat} {o : Obj}, w1.heap[k]? = some o → (∀ cs fz, o ≠ .cells cs 149 fz) → ∀ q, pv.ownBlock = some q → k ≠ q := fun hk ho q hq e => by
    subst e
    obtain ⟨cs, fz, hq2⟩ := tb _ hq
    rw [hk] at hq2
    injection hq2 with e
    exact ho cs fz e
  have far : ∀ k, k < w1.heap.size → (∀ q, pv.ownBlock = some q → k ≠ q) → w2.heap[k]? = w1.heap[k]? := fun k hk hq => hg.block k hk (fun e => hq k e.symm rfl)
  have far2 : ∀ k, k < w1.heap.size → k ≠ rg → (∀ q, pv.ownBlock = some q → k ≠ q) → (w2.setCell ⟨rg, 0, none⟩ v).heap[k]? = w1.heap[k]? := fun k hk hr hq => (Below.heap_setCell _ _ _ _ hr).trans (far k hk hq)
  have hA2 : w2.heap[rg]? = some (.cells A 87 (0, 0)) := (far rg l2 (ne hA (fun cs fz e => by simp at e))).trans hA
  have heldT : ∀ T : TypeId → Prop, ¬ T 149 → ¬ T 87 → HeldT T w1 (w2.setCell ⟨rg, 0, none⟩ v) := fun T t1 t2 => (HeldT.of_grown hg (fun q hq => ⟨149, tb q hq, t1⟩)).trans (HeldT.set ⟨A, _, hA2⟩ t2 _)
  have held := heldT stuff (by simp [stuff]) (by simp [stuff])
  obtain ⟨es1, c1, m1⟩ := h1.given.map
  obtain ⟨es2, c2, m2⟩ := h1.files.map
  refine ⟨⟨h1.lo, (far2 pb l1 (fun e => ?_) (ne h1.wb (fun cs fz e => by simp at e))).trans h1.wb, ⟨_, heap_setCell_same w2 rg 0 A 87 _ hA2, ?_, ?_⟩, h1.given.same (far2 gb l3 (fun e => ?_) (ne m1 (fun cs fz e => by cases e))), ?_, fun Q hQ => (h1.chs Q (hsub Q hQ)).held held, h1.files.same (far2 fb l4 (fun e => ?_) (ne m2 (fun cs fz e => by cases e))), h1.ne, h1.cap1⟩, heldT, far2⟩
  · have := h1.wb
    rw [e, hA] at this
    simp at this
  · have : 0 < A.size := (Array.getElem?_eq_some_iff.1 hA0).1
    simp [this]
  · rw [Array.getElem?_setIfInBounds_ne (by omega)]
    exact hA1
  · rw [e, hA] at m1
    cases m1
  · refine hown.kept (w' := w2.setCell ⟨rg, 0, none⟩ _) (row := some rg) ⟨rfl, rfl, rfl, by simp [World.setCell], fun k _ hne => Below.heap_setCell _ _ _ _ (fun e => hne (by rw [e]))⟩ (Or.inr ?_)
    intro e
    obtain ⟨cs, fz, hq⟩ := own_TB hown e
    rw [hA2] at hq
    simp at hq
  · rw [e, hA] at m2
    cases m2

set_option maxRecDepth 100000 in
set_option maxHeartbeats 1600000 in
theorem OneAt.drop (h : OneAt w B pb rg cap gb pv Ps fb fn f G) (hB : B ≤ w.heap.size) (i : Pid) (hl : Ps.length ≤ 10000) :
    Calls Tryz.prog 127 #[.pointer (some ⟨rg, 0, none⟩), .agg #[.int .u8 i.a, .int .u8 i.b, .int .u8 i.c, .int .u8 i.d]] w fun e w' => e = .returned (.tuple #[]) ∧ ∃ pv', OneAt w' B pb rg cap gb pv' (Ps.filter fun P => !decide (P.id = i)) fb fn f G ∧ Below B w w' ∧ HeldT (fun t => t = 9 ∨ t = 53) w w' := by
  obtain ⟨w1, hw1⟩ : ∃ w1, w1 = w.alloc (.cells #[.int .u8 i.a, .int .u8 i.b, .int .u8 i.c, .int .u8 i.d] 113) := ⟨_, rfl⟩
  have hb1 : Below w.heap.size w w1 := by rw [hw1]; exact (Below.refl _ _).alloc (Nat.le_refl _) _
  have hk1 := (MapKept.heap_alloc w (.cells #[.int .u8 i.a, .int .u8 i.b, .int .u8 i.c, .int .u8 i.d] 113)).1
  rw [← hw1] at hk1
  have h1 := h.below hb1
  have HD : Hid (Calls Tryz.prog 191 #[pv, .func (.func 192) #[] #[.pointer (some ⟨w.heap.size, 0, none⟩)]] w1 fun e w' => ∃ v, e = .returned v ∧ w'.ownsRow B 149 5 v (Ps.filter fun P => !decide (P.id = i)).length (pmCells (Ps.filter fun P => !decide (P.id = i))) ∧ w1.grownBy w' pv.ownBlock) := del191_any Ps (fun P => decide (P.id = i)) 192 w.heap.size _ (fun _ _ => by kernel_rfl) pv B w1 h1.own h1.chs (by omega) hk1 (fun A fz e => by simp at e) (fun P hP u hu => drop192_any P i w.heap.size u (h1.chs P hP).cvS hu)
  have r1 := h1.r0
  have HH1 : Hid (OneAt w1 B pb rg cap gb pv Ps fb fn f G) := h1
  have hBq : ∀ q, pv.ownBlock = some q → B ≤ q := fun q hq => (h.own.lt q hq).1
  have HBQ : Hid (∀ q, pv.ownBlock = some q → B ≤ q) := hBq
  have hBr := h.lo.2.1
  clear hk1 h1 h hBq
  obtain ⟨pa, pn, pc, rfl⟩ : ∃ a n c, pv = .slice a n c := by
    rcases HH1.out.own.2 with ⟨rfl, _⟩ | ⟨g, cap, cur, rfl, _⟩
    · exact ⟨_, _, _, rfl⟩
    · exact ⟨_, _, _, rfl⟩
  subst hw1
  go_enter Tryz.func127, Tryz.ntmps127
  go_wp2_with fail
  refine HD.out.mono ?_
  rintro e w2 ⟨v2, rfl, ho2, hg2⟩
  clear HD r1
  obtain ⟨hO, hH, hF⟩ := HH1.out.shrink hg2 ho2 (fun P hP => (List.mem_filter.1 hP).1)
  have hne : rg < w.heap.size + 1 := by have := HH1.out.lts.2.1; simpa using this
  have hA2 : ∃ A, w2.heap[rg]? = some (.cells A 87 (0, 0)) ∧ 0 < A.size := by
    obtain ⟨A, hA, hA0, _⟩ := HH1.out.row
    refine ⟨A, (hg2.block rg HH1.out.lts.2.1 (fun e => ?_)).trans hA, (Array.getElem?_eq_some_iff.1 hA0).1⟩
    obtain ⟨cs, fz, hq⟩ := own_TB HH1.out.own e.symm
    rw [hA] at hq
    simp at hq
  obtain ⟨A, hA, hAs⟩ := hA2
  have c2 : ∃ u, w2.cell? ⟨rg, 0, none⟩ = some u := ⟨A[0], by simp [World.cell?, hA, hAs]⟩
  obtain ⟨u, c2⟩ := c2
  have fz2 : w2.frozen? ⟨rg, 0, none⟩ = false := free3 hA 0
  obtain ⟨va, vn, vc, rfl⟩ : ∃ a n c, v2 = .slice a n c := by
    rcases ho2.2 with ⟨rfl, _⟩ | ⟨g, cap, cur, rfl, _⟩
    · exact ⟨_, _, _, rfl⟩
    · exact ⟨_, _, _, rfl⟩
  have hsz : w.heap.size ≤ w2.heap.size := Nat.le_trans hb1.size hg2.size
  have hbB : Below B w (w2.setCell ⟨rg, 0, none⟩ (.slice va vn vc)) :=
    ⟨hg2.os.trans hb1.os, hg2.tape.trans hb1.tape, hg2.output.trans hb1.output, by simpa [World.setCell] using hsz, fun k hk => (hF k (by have := hb1.size; omega) (by omega) (fun q hq => by have := HBQ.out q hq; omega)).trans (hb1.block k (by omega))⟩
  have hH9 : HeldT (fun t => t = 9 ∨ t = 53) w (w2.setCell ⟨rg, 0, none⟩ (.slice va vn vc)) := (HeldT.of_below hb1).trans (hH _ (by decide) (by decide))
  have HO : Hid (OneAt (w2.setCell ⟨rg, 0, none⟩ (.slice va vn vc)) B pb rg cap gb (.slice va vn vc) (Ps.filter fun P => !decide (P.id = i)) fb fn f G) := hO
  clear hO hH hF ho2 hg2 hA hAs
  go_wp2
  refine bodyPost_end (results_none rfl _ _ _) rfl ?_
  exact ⟨rfl, _, HO.out, hbB, hH9⟩

/-- What unrecord leaves. -/
def leftP (Ps : List PM) (i : Pid) : List PM := if (leaveR Ps i).2 = 0 then Ps.filter fun P => !decide (P.id = i) else Ps
set_option maxRecDepth 100000 in
set_option maxHeartbeats 1600000 in
theorem OneAt.unrecord (h : OneAt w B pb rg cap gb pv Ps fb fn f G) (hB : B ≤ w.heap.size) (i : Pid) (hl : Ps.length ≤ 10000) (hsm : ∀ P ∈ Ps, P.Cs.length ≤ 1000 ∧ ∀ d ∈ P.Cs, ChSmall d.2) :
    Calls Tryz.prog 73 #[.pointer (some ⟨rg, 0, none⟩), .agg #[.int .u8 i.a, .int .u8 i.b, .int .u8 i.c, .int .u8 i.d]] w fun e w' => e = .returned (.tuple #[.string (leaveR Ps i).1, .int .i64 (leaveR Ps i).2]) ∧ ∃ pv', OneAt w' B pb rg cap gb pv' (leftP Ps i) fb fn f G ∧ Below B w w' ∧ HeldT (fun t => t = 9 ∨ t = 53) w w' := by
  obtain ⟨w1, hw1⟩ : ∃ w1, w1 = w.alloc (.cells #[.int .u8 i.a, .int .u8 i.b, .int .u8 i.c, .int .u8 i.d] 113) := ⟨_, rfl⟩
  have hb1 : Below w.heap.size w w1 := by rw [hw1]; exact (Below.refl _ _).alloc (Nat.le_refl _) _
  have hk1 := (MapKept.heap_alloc w (.cells #[.int .u8 i.a, .int .u8 i.b, .int .u8 i.c, .int .u8 i.d] 113)).1
  rw [← hw1] at hk1
  have hs1 : w.heap.size < w1.heap.size := by rw [hw1]; simp
  have h1 := h.below hb1
  have HK : Hid (w1.heap[w.heap.size]? = some (.cells #[.int .u8 i.a, .int .u8 i.b, .int .u8 i.c, .int .u8 i.d] 113 (0, 0))) := hk1
  obtain ⟨i0, i1, i2, i3⟩ := cells4_at hk1
  have HL : Hid (Calls Tryz.prog 126 #[.pointer (some ⟨rg, 0, none⟩), .agg #[.int .u8 i.a, .int .u8 i.b, .int .u8 i.c, .int .u8 i.d]] w1 fun e w' => e = .returned (.tuple #[.string (leaveR Ps i).1, .int .i64 (leaveR Ps i).2]) ∧ Below w1.heap.size w1 w') := leave126_any Ps pv i rg 0 w1 h1.view hl h1.r0 h1.lts.2.1 hsm
  have HH1 : Hid (OneAt w1 B pb rg cap gb pv Ps fb fn f G) := h1
  obtain ⟨T, C, hTC⟩ : ∃ T C, leaveR Ps i = (T, C) := ⟨_, _, rfl⟩
  have HTE : Hid (C = 0 → T = ⟨#[]⟩) := by
    show C = 0 → T = ⟨#[]⟩
    rintro rfl
    unfold leaveR at hTC
    split at hTC
    · cases hTC
    · split at hTC <;> cases hTC
      rfl
  unfold leftP
  rw [hTC] at HL ⊢
  simp only at HL ⊢
  clear hk1 h1 h hTC
  go_enter Tryz.func73, Tryz.ntmps73
  go_wp2_with fail
  rw [← hw1]
  clear hw1
  go_wp2_with fail
  refine HL.out.mono ?_
  rintro e w2 ⟨rfl, hb2⟩
  clear HL i0 i1 i2 i3
  have HH2 : Hid (OneAt w2 B pb rg cap gb pv Ps fb fn f G) := HH1.out.below hb2
  have hb02 : Below w.heap.size w w2 := hb1.trans (hb2.mono hb1.size)
  have hs2 := hb02.size
  obtain ⟨i0, i1, i2, i3⟩ := cells4_at ((hb2.block _ hs1).trans HK.out)
  by_cases hC : C = 0
  · subst hC
    have HD : Hid (Calls Tryz.prog 127 #[.pointer (some ⟨rg, 0, none⟩), .agg #[.int .u8 i.a, .int .u8 i.b, .int .u8 i.c, .int .u8 i.d]] w2 fun e w' => e = .returned (.tuple #[]) ∧ ∃ pv', OneAt w' B pb rg cap gb pv' (Ps.filter fun P => !decide (P.id = i)) fb fn f G ∧ Below B w2 w' ∧ HeldT (fun t => t = 9 ∨ t = 53) w2 w') := HH2.out.drop (by omega) i hl
    have HT : Hid (T = ⟨#[]⟩) := HTE.out rfl
    go_wp2_with fail
    refine HD.out.mono ?_
    rintro e w3 ⟨rfl, pv', hO, hb3, hh3⟩
    clear HD i0 i1 i2 i3
    have HO : Hid (OneAt w3 B pb rg cap gb pv' (Ps.filter fun P => !decide (P.id = i)) fb fn f G) := hO
    clear hO
    go_wp2
    go_ret2
    exact ⟨by rw [HT.out]; rfl, ⟨pv', HO.out⟩, (hb02.mono hB).trans hb3, (HeldT.of_below hb02).trans hh3⟩
  · have hCb : (C == 0) = false := by simpa using hC
    clear i0 i1 i2 i3
    go_wp2
    go_ret2
    exact ⟨rfl, ⟨pv, HH2.out⟩, hb02.mono hB, HeldT.of_below hb02⟩
end
end Go.Proofs.YtgdfipmdmgkidaaGreatDoor

/- A repository's patches, as they were recorded: what they make; a record, and a record that is taken back. -/
namespace Go.Proofs.YtgdfipmdmgkidaaGreatDoor
open Go.RowKit

/-- Patches that stand one behind the other, and all that holds of them. -/
def RepoG (Ps : List PM) (s : ByteArray → PL) : Prop := ∃ st cnt, Stands Ps st cnt ∧ st Ps.length 0 = s ∧ cnt Ps.length ≤ 50 * Ps.length ∧ GoodT Ps s ∧ Ps.length ≤ 40 ∧ (Ps.map (·.id)).Nodup
theorem RepoG.nil : RepoG [] (fun _ => pl0) :=
  ⟨fun _ _ _ => pl0, fun _ => 0, ⟨rfl, fun p P h => by simp at h, fun p P k c h => by simp at h, fun p P k c h => by simp at h, by simp, by simp, fun p P h => by simp at h, fun _ => Nat.zero_le _⟩, rfl, Nat.zero_le _, GoodT.nil, by simp, by simp⟩

theorem RepoG.record {Ps : List PM} {s : ByteArray → PL} (h : RepoG Ps s) (hl : Ps.length < 40) {i : Pid} (hi : i ∉ Ps.map (·.id)) (hiz : i ≠ zid) {Fs : List Fl} {Cs : List (ByteArray × ChM)} {m : Nat → Int} (hF : ∀ g ∈ Fs, FlGood s g) (hn : ∀ g ∈ Fs, g.name.size ≤ 1000) (hM : MadeAll s i Fs Cs m) (hnd : (Fs.map (·.name)).Nodup) (hFs : Fs.length ≤ 50) (cv : Value) :
    ∃ s', RepoG (Ps ++ [⟨i, cv, Cs⟩]) s' ∧ (∀ g ∈ Fs, (s' g.name).alive = g.there ∧ (g.there = true → rowLines (s' g.name).S = cutAll g.text)) ∧ (∀ x, (∀ g ∈ Fs, g.name ≠ x) → s' x = s x) ∧ leaveR (Ps ++ [⟨i, cv, Cs⟩]) i = (⟨#[]⟩, 0) ∧ ((Ps ++ [(⟨i, cv, Cs⟩ : PM)]).filter fun P => !decide (P.id = i)) = Ps := by
  obtain ⟨st, cnt, hS, hs, hc, hG, _, hids⟩ := h
  have hname : ∀ (k : Nat) (c : ByteArray × ChM), Cs[k]? = some c → ∃ g, Fs[k]? = some g ∧ c.1 = g.name := fun k c hk => by
    have hkF : k < Fs.length := by rw [← hM.len]; exact (List.getElem?_eq_some_iff.1 hk).1
    exact ⟨_, List.getElem?_eq_getElem hkF, (hM.at_ k _ c (List.getElem?_eq_getElem hkF) hk).1⟩
  have hnd2 : (Cs.map (·.1)).Nodup := by
    have e : Cs.map (·.1) = Fs.map (·.name) := by
      apply List.ext_getElem?
      intro k
      rw [List.getElem?_map, List.getElem?_map]
      cases hk : Cs[k]? with
      | none =>
        have : Fs.length ≤ k := by rw [← hM.len]; exact List.getElem?_eq_none_iff.1 hk
        rw [List.getElem?_eq_none this]
        rfl
      | some c =>
        obtain ⟨g, hg, e⟩ := hname k c hk
        rw [hg]
        simp [e]
    rw [e]
    exact hnd
  obtain ⟨P', h1, h2, h3, h4, h5⟩ := good_record hG hl hi hiz hF hM hnd2 hFs cv
  have hCl : Cs.length ≤ 50 := by rw [hM.len]; exact hFs
  refine ⟨stAt s Cs P' Cs.length, ⟨fun p k => if p < Ps.length then st p k else if p = Ps.length then stAt s Cs P' k else stAt s Cs P' Cs.length, fun p => if p ≤ Ps.length then cnt p else cnt Ps.length + Cs.length, ⟨?_, fun p P hP => ?_, fun p P k c hP hk x hx => ?_, fun p P k c hP hk => ?_, fun P hP c hc' => ?_, fun P hP => ?_, fun p P hP => ?_, fun p => ?_⟩, ?_, ?_, h2, by simp; omega, ?_⟩, fun g hg => ?_, h4, ?_, ?_⟩
  · by_cases e : 0 < Ps.length
    · simp only [if_pos e]
      exact hS.start
    · have e0 : Ps.length = 0 := by omega
      simp only [e0]
      simp only [Nat.lt_irrefl, if_false, if_true]
      rw [stAt_zero, ← hs, e0]
      exact hS.start
  · by_cases e : p < Ps.length
    · rw [List.getElem?_append_left e] at hP
      simp only [if_pos e]
      by_cases e2 : p + 1 < Ps.length
      · simp only [if_pos e2]
        exact hS.next p P hP
      · have e3 : p + 1 = Ps.length := by omega
        simp only [if_neg e2, if_pos e3]
        rw [stAt_zero, ← hs, ← e3]
        exact hS.next p P hP
    · have e2 : p = Ps.length := by
        have := (List.getElem?_eq_some_iff.1 hP).1
        simp at this
        omega
      subst e2
      rw [List.getElem?_append_right (Nat.le_refl _), Nat.sub_self] at hP
      cases hP
      simp
      omega
  · by_cases e : p < Ps.length
    · rw [List.getElem?_append_left e] at hP
      simp only [if_pos e]
      exact hS.other p P k c hP hk x hx
    · have e2 : p = Ps.length := by
        have := (List.getElem?_eq_some_iff.1 hP).1
        simp at this
        omega
      subst e2
      rw [List.getElem?_append_right (Nat.le_refl _), Nat.sub_self] at hP
      cases hP
      simp only [Nat.lt_irrefl, if_false, if_true]
      simp only at hk
      unfold stAt
      rw [List.take_add_one, hk]
      simp only [Option.toList_some, List.findIdx?_append]
      have : ([c].findIdx? fun d => decide (d.1 = x)) = none := by
        simp [List.findIdx?_cons, Ne.symm hx]
      rw [this]
      simp
  · by_cases e : p < Ps.length
    · rw [List.getElem?_append_left e] at hP
      simp only [if_pos e]
      exact hS.app p P k c hP hk
    · have e2 : p = Ps.length := by
        have := (List.getElem?_eq_some_iff.1 hP).1
        simp at this
        omega
      subst e2
      rw [List.getElem?_append_right (Nat.le_refl _), Nat.sub_self] at hP
      cases hP
      simp only [Nat.lt_irrefl, if_false, if_true]
      exact h1 k c hk
  · rcases List.mem_append.1 hP with hP | hP
    · exact hS.names P hP c hc'
    · rw [List.mem_singleton.1 hP] at hc'
      obtain ⟨k, hk⟩ := List.mem_iff_getElem?.1 hc'
      obtain ⟨g, hg, e⟩ := hname k c hk
      rw [e]
      exact hn g (List.mem_of_getElem? hg)
  · rcases List.mem_append.1 hP with hP | hP
    · exact hS.few P hP
    · rw [List.mem_singleton.1 hP]
      show Cs.length ≤ 1000
      omega
  · by_cases e : p < Ps.length
    · rw [List.getElem?_append_left e] at hP
      simp only [if_pos (show p + 1 ≤ Ps.length by omega), if_pos (show p ≤ Ps.length by omega)]
      exact hS.count p P hP
    · have e2 : p = Ps.length := by
        have := (List.getElem?_eq_some_iff.1 hP).1
        simp at this
        omega
      subst e2
      rw [List.getElem?_append_right (Nat.le_refl _), Nat.sub_self] at hP
      cases hP
      simp
      omega
  · show (if p ≤ Ps.length then cnt p else cnt Ps.length + Cs.length) ≤ 100000
    split
    · exact hS.small p
    · omega
  · simp
    omega
  · simp only [List.length_append, List.length_singleton, if_neg (show ¬ Ps.length + 1 ≤ Ps.length by omega)]
    omega
  · simp only [List.map_append, List.map_cons, List.map_nil, List.nodup_append]
    exact ⟨hids, by simp, fun a ha b hb e => by rw [List.mem_singleton] at hb; subst hb; exact hi (e ▸ ha)⟩
  · obtain ⟨k, hk⟩ := List.mem_iff_getElem?.1 hg
    exact h3 k g hk
  · have hold : ∀ P ∈ Ps, ¬ (P.id = i) := fun P hP e => hi (e ▸ List.mem_map.2 ⟨P, hP, rfl⟩)
    have f1 : ((Ps ++ [(⟨i, cv, Cs⟩ : PM)]).find? fun P => decide (P.id = i)) = some ⟨i, cv, Cs⟩ := by
      rw [List.find?_append]
      have : (Ps.find? fun P => decide (P.id = i)) = none := by
        rw [List.find?_eq_none]
        intro P hP
        simpa using hold P hP
      rw [this]
      simp
    have f2 : ((Ps ++ [(⟨i, cv, Cs⟩ : PM)]).find? fun Q => needsP Q ⟨i, cv, Cs⟩) = none := by
      rw [List.find?_eq_none]
      intro Q hQ
      rw [h5 Q hQ]
      simp
    unfold leaveR
    rw [f1]
    simp only
    rw [f2]
  · rw [List.filter_append]
    have : (Ps.filter fun P : PM => !decide (P.id = i)) = Ps := by
      rw [List.filter_eq_self]
      intro P hP
      have : P.id ≠ i := fun e => hi (e ▸ List.mem_map.2 ⟨P, hP, rfl⟩)
      simpa using this
    rw [this]
    simp
end Go.Proofs.YtgdfipmdmgkidaaGreatDoor
