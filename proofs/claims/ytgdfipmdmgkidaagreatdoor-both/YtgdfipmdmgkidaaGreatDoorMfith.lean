/- Does a hunk fit? -/
import Derived.Test.YtgdfipmdmgkidaaGreatDoorUwr
import Derived.Laws.ResultCell
namespace Go.Proofs.YtgdfipmdmgkidaaGreatDoor
open Go.RowKit
def fitsH (N F : List Spot) (t : Spot) : Bool := match idxS F t with
  | none => false
  | some k => decide ((F.drop k).take N.length = N)
set_option maxRecDepth 100000 in
set_option maxHeartbeats 6400000 in
theorem fits358_any (N Br F : List Spot) (t : Spot) (hN0 : N[0]? = some t) (nv bv fv : Value) (w : World) (hn : SV w nv N) (hbr : SV w bv Br) (hv : SV w fv F) (hNl : N.length ≤ 1000000) (hFl : F.length ≤ 1000000) :
    Calls Tryz.prog 358 #[.agg #[nv, bv], fv] w fun e w' => e = .returned (.bool (fitsH N F t)) ∧ Below w.heap.size w w' := by
  obtain ⟨na, nc, rfl⟩ := hn.shape
  obtain ⟨ba, bc, rfl⟩ := hbr.shape
  obtain ⟨fa, fc, rfl⟩ := hv.shape
  obtain ⟨w1, hw1⟩ : ∃ w1, w1 = w.alloc (.cells #[.slice na N.length nc, .slice ba Br.length bc] 327) := ⟨_, rfl⟩
  have hb1 : Below w.heap.size w w1 := by rw [hw1]; exact (Below.refl _ _).alloc (Nat.le_refl _) _
  have hk1 : w1.heap[w.heap.size]? = some (.cells #[.slice na N.length nc, .slice ba Br.length bc] 327 (0, 0)) := by rw [hw1]; exact (MapKept.heap_alloc w _).1
  obtain ⟨c0, c1⟩ := cells2_of hk1
  have hs1 : w.heap.size < w1.heap.size := by rw [hw1]; simp
  have HPL := hid (place250_any N F t hN0 (.slice na N.length nc) (.slice ba Br.length bc) (.slice fa F.length fc) ba Br.length bc rfl w1 (hn.below hb1 (Nat.le_refl _)) (hv.below hb1 (Nat.le_refl _)) hFl)
  have HN := hid hn
  have HV := hid hv
  have HK1 := hid hk1
  have HB1 := hid hb1
  clear hn hbr hv hk1 hb1
  go_enter Tryz.func358, Tryz.ntmps358
  go_upto_region 1 with fail
  rw [← hw1]
  clear hw1
  go_wp2_with fail
  refine HPL.out.mono ?_
  rintro e w2 ⟨rfl, hb2⟩
  clear HPL c0 c1
  have hb02 : Below w.heap.size w w2 := HB1.out.trans (hb2.mono HB1.out.size)
  have hk2 := (hb2.block _ hs1).trans HK1.out
  obtain ⟨d0, d1⟩ := cells2_of hk2
  have hF2 := HV.out.below hb02 (Nat.le_refl _)
  have hN2 := HN.out.below hb02 (Nat.le_refl _)
  clear hb2 hk2 HK1 HB1 HV HN
  cases hi : idxS F t with
  | none =>
    have HI := hid hi
    simp only [idxInt]
    have j4 : decide ((-1 : Int) ≥ 0) = false := by decide
    clear hi hF2 hN2
    go_wp2_with fail
    go_quiet (fail)
    have hbz : Below w.heap.size w (w2.drewN nq) := below_drewN hb02 nq
    go_wp2
    go_ret
    exact ⟨by unfold fitsH; rw [HI.out]; rfl, hbz⟩
  | some k =>
    have HI := hid hi
    have hkl : k < F.length := by
      unfold idxS at hi
      rw [List.findIdx?_eq_some_iff_getElem] at hi
      exact hi.1
    simp only [idxInt]
    clear hi
    obtain ⟨fb, fo, rfl⟩ : ∃ fb fo, fa = some ⟨fb, fo, none⟩ := by
      rcases hF2 with ⟨_, h⟩ | ⟨b, o, c, h, _⟩
      · rw [h] at hkl
        simp at hkl
      · cases h
        exact ⟨_, _, rfl⟩
    have hfc : F.length ≤ fc := by
      rcases hF2 with ⟨h, _⟩ | ⟨b, o, c, h, h2, _⟩
      · cases h
      · cases h
        exact h2
    by_cases hm : (F.length : Int) < (k : Int) + (N.length : Int)
    · obtain ⟨y, hy⟩ : ∃ y, F.length = y := ⟨_, rfl⟩
      have HEQ : Hid (∀ m, Calls Tryz.prog 346 #[.slice (some ⟨fb, fo + k * 7, none⟩) (y - k) (fc - k), .slice na N.length nc] (w2.drewN m) fun e w' => e = .returned (.bool (decide ((F.take y).drop k = N))) ∧ ∃ q, w' = (w2.drewN m).drewN q) := fun m => equal346_any ((F.take y).drop k) N _ _ (w2.drewN m) ((hF2.below (below_drewN (Below.refl _ _) m) (Nat.le_refl _)).part k y (by omega) (by omega)) (hN2.below (below_drewN (Below.refl _ _) m) (Nat.le_refl _)) (by rw [List.length_drop, List.length_take]; omega) hNl
      have HR : Hid (decide ((F.take y).drop k = N) = fitsH N F t) := by
        show _ = _
        unfold fitsH
        rw [HI.out]
        congr 1
        rw [List.drop_take]
        rw [List.take_of_length_le (by rw [List.length_drop]; omega), List.take_of_length_le (by rw [List.length_drop]; omega)]
      have hyk : ((y : Int) - (k : Int)).toNat = y - k := by omega
      have j1 : (k : Int) ≤ (y : Int) := by omega
      have j2 : (y : Int) ≤ (fc : Int) := by omega
      have j3 : (0 : Int) ≤ (k : Int) := by omega
      have j4 : decide ((k : Int) ≥ 0) = true := by simp
      have j5 : (0 : Int) ≤ (y : Int) := by omega
      rw [hy] at hm hfc hkl hFl
      have hwr : IntKind.i64.wrap ((k : Int) + (N.length : Int)) = (k : Int) + (N.length : Int) := by simp (disch := omega) only [IntWalk.i64_in]
      have hmin : min ((k : Int) + (N.length : Int)) (y : Int) = (y : Int) := by omega
      clear hF2 hN2
      go_wp2_with fail
      go_quiet (first | (go_at_call 346; exact Calls.quiet_of (HEQ.out _)))
      have hbz : Below w.heap.size w (w2.drewN nq) := below_drewN hb02 nq
      go_wp2
      go_ret
      exact ⟨by rw [← HR.out]; rfl, hbz⟩
    · obtain ⟨y, hy⟩ : ∃ y, k + N.length = y := ⟨_, rfl⟩
      have HEQ : Hid (∀ m, Calls Tryz.prog 346 #[.slice (some ⟨fb, fo + k * 7, none⟩) (y - k) (fc - k), .slice na N.length nc] (w2.drewN m) fun e w' => e = .returned (.bool (decide ((F.take y).drop k = N))) ∧ ∃ q, w' = (w2.drewN m).drewN q) := fun m => equal346_any ((F.take y).drop k) N _ _ (w2.drewN m) ((hF2.below (below_drewN (Below.refl _ _) m) (Nat.le_refl _)).part k y (by omega) (by omega)) (hN2.below (below_drewN (Below.refl _ _) m) (Nat.le_refl _)) (by rw [List.length_drop, List.length_take]; omega) hNl
      have HR : Hid (decide ((F.take y).drop k = N) = fitsH N F t) := by
        show _ = _
        unfold fitsH
        rw [HI.out]
        congr 1
        rw [List.drop_take]
        rw [← hy, Nat.add_sub_cancel_left]
      have hyk : ((y : Int) - (k : Int)).toNat = y - k := by omega
      have j1 : (k : Int) ≤ (y : Int) := by omega
      have j2 : (y : Int) ≤ (fc : Int) := by omega
      have j3 : (0 : Int) ≤ (k : Int) := by omega
      have j4 : decide ((k : Int) ≥ 0) = true := by simp
      have j5 : (0 : Int) ≤ (y : Int) := by omega
      have hwr : IntKind.i64.wrap ((k : Int) + (N.length : Int)) = (y : Int) := by
        have : (k : Int) + (N.length : Int) = (y : Int) := by omega
        rw [this]
        simp (disch := omega) only [IntWalk.i64_in]
      have hmin : min (y : Int) (F.length : Int) = (y : Int) := by omega
      clear hF2 hN2
      go_wp2_with fail
      go_quiet (first | (go_at_call 346; exact Calls.quiet_of (HEQ.out _)))
      have hbz : Below w.heap.size w (w2.drewN nq) := below_drewN hb02 nq
      go_wp2
      go_ret
      exact ⟨by rw [← HR.out]; rfl, hbz⟩
end Go.Proofs.YtgdfipmdmgkidaaGreatDoor

/- Does a change fit what is kept of its file? -/
set_option maxHeartbeats 3200000
set_option maxRecDepth 100000
namespace Go.Proofs.YtgdfipmdmgkidaaGreatDoor
open Go.RowKit
def hkV (h : Hk) : Value := .agg #[h.nv, h.bv]
theorem idxf363_any (S : List Hk) (p : Hk → Bool) (g : FuncId) (lb : Array Value) (eg : ∀ args w, (callFunc g args).run Tryz.prog w = .ok (.enter g args) w) (v0 : Value) (w : World) (hv : HV w v0 S) (hlen : S.length ≤ 1000000)
    (hp : ∀ s ∈ S, ∀ u, Below w.heap.size w u → Calls Tryz.prog g (#[hkV s] ++ lb) u fun e w' => e = .returned (.bool (p s)) ∧ Below u.heap.size u w') :
    Calls Tryz.prog 363 #[v0, .func (.func g) #[] lb] w fun e w' => e = .returned (.int .i64 (idxInt (S.findIdx? p))) ∧ Below w.heap.size w w' := by
  have HV := hid hv
  obtain ⟨ao, cap, rfl, _⟩ := hv
  have HP := hid hp
  clear hp
  go_enter Tryz.func363, Tryz.ntmps363
  go_wp2
  go_loopw [5, 8] (fun _ i wr => ∃ k : Nat, k ≤ S.length ∧ i = .int .i64 k ∧ Hid (∀ i (hi : i < S.length), i < k → p S[i] = false) ∧ Below w.heap.size w wr) (fun _ i _ => S.length - (intOf i).toNat)
  case atStart => exact ⟨0, Nat.zero_le _, rfl, (fun i _ h => by omega), Below.refl _ _⟩
  case round =>
    obtain ⟨k, hk, rfl, HN, hbw⟩ := hrel
    by_cases hlt : k < S.length
    · have hs : S[k]? = some S[k] := List.getElem?_eq_getElem hlt
      obtain ⟨_, _, e1, hcc⟩ := HV.out.below hbw (Nat.le_refl _)
      cases e1
      obtain ⟨b, o, rfl, hb, c0, c1, s1, s2⟩ := hcc k _ hs
      clear hcc
      obtain ⟨s, hss⟩ : ∃ s, S[k] = s := ⟨_, rfl⟩
      have hcall := HP.out S[k] (List.getElem_mem hlt) wr hbw
      rw [hss] at c0 c1 hcall s1 s2
      obtain ⟨a1, d1, e1⟩ := s1.shape
      obtain ⟨a2, d2, e2⟩ := s2.shape
      have HT := hid hss
      clear hss hs s1 s2
      unfold hkV at hcall
      rw [e1, e2] at hcall
      rw [e1] at c0
      rw [e2] at c1
      clear e1 e2
      cases hq : p s with
      | true =>
        rw [hq] at hcall
        go_wp2_with (go_at_fn g; refine hcall.mono ?_; rintro e w' ⟨rfl, hb'⟩)
        go_ret
        exact ⟨ret_int (by rw [find_hit hlt (by rw [HT.out]; exact hq) HN.out]; rfl), hbw.trans (hb'.mono hbw.size)⟩
      | false =>
        rw [hq] at hcall
        go_wp2_with (go_at_fn g; refine hcall.mono ?_; rintro e w' ⟨rfl, hb'⟩)
        go_roundw
        case rel =>
          refine ⟨k + 1, by omega, by go_num, fun i hi h => ?_, hbw.trans (hb'.mono hbw.size)⟩
          by_cases e : i = k
          · subst e; rw [HT.out]; exact hq
          · exact HN.out i hi (by omega)
        case measure => simp [intOf]; omega
    · obtain rfl : k = S.length := by omega
      go_wp2
      go_ret
      exact ⟨ret_int (by rw [find_miss (fun i hi => HN.out i hi hi)]; rfl), hbw⟩
theorem anyf359_any (S : List Hk) (p : Hk → Bool) (g : FuncId) (lb : Array Value) (eg : ∀ args w, (callFunc g args).run Tryz.prog w = .ok (.enter g args) w) (v0 : Value) (w : World) (hv : HV w v0 S) (hlen : S.length ≤ 1000000)
    (hp : ∀ s ∈ S, ∀ u, Below w.heap.size w u → Calls Tryz.prog g (#[hkV s] ++ lb) u fun e w' => e = .returned (.bool (p s)) ∧ Below u.heap.size u w') :
    Calls Tryz.prog 359 #[v0, .func (.func g) #[] lb] w fun e w' => e = .returned (.bool (S.any p)) ∧ Below w.heap.size w w' := by
  have HC := hid (idxf363_any S p g lb eg v0 w hv hlen hp)
  have HD := hid (idx_any S p)
  obtain ⟨n, hn⟩ : ∃ n, idxInt (S.findIdx? p) = n := ⟨_, rfl⟩
  rw [hn] at HC HD
  clear hp eg hv hn
  go_enter Tryz.func359, Tryz.ntmps359
  go_wp2_with fail
  refine HC.out.mono ?_
  rintro e w' ⟨rfl, hb⟩
  clear HC
  go_wp2
  go_ret
  exact ⟨by rw [← HD.out]; rfl, hb⟩
def fitsK (F : List Spot) (h : Hk) : Bool := match h.N with
  | [] => false
  | t :: _ => fitsH h.N F t
theorem stray357_any (h : Hk) (F : List Spot) (fv : Value) (ib : Nat) (w : World) (hi : w.heap[ib]? = some (.cells #[fv] 183 (0, 0))) (hn : SV w h.nv h.N) (hb : SV w h.bv h.Br) (hF : SV w fv F) (h2 : 2 ≤ h.N.length) (hNl : h.N.length ≤ 1000000) (hFl : F.length ≤ 1000000) :
    Calls Tryz.prog 357 #[hkV h, .pointer (some ⟨ib, 0, none⟩)] w fun e w' => e = .returned (.bool (!fitsK F h)) ∧ Below w.heap.size w w' := by
  obtain ⟨t, ht⟩ : ∃ t, h.N[0]? = some t := ⟨_, List.getElem?_eq_getElem (by omega)⟩
  have hK : fitsK F h = fitsH h.N F t := by
    unfold fitsK
    cases hN : h.N with
    | nil => rw [hN] at ht; simp at ht
    | cons x N =>
      rw [hN] at ht
      simp at ht
      rw [ht]
  have hib := (Array.getElem?_eq_some_iff.1 hi).1
  obtain ⟨na, nc, en⟩ := hn.shape
  obtain ⟨ba, bc, eb⟩ := hb.shape
  obtain ⟨fa, fc, ef⟩ := hF.shape
  unfold hkV
  rw [en] at hn ⊢
  rw [eb] at hb ⊢
  subst ef
  obtain ⟨w1, hw1⟩ : ∃ w1, w1 = w.alloc (.cells #[.slice na h.N.length nc, .slice ba h.Br.length bc] 327) := ⟨_, rfl⟩
  have hb1 : Below w.heap.size w w1 := by rw [hw1]; exact (Below.refl _ _).alloc (Nat.le_refl _) _
  have hk1 : w1.heap[w.heap.size]? = some (.cells #[.slice na h.N.length nc, .slice ba h.Br.length bc] 327 (0, 0)) := by rw [hw1]; exact (MapKept.heap_alloc w _).1
  obtain ⟨c0, c1⟩ := cells2_of hk1
  have hi1 := (hb1.block ib hib).trans hi
  have d0 : w1.cell? ⟨ib, 0, none⟩ = some (.slice fa F.length fc) := by simp [World.cell?, hi1]
  have HF := hid (fits358_any h.N h.Br F t ht (.slice na h.N.length nc) (.slice ba h.Br.length bc) (.slice fa F.length fc) w1 (hn.below hb1 (Nat.le_refl _)) (hb.below hb1 (Nat.le_refl _)) (hF.below hb1 (Nat.le_refl _)) hNl hFl)
  rw [hK]
  clear hi hi1 hk1 hn hb hF hK ht en eb
  go_enter Tryz.func357, Tryz.ntmps357
  go_upto_region 1 with fail
  rw [← hw1]
  clear hw1
  go_wp2_with fail
  refine HF.out.mono ?_
  rintro e w2 ⟨rfl, hb2⟩
  clear HF
  go_wp2
  go_ret
  exact ⟨rfl, hb1.trans (hb2.mono hb1.size)⟩
end Go.Proofs.YtgdfipmdmgkidaaGreatDoor

/- The three kinds of change: do they fit? -/
set_option maxHeartbeats 6400000
set_option maxRecDepth 100000
namespace Go.Proofs.YtgdfipmdmgkidaaGreatDoor
open Go.RowKit
def fitsC : ChM → PL → Bool
  | .add _ l _ _, p => !p.alive && decide (p.by_ = l)
  | .remove i _ S, p => p.alive && decide (p.by_ = i) && decide (p.S = S)
  | .alter i _ Hs, p => p.alive && decide (p.by_ = i) && !(Hs.any fun h => !fitsK (framed p.S) h)
def chFits : ChM → FuncId
  | .add .. => 333
  | .remove .. => 341
  | .alter .. => 351
theorem meth_fits (c : ChM) (w : World) : (method 512 (chT c) (chIn c) "stitch/patch.fits").run Tryz.prog w = .ok (chFits c, chIn c) w := by
  cases c <;> kernel_rfl
theorem fits333_any (i l : Pid) (rv : Value) (S : List Spot) (a : Lat) (w : World) (hr : SV w rv S) (ha : SV w a.rv a.S) :
    Calls Tryz.prog 333 #[chIn (.add i l rv S), latV a] w fun e w' => e = .returned (.bool (!a.alive && decide (a.by_ = l))) ∧ Below w.heap.size w w' := by
  obtain ⟨ra, rc, e1⟩ := hr.shape
  obtain ⟨aa, ac, e2⟩ := ha.shape
  unfold chIn latV
  simp only
  rw [e1, e2]
  obtain ⟨w2, hw2⟩ : ∃ w2, w2 = (w.alloc (.cells #[.int .u8 i.a, .int .u8 i.b, .int .u8 i.c, .int .u8 i.d, .int .u8 l.a, .int .u8 l.b, .int .u8 l.c, .int .u8 l.d, .slice ra S.length rc] 282)).alloc (.cells #[.int .u8 a.by_.a, .int .u8 a.by_.b, .int .u8 a.by_.c, .int .u8 a.by_.d, .bool a.alive, .slice aa a.S.length ac] 185) := ⟨_, rfl⟩
  obtain ⟨hb2, hs2, hA, hR⟩ := two_blocks' w _ _ hw2
  have p4 : w2.cell? ⟨w.heap.size, 4, none⟩ = some (.int .u8 l.a) := by simp [World.cell?, hA]
  have p5 : w2.cell? ⟨w.heap.size, 5, none⟩ = some (.int .u8 l.b) := by simp [World.cell?, hA]
  have p6 : w2.cell? ⟨w.heap.size, 6, none⟩ = some (.int .u8 l.c) := by simp [World.cell?, hA]
  have p7 : w2.cell? ⟨w.heap.size, 7, none⟩ = some (.int .u8 l.d) := by simp [World.cell?, hA]
  have q0 : w2.cell? ⟨w.heap.size + 1, 0, none⟩ = some (.int .u8 a.by_.a) := by simp [World.cell?, hR]
  have q1 : w2.cell? ⟨w.heap.size + 1, 1, none⟩ = some (.int .u8 a.by_.b) := by simp [World.cell?, hR]
  have q2 : w2.cell? ⟨w.heap.size + 1, 2, none⟩ = some (.int .u8 a.by_.c) := by simp [World.cell?, hR]
  have q3 : w2.cell? ⟨w.heap.size + 1, 3, none⟩ = some (.int .u8 a.by_.d) := by simp [World.cell?, hR]
  have q4 : w2.cell? ⟨w.heap.size + 1, 4, none⟩ = some (.bool a.alive) := by simp [World.cell?, hR]
  have hq := run_eql_id a.by_ l
  clear hA hR hr ha e1 e2 hs2
  go_enter Tryz.func333, Tryz.ntmps333
  go_upto_region 1 with fail
  rw [← hw2]
  clear hw2
  cases hal : a.alive with
  | true =>
    rw [hal] at q4
    go_wp2
    go_ret
    exact ⟨by rw [hal]; rfl, hb2⟩
  | false =>
    rw [hal] at q4
    go_wp2
    go_ret
    exact ⟨by rw [hal]; rfl, hb2⟩
theorem fits341_any (i : Pid) (rv : Value) (S : List Spot) (a : Lat) (w : World) (hr : SV w rv S) (ha : SV w a.rv a.S) (hl : S.length ≤ 1000000) (hal' : a.S.length ≤ 1000000) :
    Calls Tryz.prog 341 #[chIn (.remove i rv S), latV a] w fun e w' => e = .returned (.bool (a.alive && decide (a.by_ = i) && decide (a.S = S))) ∧ Below w.heap.size w w' := by
  obtain ⟨ra, rc, e1⟩ := hr.shape
  obtain ⟨aa, ac, e2⟩ := ha.shape
  unfold chIn latV
  simp only
  rw [e1] at hr ⊢
  rw [e2] at ha ⊢
  obtain ⟨w2, hw2⟩ : ∃ w2, w2 = (w.alloc (.cells #[.int .u8 i.a, .int .u8 i.b, .int .u8 i.c, .int .u8 i.d, .slice ra S.length rc] 284)).alloc (.cells #[.int .u8 a.by_.a, .int .u8 a.by_.b, .int .u8 a.by_.c, .int .u8 a.by_.d, .bool a.alive, .slice aa a.S.length ac] 185) := ⟨_, rfl⟩
  obtain ⟨hb2, hs2, hA, hR⟩ := two_blocks' w _ _ hw2
  obtain ⟨p0, p1, p2, p3, p4⟩ := cells5_of hA
  have q0 : w2.cell? ⟨w.heap.size + 1, 0, none⟩ = some (.int .u8 a.by_.a) := by simp [World.cell?, hR]
  have q1 : w2.cell? ⟨w.heap.size + 1, 1, none⟩ = some (.int .u8 a.by_.b) := by simp [World.cell?, hR]
  have q2 : w2.cell? ⟨w.heap.size + 1, 2, none⟩ = some (.int .u8 a.by_.c) := by simp [World.cell?, hR]
  have q3 : w2.cell? ⟨w.heap.size + 1, 3, none⟩ = some (.int .u8 a.by_.d) := by simp [World.cell?, hR]
  have q4 : w2.cell? ⟨w.heap.size + 1, 4, none⟩ = some (.bool a.alive) := by simp [World.cell?, hR]
  have q5 : w2.cell? ⟨w.heap.size + 1, 5, none⟩ = some (.slice aa a.S.length ac) := by simp [World.cell?, hR]
  have hq := run_eql_id a.by_ i
  have HE : Hid (Calls Tryz.prog 346 #[.slice aa a.S.length ac, .slice ra S.length rc] w2 fun e w' => e = .returned (.bool (decide (a.S = S))) ∧ Below w2.heap.size w2 w') := (equal346_any a.S S _ _ w2 (ha.below hb2 (Nat.le_refl _)) (hr.below hb2 (Nat.le_refl _)) hal' hl).mono fun e w' ⟨k1, q, k2⟩ => ⟨k1, by rw [k2]; exact below_drewN (Below.refl _ _) q⟩
  obtain ⟨ee, hee⟩ : ∃ ee, decide (a.S = S) = ee := ⟨_, rfl⟩
  obtain ⟨ei, hei⟩ : ∃ ei, decide (a.by_ = i) = ei := ⟨_, rfl⟩
  rw [hee] at HE ⊢
  rw [hei] at hq ⊢
  clear hA hR hr ha e1 e2 hs2 hee hei
  go_enter Tryz.func341, Tryz.ntmps341
  go_upto_region 1 with fail
  rw [← hw2]
  clear hw2
  cases hal : a.alive with
  | false =>
    rw [hal] at q4
    go_wp2
    go_ret
    exact ⟨by rw [hal]; rfl, hb2⟩
  | true =>
    rw [hal] at q4
    cases ei with
    | false =>
      go_wp2
      go_ret
      exact ⟨by rw [hal]; rfl, hb2⟩
    | true =>
      go_wp2_with fail
      refine HE.out.mono ?_
      rintro e w3 ⟨rfl, hb3⟩
      clear HE
      go_wp2
      go_ret
      exact ⟨by rw [hal]; rfl, hb2.trans (hb3.mono hb2.size)⟩
theorem fits351_any (i : Pid) (hv : Value) (Hs : List Hk) (a : Lat) (w : World) (hr : HV w hv Hs) (ha : SV w a.rv a.S) (hl : Hs.length ≤ 900) (hN : ∀ x ∈ Hs, x.N.length ≤ 1000 ∧ 2 ≤ x.N.length) (hal' : a.S.length ≤ 100000) :
    Calls Tryz.prog 351 #[chIn (.alter i hv Hs), latV a] w fun e w' => e = .returned (.bool (a.alive && decide (a.by_ = i) && !(Hs.any fun h => !fitsK (framed a.S) h))) ∧ Below w.heap.size w w' := by
  have HR0 := hid hr
  obtain ⟨ra, rc, e1, hcc⟩ := hr
  obtain ⟨aa, ac, e2⟩ := ha.shape
  unfold chIn latV
  simp only
  rw [e1] at HR0 ⊢
  rw [e2] at ha ⊢
  obtain ⟨w2, hw2⟩ : ∃ w2, w2 = (w.alloc (.cells #[.int .u8 i.a, .int .u8 i.b, .int .u8 i.c, .int .u8 i.d, .slice ra Hs.length rc] 288)).alloc (.cells #[.int .u8 a.by_.a, .int .u8 a.by_.b, .int .u8 a.by_.c, .int .u8 a.by_.d, .bool a.alive, .slice aa a.S.length ac] 185) := ⟨_, rfl⟩
  obtain ⟨hb2, hs2, hA, hR⟩ := two_blocks' w _ _ hw2
  have q5 : w2.cell? ⟨w.heap.size + 1, 5, none⟩ = some (.slice aa a.S.length ac) := by simp [World.cell?, hR]
  have HFR := hid (framed185_any a.S (.slice aa a.S.length ac) w2 (ha.below hb2 (Nat.le_refl _)) (by omega))
  have hs2' : w.heap.size + 1 < w2.heap.size := by omega
  have HA := hid hA
  have HRR := hid hR
  have HN := hid hN
  have HB2 := hid hb2
  have HFL : Hid ((framed a.S).length = a.S.length + 2) := by show _ = _; simp [framed]
  clear hA hR ha e1 e2 hs2 hcc hb2 hN
  go_enter Tryz.func351, Tryz.ntmps351
  go_upto_region 1 with fail
  rw [← hw2]
  clear hw2
  go_wp2_with fail
  refine HFR.out.mono ?_
  rintro e w3 ⟨fv, rfl, ho3, hb3⟩
  clear HFR q5
  obtain ⟨fa, fc, rfl⟩ := own_shape ho3
  obtain ⟨w4, hw4⟩ : ∃ w4, w4 = w3.alloc (.cells #[.slice fa (framed a.S).length fc] 183) := ⟨_, rfl⟩
  have hb4 : Below w3.heap.size w3 w4 := by rw [hw4]; exact (Below.refl _ _).alloc (Nat.le_refl _) _
  have hk4 : w4.heap[w3.heap.size]? = some (.cells #[.slice fa (framed a.S).length fc] 183 (0, 0)) := by rw [hw4]; exact (MapKept.heap_alloc w3 _).1
  have hs4 : w3.heap.size < w4.heap.size := by rw [hw4]; simp
  have hb24 : Below w2.heap.size w2 w4 := hb3.trans (hb4.mono hb3.size)
  have hb04 : Below w.heap.size w w4 := HB2.out.trans (hb24.mono HB2.out.size)
  have hA4 := (hb24.block _ (by omega)).trans HA.out
  have hR4 := (hb24.block _ hs2').trans HRR.out
  obtain ⟨p0, p1, p2, p3, p4⟩ := cells5_of hA4
  have q0 : w4.cell? ⟨w.heap.size + 1, 0, none⟩ = some (.int .u8 a.by_.a) := by simp [World.cell?, hR4]
  have q1 : w4.cell? ⟨w.heap.size + 1, 1, none⟩ = some (.int .u8 a.by_.b) := by simp [World.cell?, hR4]
  have q2 : w4.cell? ⟨w.heap.size + 1, 2, none⟩ = some (.int .u8 a.by_.c) := by simp [World.cell?, hR4]
  have q3 : w4.cell? ⟨w.heap.size + 1, 3, none⟩ = some (.int .u8 a.by_.d) := by simp [World.cell?, hR4]
  have q4 : w4.cell? ⟨w.heap.size + 1, 4, none⟩ = some (.bool a.alive) := by simp [World.cell?, hR4]
  have hq := run_eql_id a.by_ i
  have hF4 : SV w4 (.slice fa (framed a.S).length fc) (framed a.S) := (SV.own ho3).below hb4 (Nat.le_refl _)
  have HANY := hid (anyf359_any Hs (fun h => !fitsK (framed a.S) h) 357 #[.pointer (some ⟨w3.heap.size, 0, none⟩)] (fun _ _ => by kernel_rfl) (.slice ra Hs.length rc) w4 (HR0.out.below hb04 (Nat.le_refl _)) (by omega) (fun h hh u hu => by
    obtain ⟨k, hk⟩ := List.mem_iff_getElem?.1 hh
    obtain ⟨_, _, _, hc⟩ := HR0.out.below (hb04.trans (hu.mono hb04.size)) (Nat.le_refl _)
    obtain ⟨_, _, _, _, _, _, s1, s2⟩ := hc k h hk
    obtain ⟨n1, n2⟩ := HN.out h hh
    exact stray357_any h (framed a.S) (.slice fa (framed a.S).length fc) w3.heap.size u ((hu.block _ hs4).trans hk4) s1 s2 (hF4.below hu (Nat.le_refl _)) n2 (by omega) (by rw [HFL.out]; omega)))
  obtain ⟨ee, hee⟩ : ∃ ee, (Hs.any fun h => !fitsK (framed a.S) h) = ee := ⟨_, rfl⟩
  obtain ⟨ei, hei⟩ : ∃ ei, decide (a.by_ = i) = ei := ⟨_, rfl⟩
  have HEE := hid hee
  have HEI := hid hei
  rw [hee] at HANY
  rw [hei] at hq
  have HB4 := hid hb04
  clear hee hei hF4 hA4 hR4 hk4 hb24 hb3 hb4 ho3 HA HRR HB2 HR0 HN hb04
  go_upto_region 3 with fail
  rw [← hw4]
  clear hw4
  cases hal : a.alive with
  | false =>
    rw [hal] at q4
    go_wp2
    go_ret
    exact ⟨by rw [hal]; rfl, HB4.out⟩
  | true =>
    rw [hal] at q4
    cases ei with
    | false =>
      go_wp2
      go_ret
      exact ⟨by rw [hal, HEI.out]; rfl, HB4.out⟩
    | true =>
      go_wp2_with fail
      refine HANY.out.mono ?_
      rintro e w5 ⟨rfl, hb5⟩
      clear HANY
      go_wp2
      go_ret
      exact ⟨by rw [hal, HEE.out, HEI.out]; rfl, HB4.out.trans (hb5.mono HB4.out.size)⟩
end Go.Proofs.YtgdfipmdmgkidaaGreatDoor

/- Does a patch fit what is kept? -/
set_option maxHeartbeats 3200000
set_option maxRecDepth 100000
namespace Go.Proofs.YtgdfipmdmgkidaaGreatDoor
open Go.RowKit
theorem fits_any (c : ChM) (a : Lat) (w : World) (hc : ChOK w c) (hs : ChSmall c) (ha : SV w a.rv a.S) (hl : a.S.length ≤ 100000) :
    Calls Tryz.prog (chFits c) #[chIn c, latV a] w fun e w' => e = .returned (.bool (fitsC c ⟨a.by_, a.alive, a.S⟩)) ∧ Below w.heap.size w w' := by
  cases c with
  | add i l rv S => exact fits333_any i l rv S a w hc ha
  | remove i rv S => exact fits341_any i rv S a w hc ha (Nat.le_trans hs (by omega)) (by omega)
  | alter i hv Hs => exact fits351_any i hv Hs a w hc ha hs.1 hs.2 hl
theorem enter_fits (c : ChM) (args : Array Value) (w : World) : (callFunc (chFits c) args).run Tryz.prog w = .ok (.enter (chFits c) args) w := by
  cases c <;> kernel_rfl
theorem fits263_any (c : ByteArray × ChM) (tb mb n : Nat) (st : ByteArray → PL) (w : World) (hi : w.heap[tb]? = some (.cells #[.map (some mb)] 121 (0, 0))) (hT : TreeAt w mb st n) (hc : ChOK w c.2) (hs : ChSmall c.2) (hn : c.1.size ≤ 1000) (hl : (st c.1).S.length ≤ 100000) :
    Calls Tryz.prog 263 #[ncV c, .pointer (some ⟨tb, 0, none⟩)] w fun e w' => e = .returned (.bool (!fitsC c.2 (st c.1))) ∧ Below w.heap.size w w' := by
  obtain ⟨nm, ch⟩ := c
  simp only at hc hs hn hl ⊢
  have htb := (Array.getElem?_eq_some_iff.1 hi).1
  unfold ncV
  simp only [chV]
  obtain ⟨w1, hw1⟩ : ∃ w1, w1 = w.alloc (.cells #[.string nm, .iface (chT ch) (chIn ch)] 226) := ⟨_, rfl⟩
  have hb1 : Below w.heap.size w w1 := by rw [hw1]; exact (Below.refl _ _).alloc (Nat.le_refl _) _
  have hk1 : w1.heap[w.heap.size]? = some (.cells #[.string nm, .iface (chT ch) (chIn ch)] 226 (0, 0)) := by rw [hw1]; exact (MapKept.heap_alloc w _).1
  obtain ⟨c0, c1⟩ := cells2_of hk1
  have hi1 := (hb1.block tb htb).trans hi
  have d0 : w1.cell? ⟨tb, 0, none⟩ = some (.map (some mb)) := by simp [World.cell?, hi1]
  obtain ⟨a, hlk, ⟨l1, l2, l3⟩, hsv⟩ := (hT.below hb1 (Nat.le_refl _)).look nm (by omega)
  have HE : Hid (fitsC ch ⟨a.by_, a.alive, a.S⟩ = fitsC ch (st nm)) := by show _ = _; rw [l1, l2, l3]
  have hcall := fits_any ch a w1 (hc.below hb1 (Nat.le_refl _)) hs hsv (by rw [l3]; exact hl)
  have HC := hid hcall
  obtain ⟨av, hav⟩ : ∃ av, latV a = av := ⟨_, rfl⟩
  rw [hav] at HC hlk
  have hm := meth_fits ch
  have eg := enter_fits ch
  obtain ⟨g, hg⟩ : ∃ g, chFits ch = g := ⟨_, rfl⟩
  rw [hg] at HC hm eg
  clear hi hi1 hk1 hT hc hs hl hcall hsv l1 l2 l3 hav hg
  go_enter Tryz.func263, Tryz.ntmps263
  go_upto_region 1 with fail
  rw [← hw1]
  clear hw1
  go_wp2_with (go_at_fn g; refine HC.out.mono ?_; rintro e w2 ⟨rfl, hb2⟩)
  go_ret
  exact ⟨by rw [← HE.out]; rfl, hb1.trans (hb2.mono hb1.size)⟩
def fitsP (P : PM) (st : ByteArray → PL) : Bool := !(P.Cs.any fun c => !fitsC c.2 (st c.1))
theorem fits235_any (P : PM) (mb n : Nat) (st : ByteArray → PL) (w : World) (hT : TreeAt w mb st n) (hP : CV w P.cv P.Cs) (hPl : P.Cs.length ≤ 1000) (hs : ∀ c ∈ P.Cs, ChSmall c.2) (hn : ∀ c ∈ P.Cs, c.1.size ≤ 1000) (hl : ∀ x, (st x).S.length ≤ 100000) :
    Calls Tryz.prog 235 #[pmV P, .agg #[.map (some mb)]] w fun e w' => e = .returned (.bool (fitsP P st)) ∧ Below w.heap.size w w' := by
  have HP := hid hP
  obtain ⟨pa, pc, hcv, _⟩ := hP
  unfold pmV
  rw [hcv] at HP ⊢
  obtain ⟨w2, hw2⟩ : ∃ w2, w2 = (w.alloc (.cells #[.int .u8 P.id.a, .int .u8 P.id.b, .int .u8 P.id.c, .int .u8 P.id.d, .slice pa P.Cs.length pc] 149)).alloc (.cells #[.map (some mb)] 121) := ⟨_, rfl⟩
  obtain ⟨hb2, hs2, hA, hR⟩ := two_blocks' w _ _ hw2
  have c4 := (cells5_of hA).2.2.2.2
  have hlt : w.heap.size + 1 < w2.heap.size := by omega
  have HANY := hid (anyf184_any P.Cs (fun c => !fitsC c.2 (st c.1)) 263 #[.pointer (some ⟨w.heap.size + 1, 0, none⟩)] (fun _ _ => by kernel_rfl) (.slice pa P.Cs.length pc) w2 (HP.out.below hb2 (Nat.le_refl _)) (by omega) (fun c hc u hu => by
    have hb0u : Below w.heap.size w u := hb2.trans (hu.mono hb2.size)
    obtain ⟨k, hk⟩ := List.mem_iff_getElem?.1 hc
    obtain ⟨_, _, _, hcc⟩ := HP.out.below hb0u (Nat.le_refl _)
    obtain ⟨_, _, _, _, _, _, hok⟩ := hcc k c hk
    exact fits263_any c (w.heap.size + 1) mb n st u ((hu.block _ hlt).trans hR) (hT.below hb0u (Nat.le_refl _)) hok (hs c hc) (hn c hc) (hl c.1)))
  obtain ⟨ee, hee⟩ : ∃ ee, (P.Cs.any fun c => !fitsC c.2 (st c.1)) = ee := ⟨_, rfl⟩
  have HEE : Hid (fitsP P st = !ee) := by show _ = _; unfold fitsP; rw [hee]
  rw [hee] at HANY
  rw [HEE.out]
  clear hA hR hs2 hee HP hT hcv hs hn hl
  go_enter Tryz.func235, Tryz.ntmps235
  go_upto_region 1 with fail
  rw [← hw2]
  clear hw2
  go_wp2_with fail
  refine HANY.out.mono ?_
  rintro e w3 ⟨rfl, hb3⟩
  clear HANY
  go_wp2
  go_ret
  exact ⟨rfl, hb2.trans (hb3.mono hb2.size)⟩
end Go.Proofs.YtgdfipmdmgkidaaGreatDoor

/- Clash: the first of the coming patches that does not fit. -/
namespace Go.Proofs.YtgdfipmdmgkidaaGreatDoor
open Go.RowKit
structure ClI (w wr : World) (mb tb : Nat) (s : ByteArray → PL) (c : Nat) : Prop where
  bel : Below w.heap.size w wr
  rb : wr.heap[w.heap.size]? = some (.cells #[.int .u8 0, .int .u8 0, .int .u8 0, .int .u8 0, .slice none 0 0] 149 (0, 0))
  tb : wr.heap[tb]? = some (.cells #[.map (some mb)] 121 (0, 0))
  lo : w.heap.size < mb
  tree : ∃ n, n ≤ c ∧ TreeAt wr mb s n
theorem ClI.below {w wr w' : World} {mb tb c : Nat} {s : ByteArray → PL} (h : ClI w wr mb tb s c) (hb : Below wr.heap.size wr w') : ClI w w' mb tb s c := by
  obtain ⟨n, hn, ht⟩ := h.tree
  exact ⟨h.bel.trans (hb.mono h.bel.size), (hb.block _ (Array.getElem?_eq_some_iff.1 h.rb).1).trans h.rb, (hb.block _ (Array.getElem?_eq_some_iff.1 h.tb).1).trans h.tb, h.lo, n, hn, ht.below hb (Nat.le_refl _)⟩
theorem ClI.but {w wr w' : World} {mb tb c c' : Nat} {s s' : ByteArray → PL} (h : ClI w wr mb tb s c) (hb : But wr w' mb) (ht : ∃ n, n ≤ c' ∧ TreeAt w' mb s' n) : ClI w w' mb tb s' c' := by
  obtain ⟨n, hn, htr⟩ := h.tree
  obtain ⟨es, cl, hm⟩ := htr.map
  have hlo := h.lo
  refine ⟨h.bel.trans ⟨hb.os, hb.tape, hb.output, hb.size, fun k hk => hb.block k (Nat.lt_of_lt_of_le hk h.bel.size) (by omega)⟩, (hb.block _ (Array.getElem?_eq_some_iff.1 h.rb).1 (by omega)).trans h.rb, (hb.block _ (Array.getElem?_eq_some_iff.1 h.tb).1 (fun e => ?_)).trans h.tb, hlo, ht⟩
  have := h.tb
  rw [e, hm] at this
  cases this
theorem results_cell_row2 {P : Program} {fn : Func} {p u : Tmp} {ty : TypeId} (h : fn.results = #[.cell p ty, .tmp u]) (tmps : Array Value) (w : World) (g : Nat) (t : TypeId) (cs : Array Value) (fr : Nat × Nat) (d : TypeDesc)
    (hp : tmps.getD p undef = .pointer (some ⟨g, 0, none⟩)) (hg : w.heap[g]? = some (.cells cs t fr))
    (hu : P.underlying ty = some d) (hd : (match d with | .struct _ | .array _ _ => true | _ => false) = true) (hi : (P.info? ty).map (·.size) = some cs.size) :
    (results fn tmps).run P w = .ok (.tuple #[.agg cs, tmps.getD u undef]) w := by
  rw [results_cell_tmp h, hp]
  simp [asAddr, run_loadVar_row w g t ty cs fr d hg hu hd hi, Result.andThen]
set_option maxRecDepth 100000 in
set_option maxHeartbeats 6400000 in
theorem clash196_any (Ps Cm : List PM) (pv cv : Value) (st : Nat → Nat → ByteArray → PL) (cnt : Nat → Nat) (m : Nat) (w : World) (hp : PV w pv Ps) (hc : PV w cv Cm) (hm : m ≤ Cm.length) (hs : Stands (Ps ++ Cm.take m) st cnt) (hPl : Ps.length ≤ 1000) (hCl : Cm.length ≤ 1000)
    (hsm : ∀ P ∈ Cm, P.Cs.length ≤ 1000 ∧ (∀ c ∈ P.Cs, ChSmall c.2) ∧ ∀ c ∈ P.Cs, c.1.size ≤ 1000) (hrow : ∀ p x, (st p 0 x).S.length ≤ 100000)
    (hfit : ∀ k P, k < m → Cm[k]? = some P → fitsP P (st (Ps.length + k) 0) = true) (hend : m < Cm.length → ∀ P, Cm[m]? = some P → fitsP P (st (Ps.length + m) 0) = false) :
    Calls Tryz.prog 196 #[pv, cv] w fun e w' => Below w.heap.size w w' ∧ ((m = Cm.length ∧ e = .returned (.tuple #[.agg #[.int .u8 0, .int .u8 0, .int .u8 0, .int .u8 0, .slice none 0 0], .bool false])) ∨ ∃ P, Cm[m]? = some P ∧ e = .returned (.tuple #[pmV P, .bool true])) := by
  obtain ⟨w1, hw1⟩ : ∃ w1, w1 = w.alloc (.cells #[.int .u8 0, .int .u8 0, .int .u8 0, .int .u8 0, .slice none 0 0] 149) := ⟨_, rfl⟩
  have hb1 : Below w.heap.size w w1 := by rw [hw1]; exact (Below.refl _ _).alloc (Nat.le_refl _) _
  have hk1 : w1.heap[w.heap.size]? = some (.cells #[.int .u8 0, .int .u8 0, .int .u8 0, .int .u8 0, .slice none 0 0] 149 (0, 0)) := by rw [hw1]; exact (MapKept.heap_alloc w _).1
  have hs1 : w1.heap.size = w.heap.size + 1 := by rw [hw1]; simp
  have hp1 := hp.below hb1 (Nat.le_refl _)
  have hs0 : Stands Ps st cnt := ⟨hs.start, fun p P h => hs.next p P (by rw [List.getElem?_append_left (List.getElem?_eq_some_iff.1 h).1]; exact h), fun p P k c h => hs.other p P k c (by rw [List.getElem?_append_left (List.getElem?_eq_some_iff.1 h).1]; exact h), fun p P k c h => hs.app p P k c (by rw [List.getElem?_append_left (List.getElem?_eq_some_iff.1 h).1]; exact h), fun P hP => hs.names P (List.mem_append_left _ hP), fun P hP => hs.few P (List.mem_append_left _ hP), fun p P h => hs.count p P (by rw [List.getElem?_append_left (List.getElem?_eq_some_iff.1 h).1]; exact h), hs.small⟩
  have HGR := hid (grow95_cnt Ps pv st cnt w1 hp1 (hs0.grows hp1) (by omega))
  have HC := hid hc
  have HS := hid hs
  have HSM := hid hsm
  have HROW := hid hrow
  have HFIT := hid hfit
  have HEND := hid hend
  have HK1 := hid hk1
  have HB1 := hid hb1
  obtain ⟨pa, pc, rfl, -⟩ := hp
  obtain ⟨ca, cc, rfl, -⟩ := hc
  clear hp1 hs0 hs hsm hrow hfit hend hk1 hb1
  go_enter Tryz.func196, Tryz.ntmps196
  go_upto_region 1 with fail
  rw [← hw1]
  clear hw1
  go_wp2_with fail
  refine HGR.out.mono ?_
  rintro e w2 ⟨mb, n, rfl, hT, hn, hmb, hb2⟩
  clear HGR
  obtain ⟨tb, htb⟩ : ∃ tb, w2.heap.size = tb := ⟨_, rfl⟩
  obtain ⟨w3, hw3⟩ : ∃ w3, w3 = w2.alloc (.cells #[.map (some mb)] 121) := ⟨_, rfl⟩
  have hb3 : Below w2.heap.size w2 w3 := by rw [hw3]; exact (Below.refl _ _).alloc (Nat.le_refl _) _
  have hk3 : w3.heap[tb]? = some (.cells #[.map (some mb)] 121 (0, 0)) := by rw [hw3, ← htb]; exact (MapKept.heap_alloc w2 _).1
  have HI3 : Hid (ClI w w3 mb tb (st (Ps.length + 0) 0) (cnt (Ps.length + 0))) := by
    have hb13 : Below w1.heap.size w1 w3 := hb2.trans (hb3.mono hb2.size)
    exact ⟨HB1.out.trans (hb13.mono (by omega)), (hb13.block _ (by omega)).trans HK1.out, hk3, by omega, n, hn, hT.below hb3 (Nat.le_refl _)⟩
  clear hT hn hb2 hb3 hk3 HK1 HB1
  go_upto_region 2 with fail
  rw [← hw3]
  clear hw3
  go_wp2_with fail
  go_loopw [13] (fun x wr => ∃ k : Nat, k ≤ m ∧ x = .int .i64 k ∧ Hid (ClI w wr mb tb (st (Ps.length + k) 0) (cnt (Ps.length + k)))) (fun x _ => Cm.length - (intOf x).toNat)
  case atStart => exact ⟨0, Nat.zero_le _, rfl, HI3⟩
  case round =>
    clear HI3
    obtain ⟨k, hk, rfl, HI⟩ := hrel
    by_cases hlt : k < Cm.length
    · obtain ⟨P, hP⟩ : ∃ P, Cm[k]? = some P := ⟨_, List.getElem?_eq_getElem hlt⟩
      have hPm := List.mem_of_getElem? hP
      obtain ⟨s1, s2, s3⟩ := HSM.out P hPm
      obtain ⟨_, _, e1, hcc⟩ := HC.out.below HI.out.bel (Nat.le_refl _)
      cases e1
      obtain ⟨b, o, rfl, hb', d0, d1, d2, d3, d4, hcvP⟩ := hcc k _ hP
      obtain ⟨qa, qc, hqv, -⟩ := hcvP
      rw [hqv] at d4
      have HP := hid hP
      have HQV := hid hqv
      obtain ⟨w4, hw4⟩ : ∃ w4, w4 = wr.alloc (.cells #[.int .u8 P.id.a, .int .u8 P.id.b, .int .u8 P.id.c, .int .u8 P.id.d, .slice qa P.Cs.length qc] 149) := ⟨_, rfl⟩
      have hb4 : Below wr.heap.size wr w4 := by rw [hw4]; exact (Below.refl _ _).alloc (Nat.le_refl _) _
      have hk4 : w4.heap[wr.heap.size]? = some (.cells #[.int .u8 P.id.a, .int .u8 P.id.b, .int .u8 P.id.c, .int .u8 P.id.d, .slice qa P.Cs.length qc] 149 (0, 0)) := by rw [hw4]; exact (MapKept.heap_alloc wr _).1
      have HI4 := hid (HI.out.below hb4)
      have hcv4 : CV w4 (.slice qa P.Cs.length qc) P.Cs := by
        have := (HC.out.cv hPm).below HI4.out.bel (Nat.le_refl _)
        rw [hqv] at this
        exact this
      have HCV4 := hid hcv4
      obtain ⟨nn, hnn, htt⟩ := HI4.out.tree
      have hft := fits235_any P mb nn (st (Ps.length + k) 0) w4 htt (by rw [hqv]; exact hcv4) s1 s2 s3 (fun x => HROW.out _ x)
      unfold pmV at hft
      rw [hqv] at hft
      have HFT := hid hft
      have HK4 := hid hk4
      have hlw : wr.heap.size < w4.heap.size := (Array.getElem?_eq_some_iff.1 hk4).1
      clear hcc hb' hP hqv hb4 hk4 hcv4 htt hnn hft hPm HI
      go_upto_region 5 with fail
      rw [← hw4]
      clear hw4 d0 d1 d2 d3 d4
      obtain ⟨q0, q1, q2, q3, q4⟩ := cells5_of HK4.out
      have t0 : w4.cell? ⟨tb, 0, none⟩ = some (.map (some mb)) := by have := HI4.out.tb; simp [World.cell?, this]
      by_cases hkm : k < m
      · have hf := HFIT.out k P hkm HP.out
        have HFT2 := HFT.out
        rw [hf] at HFT2
        have HFT3 := hid HFT2
        clear HFT HFT2 hf
        go_wp2_with fail
        refine HFT3.out.mono ?_
        rintro e w5 ⟨rfl, hb5⟩
        clear HFT3 q0 q1 q2 q3 q4 t0
        have HI5 := hid (HI4.out.below hb5)
        obtain ⟨q0, q1, q2, q3, q4⟩ := cells5_of ((hb5.block _ hlw).trans HK4.out)
        have t0 : w5.cell? ⟨tb, 0, none⟩ = some (.map (some mb)) := by have := HI5.out.tb; simp [World.cell?, this]
        obtain ⟨nn, hnn, htt⟩ := HI5.out.tree
        have hpk : (Ps ++ Cm.take m)[Ps.length + k]? = some P := by
          rw [List.getElem?_append_right (by omega), Nat.add_sub_cancel_left, List.getElem?_take, if_pos hkm]
          exact HP.out
        have hsml := HS.out.small (Ps.length + k + 1)
        have hct := HS.out.count _ _ hpk
        rw [hct] at hsml
        have had := add189_any P.id (.slice qa P.Cs.length qc) P.Cs mb nn (st (Ps.length + k)) w5 (HCV4.out.below hb5 (Nat.le_refl _)) htt (fun j c hj => HS.out.other _ P j c hpk hj) (fun j c hj u l hu h1 h2 => by
          have hcu : ChOK u c.2 := by
            obtain ⟨_, _, e1, hcc⟩ := (HCV4.out.below hb5 (Nat.le_refl _)).kept (hu.tb htt.map)
            obtain ⟨_, _, _, _, _, _, hok⟩ := hcc j c hj
            exact hok
          exact apply_any (HS.out.app _ P j c hpk hj) hcu h1 h2) s3 s1 (by omega)
        have HAD : Hid (Calls Tryz.prog 189 #[.agg #[.map (some mb)], .agg #[.int .u8 P.id.a, .int .u8 P.id.b, .int .u8 P.id.c, .int .u8 P.id.d, .slice qa P.Cs.length qc]] w5 fun e w' => e = .returned (.tuple #[]) ∧ ClI w w' mb tb (st (Ps.length + (k + 1)) 0) (cnt (Ps.length + (k + 1)))) := had.mono fun e w' ⟨k1, ⟨j, hj, ht⟩, hbt⟩ => ⟨k1, HI5.out.but hbt ⟨j, by rw [← Nat.add_assoc, hct]; omega, by rw [← Nat.add_assoc, HS.out.next _ _ hpk]; exact ht⟩⟩
        clear had hct hsml htt hnn hpk HI4 HK4 HCV4 hb5
        go_wp2_with fail
        refine HAD.out.mono ?_
        rintro e w6 ⟨rfl, h6⟩
        have HI6 := hid h6
        clear HAD h6 q0 q1 q2 q3 q4 t0 HI5
        go_wp2
        go_roundw
        case rel => exact ⟨k + 1, by omega, by go_num, HI6⟩
        case measure => simp [intOf]; omega
      · have e : k = m := by omega
        subst e
        have hf := HEND.out hlt P HP.out
        have HFT2 := HFT.out
        rw [hf] at HFT2
        have HFT3 := hid HFT2
        clear HFT HFT2 hf
        go_wp2_with fail
        refine HFT3.out.mono ?_
        rintro e w5 ⟨rfl, hb5⟩
        clear HFT3 q0 q1 q2 q3 q4 t0
        have HI5 := hid (HI4.out.below hb5)
        obtain ⟨q0, q1, q2, q3, q4⟩ := cells5_of ((hb5.block _ hlw).trans HK4.out)
        obtain ⟨r0, r1, r2, r3, r4⟩ := cells5_of HI5.out.rb
        have z0 := free3 HI5.out.rb 0
        have z1 := free3 HI5.out.rb 1
        have z2 := free3 HI5.out.rb 2
        have z3 := free3 HI5.out.rb 3
        have z4 := free3 HI5.out.rb 4
        obtain ⟨w9, hw9⟩ : ∃ w9, w9 = ((((w5.setCell ⟨w.heap.size, 0, none⟩ (.int .u8 P.id.a)).setCell ⟨w.heap.size, 1, none⟩ (.int .u8 P.id.b)).setCell ⟨w.heap.size, 2, none⟩ (.int .u8 P.id.c)).setCell ⟨w.heap.size, 3, none⟩ (.int .u8 P.id.d)).setCell ⟨w.heap.size, 4, none⟩ (.slice qa P.Cs.length qc) := ⟨_, rfl⟩
        obtain ⟨s1, s2⟩ := cells5_set w5 _ _ _ _ _ w9 w.heap.size 149 _ rfl _ _ _ _ _ HI5.out.rb rfl rfl rfl rfl rfl hw9
        have hb9 : Below w.heap.size w w9 := ⟨s2.os.trans HI5.out.bel.os, s2.tape.trans HI5.out.bel.tape, s2.output.trans HI5.out.bel.output, by rw [s2.size]; exact HI5.out.bel.size, fun j hj => (s2.block j (by omega)).trans (HI5.out.bel.block j hj)⟩
        clear s2 HI5 HI4 HK4 hb5
        go_wp2
        rw [← hw9]
        clear hw9
        refine bodyPost_ret (results_cell_row2 (p := 4) (u := 5) (ty := 149) (by kernel_rfl) _ _ w.heap.size 149 _ (0, 0) _ rfl s1 Tryz.underlying149 rfl (by kernel_rfl)) rfl ?_
        exact ⟨hb9, .inr ⟨P, HP.out, by unfold pmV; rw [HQV.out]; rfl⟩⟩
    · have e : k = Cm.length := by omega
      have hme : m = Cm.length := by omega
      subst e
      obtain ⟨r0, r1, r2, r3, r4⟩ := cells5_of HI.out.rb
      have z0 := free3 HI.out.rb 0
      have z1 := free3 HI.out.rb 1
      have z2 := free3 HI.out.rb 2
      have z3 := free3 HI.out.rb 3
      have z4 := free3 HI.out.rb 4
      obtain ⟨w9, hw9⟩ : ∃ w9, w9 = ((((wr.setCell ⟨w.heap.size, 0, none⟩ (.int .u8 0)).setCell ⟨w.heap.size, 1, none⟩ (.int .u8 0)).setCell ⟨w.heap.size, 2, none⟩ (.int .u8 0)).setCell ⟨w.heap.size, 3, none⟩ (.int .u8 0)).setCell ⟨w.heap.size, 4, none⟩ (.slice none 0 0) := ⟨_, rfl⟩
      obtain ⟨s1, s2⟩ := cells5_set wr _ _ _ _ _ w9 w.heap.size 149 _ rfl _ _ _ _ _ HI.out.rb rfl rfl rfl rfl rfl hw9
      have hb9 : Below w.heap.size w w9 := ⟨s2.os.trans HI.out.bel.os, s2.tape.trans HI.out.bel.tape, s2.output.trans HI.out.bel.output, by rw [s2.size]; exact HI.out.bel.size, fun j hj => (s2.block j (by omega)).trans (HI.out.bel.block j hj)⟩
      clear s2 HI
      go_wp2
      rw [← hw9]
      clear hw9
      refine bodyPost_ret (results_cell_row2 (p := 4) (u := 5) (ty := 149) (by kernel_rfl) _ _ w.heap.size 149 _ (0, 0) _ rfl s1 Tryz.underlying149 rfl (by kernel_rfl)) rfl ?_
      exact ⟨hb9, .inl ⟨hme, rfl⟩⟩
end Go.Proofs.YtgdfipmdmgkidaaGreatDoor
