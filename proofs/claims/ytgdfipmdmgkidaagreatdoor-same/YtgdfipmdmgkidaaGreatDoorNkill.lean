/- What a change kills; what a removal names. -/
import Derived.Test.YtgdfipmdmgkidaaGreatDoorNname
set_option maxHeartbeats 3200000
set_option maxRecDepth 100000
namespace Go.Proofs.YtgdfipmdmgkidaaGreatDoor
open Go.RowKit
theorem dead349_any (s : Spot) (w : World) : Calls Tryz.prog 349 #[spV s] w fun e w' => e = .returned (.bool (!s.alive)) ∧ Below w.heap.size w w' := by
  obtain ⟨w1, hw1⟩ : ∃ w1, w1 = w.alloc (.cells #[.int .u8 s.a, .int .u8 s.b, .int .u8 s.c, .int .u8 s.d, .int .i64 s.num, .string s.line, .bool s.alive] 313) := ⟨_, rfl⟩
  have hb1 : Below w.heap.size w w1 := by rw [hw1]; exact (Below.refl _ _).alloc (Nat.le_refl _) _
  have hk1 := (MapKept.heap_alloc w (.cells #[.int .u8 s.a, .int .u8 s.b, .int .u8 s.c, .int .u8 s.d, .int .i64 s.num, .string s.line, .bool s.alive] 313)).1
  rw [← hw1] at hk1
  obtain ⟨d0, d1, d2, d3, d4, d5, d6⟩ := cells7_of hk1
  clear hk1
  unfold spV
  subst hw1
  go_enter Tryz.func349, Tryz.ntmps349
  go_wp2
  go_ret
  exact ⟨rfl, hb1⟩
theorem killed347_any (S : List Spot) (v0 : Value) (w : World) (hv : SV w v0 S) (hlen : S.length ≤ 1000000) :
    Calls Tryz.prog 347 #[v0] w fun e w' => ∃ v, e = .returned v ∧ w'.ownsRow w.heap.size 313 7 v (killedS S).length (rowC (killedS S)) ∧ Below w.heap.size w w' := by
  have HC := hid (clone187_any S v0 w hv hlen)
  have HA : Hid ((S.filter fun s => !!s.alive) = aliveOf S) := by show _ = _; unfold aliveOf; congr 1; funext s; simp
  obtain ⟨ao, cap, rfl⟩ := hv.shape
  clear hv
  go_enter Tryz.func347, Tryz.ntmps347
  go_wp2_with fail
  refine HC.out.mono ?_
  rintro e w1 ⟨v1, rfl, h1, hb1⟩
  clear HC
  have HD : Hid (Calls Tryz.prog 348 #[v1, .func (.func 349) #[] #[]] w1 fun e w' => ∃ v', e = .returned v' ∧ w'.ownsRow w.heap.size 313 7 v' (S.filter fun s => !!s.alive).length (rowC (S.filter fun s => !!s.alive)) ∧ Below w.heap.size w1 w') := del348_any S (fun s => !s.alive) 349 #[] (fun _ _ => by kernel_rfl) v1 w.heap.size w1 h1 hb1.size hlen (fun s u => dead349_any s u)
  have hs1 := hb1.size
  obtain ⟨va, vc, rfl⟩ := (SV.own h1).shape
  clear h1
  go_wp2_with fail
  refine HD.out.mono ?_
  rintro e w2 ⟨v2, rfl, h2, hb2⟩
  clear HD
  rw [HA.out] at h2
  have hl2 : (aliveOf S).length ≤ 1000000 := Nat.le_trans (List.length_filter_le _ _) hlen
  have HE : Hid (Calls Tryz.prog 345 #[v2] w2 fun e w' => ∃ v, e = .returned v ∧ w'.ownsRow w2.heap.size 313 7 v (deadRow (aliveOf S)).length (rowC (deadRow (aliveOf S))) ∧ Below w2.heap.size w2 w') := dead244_any _ v2 w2 (SV.own h2) hl2
  have hs2 := hb2.size
  obtain ⟨xa, xc, rfl⟩ := (SV.own h2).shape
  have hb02 : Below w.heap.size w w2 := hb1.trans hb2
  clear h2 hb2
  go_wp2_with fail
  refine HE.out.mono ?_
  rintro e w3 ⟨v3, rfl, h3, hb3⟩
  clear HE
  go_wp2
  go_ret
  exact ⟨_, rfl, ownsRow_mono h3 (by omega), hb02.trans (hb3.mono (by omega))⟩
theorem kills334_any (i l : Pid) (rv : Value) (S : List Spot) (w : World) (hr : SV w rv S) :
    Calls Tryz.prog 334 #[.agg #[.int .u8 i.a, .int .u8 i.b, .int .u8 i.c, .int .u8 i.d, .int .u8 l.a, .int .u8 l.b, .int .u8 l.c, .int .u8 l.d, rv]] w fun e w' => ∃ v, e = .returned v ∧ SV w' v [] ∧ Below w.heap.size w w' := by
  obtain ⟨ra, rc, rfl⟩ := hr.shape
  clear hr
  go_enter Tryz.func334, Tryz.ntmps334
  go_wp2
  go_ret
  exact ⟨_, rfl, .inl ⟨rfl, rfl⟩, (Below.refl _ _).alloc (Nat.le_refl _) _⟩
def klTo (Hs : List Hk) (k : Nat) : List Spot := (Hs.take k).flatMap fun h => killedS (midRow h.N)
theorem klTo_succ {Hs : List Hk} {k : Nat} {x : Hk} (h : Hs[k]? = some x) : klTo Hs (k + 1) = klTo Hs k ++ killedS (midRow x.N) := by
  unfold klTo
  rw [List.take_add_one, h]
  simp
theorem killed_len (S : List Spot) : (killedS S).length ≤ S.length := by
  unfold killedS deadRow aliveOf
  rw [List.length_map]
  exact List.length_filter_le _ _
theorem mid_len (S : List Spot) : (midRow S).length ≤ S.length := by unfold midRow; simp; omega
theorem klTo_len {Hs : List Hk} (k : Nat) {m : Nat} (h : ∀ x ∈ Hs, x.N.length ≤ m) : (klTo Hs k).length ≤ Hs.length * m := by
  have h1 : ∀ L : List Hk, (∀ x ∈ L, x.N.length ≤ m) → (L.flatMap fun h => killedS (midRow h.N)).length ≤ L.length * m := by
    intro L
    induction L with
    | nil => simp
    | cons x L ih =>
      intro hL
      have := ih (fun y hy => hL y (List.mem_cons_of_mem _ hy))
      have := hL x List.mem_cons_self
      have := killed_len (midRow x.N)
      have := mid_len x.N
      simp only [List.flatMap_cons, List.length_append, List.length_cons, Nat.add_mul]
      omega
  have h2 := h1 (Hs.take k) (fun x hx => h x (List.mem_of_mem_take hx))
  have h3 : (Hs.take k).length * m ≤ Hs.length * m := Nat.mul_le_mul_right _ (by simp; omega)
  unfold klTo
  omega
theorem kills352_any (i : Pid) (hv : Value) (Hs : List Hk) (w : World) (hh : HV w hv Hs) (hl : Hs.length ≤ 1000) (hN : ∀ x ∈ Hs, x.N.length ≤ 1000 ∧ 2 ≤ x.N.length) :
    Calls Tryz.prog 352 #[.agg #[.int .u8 i.a, .int .u8 i.b, .int .u8 i.c, .int .u8 i.d, hv]] w fun e w' => ∃ v, e = .returned v ∧ SV w' v (Hs.flatMap fun h => killedS (midRow h.N)) ∧ Below w.heap.size w w' := by
  have HH := hid hh
  obtain ⟨ha, hc, rfl, _⟩ := hh
  obtain ⟨w1, hw1⟩ : ∃ w1, w1 = w.alloc (.cells #[.int .u8 i.a, .int .u8 i.b, .int .u8 i.c, .int .u8 i.d, .slice ha Hs.length hc] 288) := ⟨_, rfl⟩
  have hb1 : Below w.heap.size w w1 := by rw [hw1]; exact (Below.refl _ _).alloc (Nat.le_refl _) _
  have hk1 := (MapKept.heap_alloc w (.cells #[.int .u8 i.a, .int .u8 i.b, .int .u8 i.c, .int .u8 i.d, .slice ha Hs.length hc] 288)).1
  rw [← hw1] at hk1
  obtain ⟨i0, i1, i2, i3, i4⟩ := cells5_of hk1
  have HN : Hid (∀ k, (klTo Hs k).length ≤ Hs.length * 1000) := fun k => klTo_len k (fun x hx => (hN x hx).1)
  have HN2 := hid hN
  have hl3 : Hs.length * 1000 ≤ 1000000 := by omega
  clear hk1 hN
  go_enter Tryz.func352, Tryz.ntmps352
  go_wp2_with fail
  rw [← hw1]
  clear hw1
  go_wp2
  clear i0 i1 i2 i3 i4
  go_loopw [3, 9] (fun v x wr => ∃ k : Nat, k ≤ Hs.length ∧ x = .int .i64 k ∧ Hid (wr.ownsRow w.heap.size 313 7 v (klTo Hs k).length (rowC (klTo Hs k))) ∧ Below w.heap.size w wr) (fun _ x _ => Hs.length - (intOf x).toNat)
  case atStart => exact ⟨0, Nat.zero_le _, rfl, World.ownsRow_nil _ _ _ _, hb1⟩
  case round =>
    obtain ⟨k, hk, rfl, HO, hbw⟩ := hrel
    have hsz := hbw.size
    by_cases hlt : k < Hs.length
    · obtain ⟨x, hx⟩ : ∃ x, Hs[k]? = some x := ⟨_, List.getElem?_eq_getElem hlt⟩
      obtain ⟨b, o, rfl, hb, c0, c1, s0, s1⟩ := (HH.out.below hbw (Nat.le_refl _)).nth hx
      obtain ⟨hN1, hN2⟩ := HN2.out x (List.mem_of_getElem? hx)
      obtain ⟨na, nc, hne⟩ := s0.shape
      obtain ⟨ba, bc, hbe⟩ := s1.shape
      rw [hne] at c0 s0
      rw [hbe] at c1
      have HS := hid (klTo_succ hx)
      have hlen := HN.out (k + 1)
      rw [HS.out, List.length_append] at hlen
      obtain ⟨w4, hw4⟩ : ∃ w4, w4 = wr.alloc (.cells #[.slice na x.N.length nc, .slice ba x.Br.length bc] 327) := ⟨_, rfl⟩
      have hb4 : Below wr.heap.size wr w4 := by rw [hw4]; exact (Below.refl _ _).alloc (Nat.le_refl _) _
      have hk4 := (MapKept.heap_alloc wr (.cells #[.slice na x.N.length nc, .slice ba x.Br.length bc] 327)).1
      rw [← hw4] at hk4
      obtain ⟨d0, d1⟩ := cells2_of hk4
      have s4 := s0.below hb4 (Nat.le_refl _)
      have HB : Hid (Calls Tryz.prog 360 #[.agg #[.slice na x.N.length nc, .slice ba x.Br.length bc]] w4 fun e w' => ∃ ma mc, e = .returned (.slice ma (midRow x.N).length mc) ∧ SV w' (.slice ma (midRow x.N).length mc) (midRow x.N) ∧ Below w4.heap.size w4 w') := by
        refine (between251_any x.N (.slice na x.N.length nc) (.slice ba x.Br.length bc) ba x.Br.length bc rfl w4 s4 (by omega) hN2).mono ?_
        rintro e w' ⟨v, rfl, hv, hb⟩
        obtain ⟨ma, mc, rfl⟩ := hv.shape
        exact ⟨ma, mc, rfl, hv, hb⟩
      have ho4 := own_below HO.out hb4 (Nat.le_refl _)
      have hb04 : Below w.heap.size w w4 := hbw.trans (hb4.mono hsz)
      have hsz4 := hb04.size
      have hml := mid_len x.N
      clear hx hne hbe s0 s1 hk4 hb4 s4 HO
      subst hw4
      go_wp2_with fail
      refine HB.out.mono ?_
      rintro e w5 ⟨ma, mc, rfl, hv5, hb5⟩
      clear HB d0 d1 c0 c1
      have HC : Hid (Calls Tryz.prog 347 #[.slice ma (midRow x.N).length mc] w5 fun e w' => ∃ v, e = .returned v ∧ w'.ownsRow w5.heap.size 313 7 v (killedS (midRow x.N)).length (rowC (killedS (midRow x.N))) ∧ Below w5.heap.size w5 w') := killed347_any (midRow x.N) _ w5 hv5 (by omega)
      have ho5 := own_below ho4 hb5 (Nat.le_refl _)
      have hb05 : Below w.heap.size w w5 := hb04.trans (hb5.mono hsz4)
      have hsz5 := hb05.size
      clear ho4 hb04 hv5
      go_wp2_with fail
      refine HC.out.mono ?_
      rintro e w6 ⟨v6, rfl, h6, hb6⟩
      clear HC
      have ho6 := own_below ho5 hb6 (Nat.le_refl _)
      have hb06 : Below w.heap.size w w6 := hb05.trans (hb6.mono hsz5)
      have hsz6 := hb06.size
      have s6 := SV.own h6
      clear ho5 hb05 h6 hb6
      generalize klTo Hs k = A at *
      generalize killedS (midRow x.N) = D at *
      obtain ⟨xa, xc, rfl⟩ := s6.shape
      go_wp2_with (at_builtin; refine wpList_append_row _ rfl _ _ rfl w.heap.size _ A D _ rfl ho6 rfl s6 (by omega) hsz6 ?_)
      intro v' w7 h1 h2
      have hb7 := step_any (Nat.le_refl _) ho6 hb06 hsz6 h2
      clear h2 ho6 hb06 s6
      go_wp2
      go_roundw
      case rel => exact ⟨k + 1, by omega, by go_num, by show World.ownsRow _ _ _ _ _ _ _; rw [HS.out, rowC_app, List.length_append]; exact h1, hb7⟩
      case measure => simp [intOf]; omega
    · obtain rfl : k = Hs.length := by omega
      go_wp2
      go_ret
      refine ⟨_, rfl, ?_, hbw⟩
      have := SV.own HO.out
      unfold klTo at this
      rw [List.take_length] at this
      exact this
theorem names343_any (i : Pid) (rv : Value) (S : List Spot) (w : World) (hr : SV w rv S) (hS : S.length ≤ 100000) :
    Calls Tryz.prog 343 #[.agg #[.int .u8 i.a, .int .u8 i.b, .int .u8 i.c, .int .u8 i.d, rv]] w fun e w' => ∃ v, e = .returned v ∧ SV w' v (wholeS i true :: S) ∧ Below w.heap.size w w' := by
  obtain ⟨ra, rc, rfl⟩ := hr.shape
  obtain ⟨w1, hw1⟩ : ∃ w1, w1 = w.alloc (.cells #[.int .u8 i.a, .int .u8 i.b, .int .u8 i.c, .int .u8 i.d, .slice ra S.length rc] 284) := ⟨_, rfl⟩
  have hb1 : Below w.heap.size w w1 := by rw [hw1]; exact (Below.refl _ _).alloc (Nat.le_refl _) _
  have hk1 := (MapKept.heap_alloc w (.cells #[.int .u8 i.a, .int .u8 i.b, .int .u8 i.c, .int .u8 i.d, .slice ra S.length rc] 284)).1
  rw [← hw1] at hk1
  have HK := hid hk1
  have hs1 : w.heap.size < w1.heap.size := by rw [hw1]; simp
  obtain ⟨a0, a1, a2, a3, a4⟩ := cells5_of hk1
  have HS0 : Hid (w1.drew.cell? ⟨w.heap.size, 0, none⟩ = some (.int .u8 i.a) ∧ w1.drew.cell? ⟨w.heap.size, 1, none⟩ = some (.int .u8 i.b) ∧ w1.drew.cell? ⟨w.heap.size, 2, none⟩ = some (.int .u8 i.c) ∧ w1.drew.cell? ⟨w.heap.size, 3, none⟩ = some (.int .u8 i.d) ∧ w1.drew.cell? ⟨w.heap.size, 4, none⟩ = some (.slice ra S.length rc)) := ⟨a0, a1, a2, a3, a4⟩
  have HW : Hid (Calls Tryz.prog 337 #[.agg #[.int .u8 i.a, .int .u8 i.b, .int .u8 i.c, .int .u8 i.d], .bool true] w1.drew fun e w' => ∃ g, e = .returned (.slice (some ⟨g, 0, none⟩) 1 1) ∧ SV w' (.slice (some ⟨g, 0, none⟩) 1 1) [wholeS i true] ∧ Below w1.heap.size w1 w') := by
    refine (whole337_any i true w1.drew).mono ?_
    rintro e w' ⟨g, rfl, ho, hb⟩
    exact ⟨g, rfl, SV.own ho, (Below.refl _ w1).drew.trans hb⟩
  have hr1 : SV w1 (.slice ra S.length rc) S := hr.below hb1 (Nat.le_refl _)
  clear hk1 a0 a1 a2 a3 a4 hr
  go_enter Tryz.func343, Tryz.ntmps343
  go_wp2_with fail
  rw [← hw1]
  clear hw1
  refine wp_region_Z (fun w' => w'.cell? ⟨w.heap.size, 0, none⟩ = some (.int .u8 i.a) ∧ w'.cell? ⟨w.heap.size, 1, none⟩ = some (.int .u8 i.b) ∧ w'.cell? ⟨w.heap.size, 2, none⟩ = some (.int .u8 i.c) ∧ w'.cell? ⟨w.heap.size, 3, none⟩ = some (.int .u8 i.d) ∧ w'.cell? ⟨w.heap.size, 4, none⟩ = some (.slice ra S.length rc)) 99 (by kernel_rfl) ?_
  refine zt 0 (v := ?v0) HS0.out (fun w0 hS0 => ?hy) ?_
  case hy => obtain ⟨s0, s1, s2, s3, s4⟩ := hS0; go_simp; with_reducible rfl
  simp only [Act.put, List.setIfInBounds_toArray]
  refine zt 1 (v := ?v1) HS0.out (fun w0 hS0 => ?hy) ?_
  case hy => obtain ⟨s0, s1, s2, s3, s4⟩ := hS0; go_simp; with_reducible rfl
  simp only [Act.put]
  refine zt 3 (v := ?v3) HS0.out (fun w0 hS0 => ?hy) ?_
  case hy => obtain ⟨s0, s1, s2, s3, s4⟩ := hS0; go_simp; with_reducible rfl
  simp only [Act.put]
  refine zt 4 (v := ?v4) HS0.out (fun w0 hS0 => ?hy) ?_
  case hy => obtain ⟨s0, s1, s2, s3, s4⟩ := hS0; go_simp; with_reducible rfl
  simp only [Act.put]
  refine wpZ_one 2 _ rfl (by kernel_rfl) (fun KK hK => ?_)
  go_simp
  refine HW.out.mono ?_
  rintro e w2 ⟨g, rfl, hv2, hb2⟩
  clear HW
  dsimp only
  have hk2 := (hb2.block w.heap.size hs1).trans HK.out
  have hc2 := cells5_of hk2
  refine hK.out _ _ (fun _ => hc2) ?_
  clear hK
  have hr2 := hr1.below hb2 (Nat.le_refl _)
  have hb02 : Below w.heap.size w w2 := hb1.trans (hb2.mono hb1.size)
  refine wpZ_one 5 _ rfl (by kernel_rfl) (fun KK hK => ?_)
  go_simp
  obtain ⟨w3, hw3⟩ : ∃ w3, w3 = w2.alloc (.cells #[.slice (some ⟨g, 0, none⟩) 1 1, .slice ra S.length rc] 183) := ⟨_, rfl⟩
  have hb3 : Below w2.heap.size w2 w3 := by rw [hw3]; exact (Below.refl _ _).alloc (Nat.le_refl _) _
  have hk3 := (MapKept.heap_alloc w2 (.cells #[.slice (some ⟨g, 0, none⟩) 1 1, .slice ra S.length rc] 183)).1
  rw [← hw3] at hk3 ⊢
  have hs3 : w2.heap.size < w3.heap.size := by rw [hw3]; simp
  have hsw : w.heap.size < w2.heap.size := by have := hb2.size; omega
  have hc3 := cells5_of ((hb3.block w.heap.size hsw).trans hk2)
  refine hK.out _ _ (fun _ => hc3) ?_
  clear hK
  obtain ⟨e0, e1⟩ := cells2_of hk3
  have HR : Hid (Calls Tryz.prog 267 #[.slice (some ⟨w2.heap.size, 0, none⟩) 2 2] w3 fun e w' => ∃ v, e = .returned v ∧ SV w' v (wholeS i true :: S) ∧ Below w3.heap.size w3 w') := by
    refine (concat195_any [(.slice (some ⟨g, 0, none⟩) 1 1, [wholeS i true]), (.slice ra S.length rc, S)] _ w3 ⟨some ⟨w2.heap.size, 0, none⟩, 2, rfl, fun k r hk => ?_⟩ (fun r hr => ?_) (by simp) (by simp; omega)).mono ?_
    · refine ⟨w2.heap.size, 0, rfl, hs3, ?_⟩
      match k, hk with
      | 0, hk => cases hk; exact e0
      | 1, hk => cases hk; exact e1
    · simp only [List.mem_cons, List.not_mem_nil, or_false] at hr
      rcases hr with rfl | rfl
      · exact hv2.below hb3 (Nat.le_refl _)
      · exact hr2.below hb3 (Nat.le_refl _)
    · rintro e w' ⟨v, rfl, ho, hb⟩
      refine ⟨v, rfl, ?_, hb⟩
      have := SV.own ho
      simpa using this
  have hb03 : Below w.heap.size w w3 := hb02.trans (hb3.mono hb02.size)
  clear hw3 hk3 hr2 hv2 hr1
  refine wpZ_one 6 _ rfl (by kernel_rfl) (fun KK hK => ?_)
  go_simp
  refine HR.out.mono ?_
  rintro e w4 ⟨v4, rfl, hv4, hb4⟩
  clear HR
  dsimp only
  have hsw3 := hb3.size
  have hc4 := cells5_of ((hb4.block w.heap.size (by omega)).trans ((hb3.block w.heap.size hsw).trans hk2))
  refine hK.out _ _ (fun _ => hc4) ?_
  clear hK
  refine wpZ_one 7 _ rfl (by kernel_rfl) (fun KK hK => ?_)
  go_simp
  refine hK.out _ _ (fun _ => hc4) ?_
  clear hK
  refine wpZ_done (by kernel_rfl) ?_ _
  go_wp2
  go_ret
  exact ⟨_, rfl, hv4, hb03.trans (hb4.mono hb03.size)⟩
theorem kills342_any (i : Pid) (rv : Value) (S : List Spot) (w : World) (hr : SV w rv S) (hS : S.length ≤ 100000) :
    Calls Tryz.prog 342 #[.agg #[.int .u8 i.a, .int .u8 i.b, .int .u8 i.c, .int .u8 i.d, rv]] w fun e w' => ∃ v, e = .returned v ∧ SV w' v (killedS (wholeS i true :: S)) ∧ Below w.heap.size w w' := by
  have hr0 := hr
  obtain ⟨ra, rc, rfl⟩ := hr.shape
  obtain ⟨w1, hw1⟩ : ∃ w1, w1 = w.alloc (.cells #[.int .u8 i.a, .int .u8 i.b, .int .u8 i.c, .int .u8 i.d, .slice ra S.length rc] 284) := ⟨_, rfl⟩
  have hb1 : Below w.heap.size w w1 := by rw [hw1]; exact (Below.refl _ _).alloc (Nat.le_refl _) _
  have hk1 := (MapKept.heap_alloc w (.cells #[.int .u8 i.a, .int .u8 i.b, .int .u8 i.c, .int .u8 i.d, .slice ra S.length rc] 284)).1
  rw [← hw1] at hk1
  obtain ⟨a0, a1, a2, a3, a4⟩ := cells5_of hk1
  have HN : Hid (Calls Tryz.prog 343 #[.agg #[.int .u8 i.a, .int .u8 i.b, .int .u8 i.c, .int .u8 i.d, .slice ra S.length rc]] w1 fun e w' => ∃ v, e = .returned v ∧ SV w' v (wholeS i true :: S) ∧ Below w1.heap.size w1 w') := names343_any i _ S w1 (hr0.below hb1 (Nat.le_refl _)) hS
  clear hk1 hr hr0
  subst hw1
  go_enter Tryz.func342, Tryz.ntmps342
  go_wp2_with fail
  refine HN.out.mono ?_
  rintro e w2 ⟨v2, rfl, hv2, hb2⟩
  clear HN a0 a1 a2 a3 a4
  have HK : Hid (Calls Tryz.prog 347 #[v2] w2 fun e w' => ∃ v, e = .returned v ∧ w'.ownsRow w2.heap.size 313 7 v (killedS (wholeS i true :: S)).length (rowC (killedS (wholeS i true :: S))) ∧ Below w2.heap.size w2 w') := killed347_any _ v2 w2 hv2 (by simp; omega)
  have hb02 := hb1.trans (hb2.mono hb1.size)
  obtain ⟨xa, xc, rfl⟩ := hv2.shape
  clear hv2
  go_wp2_with fail
  refine HK.out.mono ?_
  rintro e w3 ⟨v3, rfl, h3, hb3⟩
  clear HK
  go_wp2
  go_ret
  exact ⟨_, rfl, SV.own h3, hb02.trans (hb3.mono hb02.size)⟩
def chNames : ChM → FuncId
  | .add .. => 335
  | .remove .. => 343
  | .alter .. => 353
def chKills : ChM → FuncId
  | .add .. => 334
  | .remove .. => 342
  | .alter .. => 352
def ChSmall : ChM → Prop
  | .add _ _ _ S => S.length ≤ 100000
  | .remove _ _ S => S.length ≤ 100000
  | .alter _ _ Hs => Hs.length ≤ 900 ∧ ∀ x ∈ Hs, x.N.length ≤ 1000 ∧ 2 ≤ x.N.length
theorem names_any (c : ChM) (w : World) (h : ChOK w c) (hs : ChSmall c) : Calls Tryz.prog (chNames c) #[chIn c] w fun e w' => ∃ v, e = .returned v ∧ SV w' v (namesOf c) ∧ Below w.heap.size w w' := by
  cases c with
  | add i l rv S => exact names335_any i l rv S w h
  | remove i rv S => exact names343_any i rv S w h hs
  | alter i hv Hs => exact names353_any i hv Hs w h (by have := hs.1; omega) (fun x hx => (hs.2 x hx).1)
theorem kills_any (c : ChM) (w : World) (h : ChOK w c) (hs : ChSmall c) : Calls Tryz.prog (chKills c) #[chIn c] w fun e w' => ∃ v, e = .returned v ∧ SV w' v (killsOf c) ∧ Below w.heap.size w w' := by
  cases c with
  | add i l rv S => exact kills334_any i l rv S w h
  | remove i rv S => exact kills342_any i rv S w h hs
  | alter i hv Hs => exact kills352_any i hv Hs w h (by have := hs.1; omega) hs.2
theorem names_len {c : ChM} (hs : ChSmall c) : (namesOf c).length ≤ 1000000 := by
  cases c with
  | add i l rv S => simp [namesOf]
  | remove i rv S => have : S.length ≤ 100000 := hs; simp [namesOf]; omega
  | alter i hv Hs =>
    have := nmTo_len (i := i) Hs.length (fun x hx => (hs.2 x hx).1)
    unfold nmTo at this
    rw [List.take_length] at this
    have h1 := hs.1
    show (wholeS i true :: Hs.flatMap (·.N)).length ≤ _
    omega
theorem kills_len {c : ChM} (hs : ChSmall c) : (killsOf c).length ≤ 1000000 := by
  cases c with
  | add i l rv S => simp [killsOf]
  | remove i rv S =>
    have : S.length ≤ 100000 := hs
    have := killed_len (wholeS i true :: S)
    show (killedS (wholeS i true :: S)).length ≤ _
    simp at this
    omega
  | alter i hv Hs =>
    have := klTo_len Hs.length (fun x hx => (hs.2 x hx).1)
    unfold klTo at this
    rw [List.take_length] at this
    have h1 := hs.1
    show (Hs.flatMap fun h => killedS (midRow h.N)).length ≤ _
    omega
end Go.Proofs.YtgdfipmdmgkidaaGreatDoor

/- Does a change, does a patch need another one. -/
set_option maxRecDepth 100000
namespace Go.Proofs.YtgdfipmdmgkidaaGreatDoor
open Go.RowKit
section
variable {P : Program} {ops : Array Oper} {Q : Exit → Act → World → Prop} {md : Region.Mode} {S : World → Prop} {z : Nat}
theorem wpZ_skip (i : Nat) (oi : Oper) {fuel : Nat} {listed : Array Bool} {a : Act} {w : World} (hi : ops[i]? = some oi)
    (hs : Region.noSelect ops = true) (hf : Region.free md ops listed i = true) (hr : (Region.ready md ops listed).contains i = true)
    (hQ : ∀ c a w, Q (.panic c) (a.put oi.dst undef) w → Q (.panic c) a w) (hl : lastOp md ops z i = true) (hiz : i ≠ z) (hS : S w) (hw : Region.wanted oi (yielded ops a.tmps) = false)
    (h : wpZ P md ops Q S z fuel (listed.setIfInBounds i true) (a.put oi.dst undef) w) : wpZ P md ops Q S z (fuel + 1) listed a w :=
  wpZ_first hi (Region.noSelect_spec hs) hQ hl hiz fuel listed a w (Region.free_spec hi hf) (by simpa using hr) (.inr ⟨hw, rfl⟩) hS h
end
theorem meth_names (c : ChM) (w : World) : (method 512 (chT c) (chIn c) "stitch/patch.names").run Tryz.prog w = .ok (chNames c, chIn c) w := by
  cases c <;> kernel_rfl
theorem meth_kills (c : ChM) (w : World) : (method 512 (chT c) (chIn c) "stitch/patch.kills").run Tryz.prog w = .ok (chKills c, chIn c) w := by
  cases c <;> kernel_rfl
theorem enter_names (c : ChM) (args : Array Value) (w : World) : (callFunc (chNames c) args).run Tryz.prog w = .ok (.enter (chNames c) args) w := by
  cases c <;> kernel_rfl
theorem enter_kills (c : ChM) (args : Array Value) (w : World) : (callFunc (chKills c) args).run Tryz.prog w = .ok (.enter (chKills c) args) w := by
  cases c <;> kernel_rfl
structure NeedS (A D : Nat) (nm dn : ByteArray) (ch dc : ChM) (i : Pid) (w : World) : Prop where
  a0 : w.cell? ⟨A, 0, none⟩ = some (.string nm)
  a1 : w.cell? ⟨A, 1, none⟩ = some (.iface (chT ch) (chIn ch))
  d0 : w.cell? ⟨D, 0, none⟩ = some (.string dn)
  d1 : w.cell? ⟨D, 1, none⟩ = some (.iface (chT dc) (chIn dc))
  r0 : w.cell? ⟨A + 1, 0, none⟩ = some (.int .u8 i.a)
  r1 : w.cell? ⟨A + 1, 1, none⟩ = some (.int .u8 i.b)
  r2 : w.cell? ⟨A + 1, 2, none⟩ = some (.int .u8 i.c)
  r3 : w.cell? ⟨A + 1, 3, none⟩ = some (.int .u8 i.d)
theorem NeedS.of {A D : Nat} {nm dn : ByteArray} {ch dc : ChM} {i : Pid} {cv : Value} {w : World} (h1 : w.heap[A]? = some (.cells #[.string nm, .iface (chT ch) (chIn ch)] 226 (0, 0))) (h2 : w.heap[A + 1]? = some (.cells #[.int .u8 i.a, .int .u8 i.b, .int .u8 i.c, .int .u8 i.d, cv] 149 (0, 0))) (h3 : w.heap[D]? = some (.cells #[.string dn, .iface (chT dc) (chIn dc)] 226 (0, 0))) : NeedS A D nm dn ch dc i w := by
  obtain ⟨a0, a1⟩ := cells2_of h1
  obtain ⟨r0, r1, r2, r3, _⟩ := cells5_of h2
  obtain ⟨d0, d1⟩ := cells2_of h3
  exact ⟨a0, a1, d0, d1, r0, r1, r2, r3⟩
def needB (c : ByteArray × ChM) (i : Pid) (d : ByteArray × ChM) : Bool := decide (c.1 = d.1) && (namesOf c.2).any (leansB i (killsOf d.2))
set_option maxHeartbeats 6400000 in
theorem needs186_any (c : ByteArray × ChM) (Q : PM) (w : World) (hc : ChOK w c.2) (hcs : ChSmall c.2) (hQ : CV w Q.cv Q.Cs) (hQs : ∀ d ∈ Q.Cs, ChSmall d.2) (hl : Q.Cs.length ≤ 1000) :
    Calls Tryz.prog 186 #[ncV c, pmV Q] w fun e w' => e = .returned (.bool (Q.Cs.any (needB c Q.id))) ∧ Below w.heap.size w w' := by
  have HC := hid hc
  have HCS := hid hcs
  have HQ := hid hQ
  have HQS := hid hQs
  obtain ⟨nm, ch⟩ := c
  obtain ⟨⟨ia, ib, ic, id⟩, cv, Cs⟩ := Q
  simp only at hQ hl HC HCS HQ HQS
  obtain ⟨ca, cc, rfl, _⟩ := hQ
  unfold ncV pmV
  simp only [chV]
  obtain ⟨w2, hw2⟩ : ∃ w2, w2 = (w.alloc (.cells #[.string nm, .iface (chT ch) (chIn ch)] 226)).alloc (.cells #[.int .u8 ia, .int .u8 ib, .int .u8 ic, .int .u8 id, .slice ca Cs.length cc] 149) := ⟨_, rfl⟩
  obtain ⟨hb2, hs2, hA, hR⟩ := two_blocks' w _ _ hw2
  have c4 : w2.cell? ⟨w.heap.size + 1, 4, none⟩ = some (.slice ca Cs.length cc) := (cells5_of hR).2.2.2.2
  have HA := hid hA
  have HR := hid hR
  clear hA hR hc hcs hQs
  go_enter Tryz.func186, Tryz.ntmps186
  go_wp2_with fail
  rw [← hw2]
  clear hw2
  go_wp2
  clear c4
  go_loopw [10] (fun x wr => ∃ k : Nat, k ≤ Cs.length ∧ x = .int .i64 k ∧ Hid (∀ i (hi : i < Cs.length), i < k → needB (nm, ch) ⟨ia, ib, ic, id⟩ Cs[i] = false) ∧ Below w2.heap.size w2 wr) (fun x _ => Cs.length - (intOf x).toNat)
  case atStart => exact ⟨0, Nat.zero_le _, rfl, (fun i _ h => by omega), Below.refl _ _⟩
  case round =>
    obtain ⟨k, hk, rfl, HN, hbw⟩ := hrel
    have hsz := hbw.size
    have hbw0 : Below w.heap.size w wr := hb2.trans (hbw.mono (by omega))
    by_cases hlt : k < Cs.length
    · have hd : Cs[k]? = some Cs[k] := List.getElem?_eq_getElem hlt
      obtain ⟨_, _, e1, hcc⟩ := HQ.out.below hbw0 (Nat.le_refl _)
      cases e1
      obtain ⟨b, o, rfl, hb, d0, d1, hok⟩ := hcc k _ hd
      have hds := HQS.out _ (List.getElem_mem hlt)
      obtain ⟨⟨dn, dc⟩, hde⟩ : ∃ d, Cs[k] = d := ⟨_, rfl⟩
      rw [hde] at d0 d1 hok hds
      simp only [chV] at d0 d1 hok hds
      have HDE := hid hde
      obtain ⟨w4, hw4⟩ : ∃ w4, w4 = wr.alloc (.cells #[.string dn, .iface (chT dc) (chIn dc)] 226) := ⟨_, rfl⟩
      have hb4 : Below wr.heap.size wr w4 := by rw [hw4]; exact (Below.refl _ _).alloc (Nat.le_refl _) _
      have hk4 := (MapKept.heap_alloc wr (.cells #[.string dn, .iface (chT dc) (chIn dc)] 226)).1
      rw [← hw4] at hk4
      have hs4 : wr.heap.size < w4.heap.size := by rw [hw4]; simp
      have hok4 := hok.below hb4 (Nat.le_refl _)
      have hch4 : ChOK w4 ch := HC.out.below (hbw0.trans (hb4.mono (by omega))) (Nat.le_refl _)
      have hb24 : Below w2.heap.size w2 w4 := hbw.trans (hb4.mono hsz)
      have hA4 := (hb24.block w.heap.size (by omega)).trans HA.out
      have hR4 := (hb24.block (w.heap.size + 1) (by omega)).trans HR.out
      have HK4 := hid hk4
      clear hcc hd hde hok
      go_wp2_with fail
      rw [← hw4]
      clear hw4 d0 d1
      have hS4 : NeedS w.heap.size wr.heap.size nm dn ch dc ⟨ia, ib, ic, id⟩ w4.drew := NeedS.of hA4 hR4 HK4.out
      obtain ⟨bq, hbq⟩ : ∃ b, decide (nm = dn) = b := ⟨_, rfl⟩
      have hbe : (nm.toList == dn.toList) = bq := by rw [eq_bytes]; exact hbq
      refine wp_region_Z (NeedS w.heap.size wr.heap.size nm dn ch dc ⟨ia, ib, ic, id⟩) 99 (by kernel_rfl) ?_
      refine zt 0 (v := ?v0) hS4 (fun w0 hS0 => ?hy) ?_
      case hy => obtain ⟨a0, a1, d0, d1, r0, r1, r2, r3⟩ := hS0; go_simp; with_reducible rfl
      simp only [Act.put, List.setIfInBounds_toArray]
      refine zt 1 (v := ?v1) hS4 (fun w0 hS0 => ?hy) ?_
      case hy => obtain ⟨a0, a1, d0, d1, r0, r1, r2, r3⟩ := hS0; go_simp; with_reducible rfl
      simp only [Act.put]
      refine zt 2 (v := ?v2) hS4 (fun w0 hS0 => ?hy) ?_
      case hy => obtain ⟨a0, a1, d0, d1, r0, r1, r2, r3⟩ := hS0; go_simp; with_reducible rfl
      simp only [Act.put]
      refine zt 3 (v := ?v3) hS4 (fun w0 hS0 => ?hy) ?_
      case hy => obtain ⟨a0, a1, d0, d1, r0, r1, r2, r3⟩ := hS0; go_simp; with_reducible rfl
      simp only [Act.put]
      cases bq
      · have HE : Hid (needB (nm, ch) ⟨ia, ib, ic, id⟩ (dn, dc) = false) := by show _ = _; unfold needB; simp only; rw [hbq]; rfl
        refine wpZ_take 4 _ (v := .bool false) rfl (by kernel_rfl) (by kernel_rfl) (by kernel_rfl) (fun _ _ _ h => h) (by kernel_rfl) (by decide) hS4 rfl (fun w0 hS0 => ?hy) ?_
        case hy =>
          obtain ⟨a0, a1, d0, d1, r0, r1, r2, r3⟩ := hS0
          go_simp
        simp only [Act.put]
        refine zt 5 (v := ?v5) hS4 (fun w0 hS0 => ?hy) ?_
        case hy => obtain ⟨a0, a1, d0, d1, r0, r1, r2, r3⟩ := hS0; go_simp; with_reducible rfl
        simp only [Act.put]
        refine wpZ_skip 6 _ rfl (by kernel_rfl) (by kernel_rfl) (by kernel_rfl) (fun _ _ _ h => h) (by kernel_rfl) (by decide) hS4 (by kernel_rfl) ?_
        simp only [Act.put]
        refine wpZ_skip 7 _ rfl (by kernel_rfl) (by kernel_rfl) (by kernel_rfl) (fun _ _ _ h => h) (by kernel_rfl) (by decide) hS4 (by kernel_rfl) ?_
        simp only [Act.put]
        refine wpZ_skip 9 _ rfl (by kernel_rfl) (by kernel_rfl) (by kernel_rfl) (fun _ _ _ h => h) (by kernel_rfl) (by decide) hS4 (by kernel_rfl) ?_
        simp only [Act.put]
        refine wpZ_skip 10 _ rfl (by kernel_rfl) (by kernel_rfl) (by kernel_rfl) (fun _ _ _ h => h) (by kernel_rfl) (by decide) hS4 (by kernel_rfl) ?_
        simp only [Act.put]
        refine wpZ_skip 11 _ rfl (by kernel_rfl) (by kernel_rfl) (by kernel_rfl) (fun _ _ _ h => h) (by kernel_rfl) (by decide) hS4 (by kernel_rfl) ?_
        simp only [Act.put]
        refine wpZ_skip 12 _ rfl (by kernel_rfl) (by kernel_rfl) (by kernel_rfl) (fun _ _ _ h => h) (by kernel_rfl) (by decide) hS4 (by kernel_rfl) ?_
        simp only [Act.put]
        refine wpZ_one 8 _ rfl (by kernel_rfl) (fun KK hK => ?_)
        go_simp
        refine hK.out _ _ (fun _ => hS4) ?_
        clear hK
        refine wpZ_one 13 _ rfl (by kernel_rfl) (fun KK hK => ?_)
        go_simp
        refine hK.out _ _ (fun _ => hS4) ?_
        clear hK
        refine wpZ_one 14 _ rfl (by kernel_rfl) (fun KK hK => ?_)
        go_simp
        refine hK.out _ _ (fun _ => hS4) ?_
        clear hK
        refine wpZ_one 15 _ rfl (by kernel_rfl) (fun KK hK => ?_)
        go_simp
        refine hK.out _ _ (fun _ => hS4) ?_
        clear hK
        refine wpZ_done (by kernel_rfl) ?_ _
        clear hS4 hA4 hR4
        go_wp2
        go_roundw
        case rel =>
          refine ⟨k + 1, by omega, by go_num, fun i hi h => ?_, (hb24.drew)⟩
          by_cases e : i = k
          · subst e; rw [HDE.out]; exact HE.out
          · exact HN.out i hi (by omega)
        case measure => simp [intOf]; omega
      · have HNC : Hid (Calls Tryz.prog (chNames ch) #[chIn ch] w4.drew fun e w' => ∃ v, e = .returned v ∧ SV w' v (namesOf ch) ∧ Below w4.heap.size w4 w') := (names_any ch w4.drew (hch4.below ((Below.refl _ w4).drew) (Nat.le_refl _)) HCS.out).mono fun e w' ⟨v, h1, h2, h3⟩ => ⟨v, h1, h2, (Below.refl _ w4).drew.trans h3⟩
        have HE : Hid (needB (nm, ch) ⟨ia, ib, ic, id⟩ (dn, dc) = (namesOf ch).any (leansB ⟨ia, ib, ic, id⟩ (killsOf dc))) := by show _ = _; unfold needB; simp only; rw [hbq]; rfl
        have me1 := meth_names ch
        have me2 := meth_kills dc
        have en1 := enter_names ch
        have en2 := enter_kills dc
        refine wpZ_take 4 _ (v := .bool true) rfl (by kernel_rfl) (by kernel_rfl) (by kernel_rfl) (fun _ _ _ h => h) (by kernel_rfl) (by decide) hS4 rfl (fun w0 hS0 => ?hy) ?_
        case hy =>
          obtain ⟨a0, a1, d0, d1, r0, r1, r2, r3⟩ := hS0
          go_simp
        simp only [Act.put]
        refine wpZ_take 5 _ (v := .bool true) rfl (by kernel_rfl) (by kernel_rfl) (by kernel_rfl) (fun _ _ _ h => h) (by kernel_rfl) (by decide) hS4 rfl (fun w0 hS0 => ?hy) ?_
        case hy =>
          obtain ⟨a0, a1, d0, d1, r0, r1, r2, r3⟩ := hS0
          go_simp
        simp only [Act.put]
        refine wpZ_take 6 _ (v := ?v6) rfl (by kernel_rfl) (by kernel_rfl) (by kernel_rfl) (fun _ _ _ h => h) (by kernel_rfl) (by decide) hS4 (by kernel_rfl) (fun w0 hS0 => ?hy) ?_
        case hy =>
          obtain ⟨a0, a1, d0, d1, r0, r1, r2, r3⟩ := hS0
          go_simp
          with_reducible rfl
        simp only [Act.put]
        refine wpZ_take 7 _ (v := ?v7) rfl (by kernel_rfl) (by kernel_rfl) (by kernel_rfl) (fun _ _ _ h => h) (by kernel_rfl) (by decide) hS4 (by kernel_rfl) (fun w0 hS0 => ?hy) ?_
        case hy =>
          obtain ⟨a0, a1, d0, d1, r0, r1, r2, r3⟩ := hS0
          go_simp
          with_reducible rfl
        simp only [Act.put]
        refine wpZ_take 9 _ (v := ?v9) rfl (by kernel_rfl) (by kernel_rfl) (by kernel_rfl) (fun _ _ _ h => h) (by kernel_rfl) (by decide) hS4 (by kernel_rfl) (fun w0 hS0 => ?hy) ?_
        case hy =>
          obtain ⟨a0, a1, d0, d1, r0, r1, r2, r3⟩ := hS0
          go_simp
          with_reducible rfl
        simp only [Act.put]
        refine wpZ_take 10 _ (v := ?v10) rfl (by kernel_rfl) (by kernel_rfl) (by kernel_rfl) (fun _ _ _ h => h) (by kernel_rfl) (by decide) hS4 (by kernel_rfl) (fun w0 hS0 => ?hy) ?_
        case hy =>
          obtain ⟨a0, a1, d0, d1, r0, r1, r2, r3⟩ := hS0
          go_simp
          with_reducible rfl
        simp only [Act.put]
        refine wpZ_take 11 _ (v := ?v11) rfl (by kernel_rfl) (by kernel_rfl) (by kernel_rfl) (fun _ _ _ h => h) (by kernel_rfl) (by decide) hS4 (by kernel_rfl) (fun w0 hS0 => ?hy) ?_
        case hy =>
          obtain ⟨a0, a1, d0, d1, r0, r1, r2, r3⟩ := hS0
          go_simp
          with_reducible rfl
        simp only [Act.put]
        refine wpZ_take 12 _ (v := ?v12) rfl (by kernel_rfl) (by kernel_rfl) (by kernel_rfl) (fun _ _ _ h => h) (by kernel_rfl) (by decide) hS4 (by kernel_rfl) (fun w0 hS0 => ?hy) ?_
        case hy =>
          obtain ⟨a0, a1, d0, d1, r0, r1, r2, r3⟩ := hS0
          go_simp
          with_reducible rfl
        simp only [Act.put]
        refine wpZ_one 8 _ rfl (by kernel_rfl) (fun KK hK => ?_)
        go_simp
        refine HNC.out.mono ?_
        rintro e w5 ⟨v5, rfl, hv5, hb5⟩
        clear HNC
        dsimp only
        have hS5 : NeedS w.heap.size wr.heap.size nm dn ch dc ⟨ia, ib, ic, id⟩ w5 := NeedS.of ((hb5.block _ (by omega)).trans hA4) ((hb5.block _ (by omega)).trans hR4) ((hb5.block _ hs4).trans HK4.out)
        refine hK.out _ _ (fun _ => hS5) ?_
        clear hK
        have HKC : Hid (Calls Tryz.prog (chKills dc) #[chIn dc] w5 fun e w' => ∃ v, e = .returned v ∧ SV w' v (killsOf dc) ∧ Below w5.heap.size w5 w') := kills_any dc w5 (hok4.below hb5 (Nat.le_refl _)) hds
        refine wpZ_one 13 _ rfl (by kernel_rfl) (fun KK hK => ?_)
        go_simp
        refine HKC.out.mono ?_
        rintro e w6 ⟨v6, rfl, hv6, hb6⟩
        clear HKC
        dsimp only
        have hb46 : Below w4.heap.size w4 w6 := hb5.trans (hb6.mono hb5.size)
        have hS6 : NeedS w.heap.size wr.heap.size nm dn ch dc ⟨ia, ib, ic, id⟩ w6 := NeedS.of ((hb46.block _ (by omega)).trans hA4) ((hb46.block _ (by omega)).trans hR4) ((hb46.block _ hs4).trans HK4.out)
        refine hK.out _ _ (fun _ => hS6) ?_
        clear hK
        have HLC : Hid (Calls Tryz.prog 226 #[v5, .agg #[.int .u8 ia, .int .u8 ib, .int .u8 ic, .int .u8 id], v6] w6 fun e w' => e = .returned (.bool ((namesOf ch).any (leansB ⟨ia, ib, ic, id⟩ (killsOf dc)))) ∧ Below w6.heap.size w6 w') := leans226_any (namesOf ch) ⟨ia, ib, ic, id⟩ (killsOf dc) v5 v6 w6 (hv5.below hb6 (Nat.le_refl _)) hv6 (names_len HCS.out) (kills_len hds)
        obtain ⟨bn, hbn⟩ : ∃ b, (namesOf ch).any (leansB ⟨ia, ib, ic, id⟩ (killsOf dc)) = b := ⟨_, rfl⟩
        rw [hbn] at HLC HE
        refine wpZ_one 14 _ rfl (by kernel_rfl) (fun KK hK => ?_)
        go_simp
        refine HLC.out.mono ?_
        rintro e w7 ⟨rfl, hb7⟩
        clear HLC
        dsimp only
        have hb47 : Below w4.heap.size w4 w7 := hb46.trans (hb7.mono hb46.size)
        have hS7 : NeedS w.heap.size wr.heap.size nm dn ch dc ⟨ia, ib, ic, id⟩ w7 := NeedS.of ((hb47.block _ (by omega)).trans hA4) ((hb47.block _ (by omega)).trans hR4) ((hb47.block _ hs4).trans HK4.out)
        refine hK.out _ _ (fun _ => hS7) ?_
        clear hK
        refine wpZ_one 15 _ rfl (by kernel_rfl) (fun KK hK => ?_)
        go_simp
        refine hK.out _ _ (fun _ => hS7) ?_
        clear hK
        refine wpZ_done (by kernel_rfl) ?_ _
        have hb27 : Below w2.heap.size w2 w7 := hb24.trans (hb47.mono hb24.size)
        clear hS4 hS5 hS6 hS7 hA4 hR4 hv5 hv6 hbn me1 me2 en1 en2
        cases bn
        · go_wp2
          go_roundw
          case rel =>
            refine ⟨k + 1, by omega, by go_num, fun i hi h => ?_, hb27⟩
            by_cases e : i = k
            · subst e; rw [HDE.out]; exact HE.out
            · exact HN.out i hi (by omega)
          case measure => simp [intOf]; omega
        · go_wp2
          go_ret
          refine ⟨?_, hb2.trans (hb27.mono hb2.size)⟩
          have : (Cs.any (needB (nm, ch) ⟨ia, ib, ic, id⟩)) = true := List.any_eq_true.2 ⟨_, List.getElem_mem hlt, by rw [HDE.out]; exact HE.out⟩
          rw [this]
          rfl
    · obtain rfl : k = Cs.length := by omega
      go_wp2
      go_ret
      refine ⟨?_, hbw0⟩
      have : (Cs.any (needB (nm, ch) ⟨ia, ib, ic, id⟩)) = false := by
        rw [List.any_eq_false]
        intro x hx
        obtain ⟨j, hj, rfl⟩ := List.getElem_of_mem hx
        rw [HN.out j hj hj]
        simp
      rw [this]
      rfl
def needsP (P Q : PM) : Bool := P.Cs.any fun c => Q.Cs.any (needB c Q.id)
theorem needs_iff (P Q : PM) : needsP P Q = true ↔ NeedsP P Q := by
  unfold needsP NeedsP leansOn needB leansB
  simp only [List.any_eq_true, Bool.and_eq_true, decide_eq_true_eq, Bool.or_eq_true]
theorem needs185_any (c : ByteArray × ChM) (Q : PM) (qb : Nat) (w : World) (hq : w.heap[qb]? = some (.cells #[.int .u8 Q.id.a, .int .u8 Q.id.b, .int .u8 Q.id.c, .int .u8 Q.id.d, Q.cv] 149 (0, 0))) (hc : ChOK w c.2) (hcs : ChSmall c.2) (hQ : CV w Q.cv Q.Cs) (hQs : ∀ d ∈ Q.Cs, ChSmall d.2) (hl : Q.Cs.length ≤ 1000) :
    Calls Tryz.prog 185 #[ncV c, .pointer (some ⟨qb, 0, none⟩)] w fun e w' => e = .returned (.bool (Q.Cs.any (needB c Q.id))) ∧ Below w.heap.size w w' := by
  have hqb := (Array.getElem?_eq_some_iff.1 hq).1
  obtain ⟨w1, hw1⟩ : ∃ w1, w1 = w.alloc (.cells #[.string c.1, .iface (chT c.2) (chIn c.2)] 226) := ⟨_, rfl⟩
  have hb1 : Below w.heap.size w w1 := by rw [hw1]; exact (Below.refl _ _).alloc (Nat.le_refl _) _
  have hk1 := (MapKept.heap_alloc w (.cells #[.string c.1, .iface (chT c.2) (chIn c.2)] 226)).1
  rw [← hw1] at hk1
  obtain ⟨d0, d1⟩ := cells2_of hk1
  obtain ⟨q0, q1, q2, q3, q4⟩ := cells5_of ((hb1.block qb hqb).trans hq)
  have HC : Hid (Calls Tryz.prog 186 #[.agg #[.string c.1, .iface (chT c.2) (chIn c.2)], .agg #[.int .u8 Q.id.a, .int .u8 Q.id.b, .int .u8 Q.id.c, .int .u8 Q.id.d, Q.cv]] w1 fun e w' => e = .returned (.bool (Q.Cs.any (needB c Q.id))) ∧ Below w1.heap.size w1 w') := needs186_any c Q w1 (hc.below hb1 (Nat.le_refl _)) hcs (hQ.below hb1 (Nat.le_refl _)) hQs hl
  obtain ⟨ca, cc, hcv, _⟩ := hQ
  rw [hcv] at q4 HC
  clear hk1 hq hc
  unfold ncV chV
  subst hw1
  go_enter Tryz.func185, Tryz.ntmps185
  go_wp2_with fail
  refine HC.out.mono ?_
  rintro e w' ⟨rfl, hb⟩
  clear HC d0 d1 q0 q1 q2 q3 q4
  go_wp2
  go_ret
  exact ⟨rfl, hb1.trans (hb.mono hb1.size)⟩
theorem needs121_any (P Q : PM) (w : World) (hP : CV w P.cv P.Cs) (hPs : ∀ d ∈ P.Cs, ChSmall d.2) (hQ : CV w Q.cv Q.Cs) (hQs : ∀ d ∈ Q.Cs, ChSmall d.2) (hlP : P.Cs.length ≤ 1000) (hl : Q.Cs.length ≤ 1000) :
    Calls Tryz.prog 121 #[pmV P, pmV Q] w fun e w' => e = .returned (.bool (needsP P Q)) ∧ Below w.heap.size w w' := by
  have hP0 := hP
  have hQ0 := hQ
  obtain ⟨pa, pc, hpv, hpp⟩ := hP
  obtain ⟨qa, qc, hqv, _⟩ := hQ
  unfold pmV
  obtain ⟨w2, hw2⟩ : ∃ w2, w2 = (w.alloc (.cells #[.int .u8 P.id.a, .int .u8 P.id.b, .int .u8 P.id.c, .int .u8 P.id.d, .slice pa P.Cs.length pc] 149)).alloc (.cells #[.int .u8 Q.id.a, .int .u8 Q.id.b, .int .u8 Q.id.c, .int .u8 Q.id.d, .slice qa Q.Cs.length qc] 149) := ⟨_, rfl⟩
  obtain ⟨hb2, hs2, hA, hR⟩ := two_blocks' w _ _ hw2
  have c4 : w2.cell? ⟨w.heap.size, 4, none⟩ = some (.slice pa P.Cs.length pc) := (cells5_of hA).2.2.2.2
  have HC : Hid (Calls Tryz.prog 184 #[.slice pa P.Cs.length pc, .func (.func 185) #[] #[.pointer (some ⟨w.heap.size + 1, 0, none⟩)]] w2 fun e w' => e = .returned (.bool (needsP P Q)) ∧ Below w2.heap.size w2 w') := by
    rw [← hpv]
    refine anyf184_any P.Cs (fun c => Q.Cs.any (needB c Q.id)) 185 _ (fun _ _ => by kernel_rfl) P.cv w2 (hP0.below hb2 (Nat.le_refl _)) (by omega) (fun c hc u hu => ?_)
    have hbu : Below w.heap.size w u := hb2.trans (hu.mono hb2.size)
    refine needs185_any c Q (w.heap.size + 1) u ?_ ?_ (hPs c hc) (hQ0.below hbu (Nat.le_refl _)) hQs hl
    · rw [hqv]
      exact (hu.block _ (by omega)).trans hR
    · obtain ⟨k, hk⟩ := List.mem_iff_getElem?.1 hc
      obtain ⟨_, _, _, _, _, _, hok⟩ := hpp k c hk
      exact hok.below hbu (Nat.le_refl _)
  rw [hpv, hqv]
  clear hP0 hQ0 hpp hA hR
  go_enter Tryz.func121, Tryz.ntmps121
  go_wp2_with fail
  rw [← hw2]
  clear hw2
  go_wp2_with fail
  refine HC.out.mono ?_
  rintro e w' ⟨rfl, hb⟩
  clear HC c4
  go_wp2
  go_ret
  exact ⟨rfl, hb2.trans (hb.mono hb2.size)⟩
end Go.Proofs.YtgdfipmdmgkidaaGreatDoor
