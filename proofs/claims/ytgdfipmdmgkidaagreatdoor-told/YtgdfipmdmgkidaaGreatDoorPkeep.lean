/- The small functions of the statement Told: its texts. -/
import Derived.Test.YtgdfipmdmgkidaaGreatDoorPeq
namespace Go.Proofs.YtgdfipmdmgkidaaGreatDoor
open Go.RowKit

set_option maxHeartbeats 1600000 in
/-- The statement's own cut. -/
theorem kcut14_any (s : ByteArray) (w : World) (hs : s.size ≤ 100000) :
    Calls Tryz.prog 19 #[.string s] w fun e w' => ∃ v, e = .returned v ∧ w'.ownsRow w.heap.size 9 1 v (cutAll s).length (strs (cutAll s)) ∧ Below w.heap.size w w' := by
  obtain ⟨i0, hi, hz0, hz1, hz2⟩ := info_parts Tryz.info9
  go_enter Tryz.func19, Tryz.ntmps19
  go_wp2
  go_loopw [3, 4, 5] (fun v st i wr => ∃ (p q : Nat) (L : List ByteArray), p ≤ s.size ∧ i = .int .i64 p ∧ st = .int .i64 q ∧ Hid (stTo s p = (L, q)) ∧ wr.ownsRow w.heap.size 9 1 v L.length (strs L) ∧ Below w.heap.size w wr) (fun _ _ i _ => s.size - (intOf i).toNat)
  case atStart => exact ⟨0, 0, [], Nat.zero_le _, rfl, rfl, rfl, World.ownsRow_nil _ _ _ _, Below.refl _ _⟩
  case round =>
    obtain ⟨p, q, L, hp, rfl, rfl, HS, hown, hbw⟩ := hrel
    have hq : q ≤ p := by have := (stTo_le s p).1; rw [HS.out] at this; exact this
    have hLq : L.length ≤ p := by have := (stTo_le s p).2; rw [HS.out] at this; exact this
    have hsz : w.heap.size ≤ wr.heap.size := hbw.size
    by_cases hlt : p < s.size
    · by_cases h10 : s[p].toNat = 10
      · have hb : (((s[p].toNat : Nat) : Int) == 10) = true := by rw [h10]; rfl
        have HB : Hid (gb s p = 10) := by rw [← gb_eq s p hlt]; exact h10
        clear h10
        go_wp2_with (at_builtin; refine wpList_append_own _ rfl _ _ 35 rfl w.heap.size 9 i0 (.string ⟨#[]⟩) 1 16 Tryz.underlying35 hi hz0 hz1 hz2 rfl (by decide) _ _ _ rfl (hown.alloc _) ⟨wr.heap.size, 0, none⟩ 1 1 [.string (s.extract q (p + 1))] rfl rfl ?c1 ?c2 ?c3 ?c4 ?c5 ?_)
        case c1 => exact new_one _ _ _
        case c2 => exact strs_one [_]
        case c3 => unfold maxLen; omega
        case c4 => omega
        case c5 => simp; omega
        intro v' w1 hown' hg _
        have R := step_own (Nat.le_refl _) hown hbw hsz hown' hg
        clear hown' hg hown hbw
        go_wp2
        go_roundw
        case rel => exact ⟨p + 1, p + 1, L ++ [s.extract q (p + 1)], by omega, by go_num, by go_num, by show _ = _; rw [stTo_nl HB.out, HS.out], R.1, R.2.1⟩
        case measure => simp [intOf]; omega
      · have hb : (((s[p].toNat : Nat) : Int) == 10) = false := by rw [beq_eq_false_iff_ne]; omega
        have HB : Hid (gb s p ≠ 10) := by rw [← gb_eq s p hlt]; exact h10
        clear h10
        go_wp2
        go_roundw
        case rel => exact ⟨p + 1, q, L, by omega, by go_num, rfl, by show _ = _; rw [stTo_no HB.out, HS.out], hown, hbw⟩
        case measure => simp [intOf]; omega
    · have hps : Hid (p = s.size) := by show _ = _; omega
      by_cases hql : q < s.size
      · go_wp2_with (at_builtin; refine wpList_append_own _ rfl _ _ 35 rfl w.heap.size 9 i0 (.string ⟨#[]⟩) 1 16 Tryz.underlying35 hi hz0 hz1 hz2 rfl (by decide) _ _ _ rfl (hown.alloc _) ⟨wr.heap.size, 0, none⟩ 1 1 [.string (s.extract q s.size)] rfl rfl ?d1 ?d2 ?d3 ?d4 ?d5 ?_)
        case d1 => exact new_one _ _ _
        case d2 => exact strs_one [_]
        case d3 => unfold maxLen; omega
        case d4 => omega
        case d5 => simp; omega
        intro v' w1 hown' hg _
        have R := step_own (Nat.le_refl _) hown hbw hsz hown' hg
        clear hown' hg hown hbw
        go_wp2
        go_ret
        have e := HS.out
        rw [hps.out] at e
        rw [cut_end e hql]
        exact ⟨_, rfl, R.1, R.2.1⟩
      · go_wp2
        go_ret
        have e := HS.out
        rw [hps.out] at e
        rw [cut_end0 e hql]
        exact ⟨_, rfl, hown, hbw⟩


theorem pick_nat (c : Int) (n : Nat) (hn : 1 ≤ n) : ∃ k : Nat, k < n ∧ c % (n : Int) = (k : Int) := by
  have h1 := Int.emod_nonneg c (b := (n : Int)) (by omega)
  have h2 := Int.emod_lt_of_pos c (b := (n : Int)) (by omega)
  exact ⟨(c % (n : Int)).toNat, by omega, by omega⟩

set_option maxRecDepth 100000 in
set_option maxHeartbeats 1600000 in
theorem kpick23_det (c : Int) (n : Nat) (hn : 1 ≤ n) (hn2 : n ≤ 10000000) (h0 : -9223372036854775808 ≤ c) (h1 : c ≤ 9223372036854775807) :
    ∃ k : Nat, k < n ∧ ∀ w, Calls Tryz.prog 31 #[.int .i64 c, .int .i64 n] w fun e w' => e = .returned (.int .i64 k) ∧ w' = w := by
  have hnz : ((n : Nat) : Int) ≠ 0 := by omega
  have hne : (((n : Nat) : Int) == 0) = false := by simp; omega
  by_cases hlt : c < 0
  · obtain ⟨k, hk, e⟩ := pick_nat (-(c + 1)) n hn
    have e2 : -((c + 1).tmod (n : Int)) = (-(c + 1)) % (n : Int) := by rw [← Int.neg_tmod, Int.tmod_eq_emod_of_nonneg (by omega)]
    have E : Hid (-((c + 1).tmod (n : Int)) = (k : Int)) := e2.trans e
    clear e e2
    refine ⟨k, hk, fun w => ?_⟩
    clear hk
    go_enter Tryz.func31, Tryz.ntmps31
    go_wp2
    go_ret
    exact ⟨ret_int E.out, rfl⟩
  · obtain ⟨k, hk, e⟩ := pick_nat c n hn
    have E : Hid (c % (n : Int) = (k : Int)) := e
    clear e
    refine ⟨k, hk, fun w => ?_⟩
    clear hk
    go_enter Tryz.func31, Tryz.ntmps31
    go_wp2
    go_ret
    exact ⟨ret_int E.out, rfl⟩

/-- The five lines of which the statement's texts are. -/
def fiveLines : List ByteArray := [⟨#[112, 10]⟩, ⟨#[113, 10]⟩, ⟨#[207, 137, 32, 207, 137, 10]⟩, ⟨#[10]⟩, ⟨#[116, 119, 101, 108, 118, 101, 32, 114, 117, 110, 101, 115, 10]⟩]

set_option maxRecDepth 100000 in
set_option maxHeartbeats 1600000 in
theorem kline22_det (c : Int) (h0 : -9223372036854775808 ≤ c) (h1 : c ≤ 9223372036854775807) :
    ∃ l ∈ fiveLines, ∀ w, Calls Tryz.prog 39 #[.int .i64 c] w fun e w' => e = .returned (.string l) ∧ w' = w := by
  obtain ⟨k, hk, hp⟩ := kpick23_det c 5 (by omega) (by omega) h0 h1
  have HP : Hid (∀ w, Calls Tryz.prog 31 #[.int .i64 c, .int .i64 5] w fun e w' => e = .returned (.int .i64 k) ∧ w' = w) := hp
  clear hp
  obtain rfl | rfl | rfl | rfl | rfl : k = 0 ∨ k = 1 ∨ k = 2 ∨ k = 3 ∨ k = 4 := by omega
  · refine ⟨⟨#[112, 10]⟩, by simp [fiveLines], fun w => ?_⟩
    go_enter Tryz.func39, Tryz.ntmps39
    go_wp2_with (go_at_call 31; refine (HP.out _).mono ?_; rintro e w1 ⟨rfl, rfl⟩)
    go_ret
    exact ⟨rfl, rfl⟩
  · refine ⟨⟨#[113, 10]⟩, by simp [fiveLines], fun w => ?_⟩
    go_enter Tryz.func39, Tryz.ntmps39
    go_wp2_with (go_at_call 31; refine (HP.out _).mono ?_; rintro e w1 ⟨rfl, rfl⟩)
    go_ret
    exact ⟨rfl, rfl⟩
  · refine ⟨⟨#[207, 137, 32, 207, 137, 10]⟩, by simp [fiveLines], fun w => ?_⟩
    go_enter Tryz.func39, Tryz.ntmps39
    go_wp2_with (go_at_call 31; refine (HP.out _).mono ?_; rintro e w1 ⟨rfl, rfl⟩)
    go_ret
    exact ⟨rfl, rfl⟩
  · refine ⟨⟨#[10]⟩, by simp [fiveLines], fun w => ?_⟩
    go_enter Tryz.func39, Tryz.ntmps39
    go_wp2_with (go_at_call 31; refine (HP.out _).mono ?_; rintro e w1 ⟨rfl, rfl⟩)
    go_ret
    exact ⟨rfl, rfl⟩
  · refine ⟨⟨#[116, 119, 101, 108, 118, 101, 32, 114, 117, 110, 101, 115, 10]⟩, by simp [fiveLines], fun w => ?_⟩
    go_enter Tryz.func39, Tryz.ntmps39
    go_wp2_with (go_at_call 31; refine (HP.out _).mono ?_; rintro e w1 ⟨rfl, rfl⟩)
    go_ret
    exact ⟨rfl, rfl⟩

def joinTo (L : List ByteArray) : Nat → ByteArray
  | 0 => ⟨#[]⟩
  | k + 1 => joinTo L k ++ L.getD k ByteArray.empty
theorem joinTo_size (L : List ByteArray) (hL : ∀ l ∈ L, l.size ≤ 1000) (k : Nat) : (joinTo L k).size ≤ k * 1000 := by
  induction k with
  | zero => exact Nat.le_refl _
  | succ k ih =>
    unfold joinTo
    rw [ByteArray.size_append]
    have : (L.getD k ByteArray.empty).size ≤ 1000 := by
      rw [List.getD_eq_getElem?_getD]
      cases h : L[k]? with
      | none => simp
      | some l => exact hL l (List.mem_of_getElem? h)
    omega
/-- Lines joined; open: without the last newline. -/
def joinedB (L : List ByteArray) (open_ : Bool) : ByteArray := if open_ = true ∧ 0 < (joinTo L L.length).size then (joinTo L L.length).extract 0 ((joinTo L L.length).size - 1) else joinTo L L.length

set_option maxRecDepth 100000 in
set_option maxHeartbeats 1600000 in
theorem kjoined24_any (L : List ByteArray) (open_ : Bool) (ao : Option Addr) (cap : Nat) (w : World) (hv : View w ao L) (hlen : L.length ≤ 100) (hL : ∀ l ∈ L, l.size ≤ 1000) :
    Calls Tryz.prog 40 #[.slice ao L.length cap, .bool open_] w fun e w' => e = .returned (.string (joinedB L open_)) ∧ w' = w := by
  go_enter Tryz.func40, Tryz.ntmps40
  go_wp2
  go_loop [5, 6] (fun s x => ∃ k : Nat, k ≤ L.length ∧ x = .int .i64 k ∧ s = .string (joinTo L k)) (fun _ x => L.length - (intOf x).toNat)
  case atStart => exact ⟨0, Nat.zero_le _, rfl, rfl⟩
  case round =>
    obtain ⟨k, hk, rfl, rfl⟩ := hrel
    have hsz := joinTo_size L hL k
    by_cases hlt : k < L.length
    · rcases hv with h | ⟨b, o, rfl, hb, hc⟩
      · omega
      have hcell := hc k hlt
      have hsz2 := joinTo_size L hL (k + 1)
      have hj : joinTo L (k + 1) = joinTo L k ++ L.getD k ByteArray.empty := rfl
      rw [hj, ByteArray.size_append] at hsz2
      have HJ : Hid (joinTo L (k + 1) = joinTo L k ++ L.getD k ByteArray.empty) := rfl
      generalize L.getD k ByteArray.empty = l at *
      generalize joinTo L k = A at *
      have hz : ¬ (9223372036854775807 < (A.size : Int) + (l.size : Int)) := by omega
      clear hj hc
      go_wp2
      go_round
      case rel => exact ⟨k + 1, by omega, by go_num, by rw [HJ.out]⟩
      case measure => simp [intOf]; omega
    · obtain rfl : k = L.length := by omega
      obtain ⟨A, hA⟩ : ∃ A, joinTo L L.length = A := ⟨_, rfl⟩
      rw [hA] at hsz ⊢
      cases open_
      · have HE : Hid (joinedB L false = A) := by show _ = _; unfold joinedB; rw [if_neg (by simp), hA]
        clear hA
        go_wp2
        go_ret
        exact ⟨by rw [HE.out]; rfl, rfl⟩
      · by_cases h0 : 0 < A.size
        · have HE : Hid (joinedB L true = A.extract 0 (A.size - 1)) := by show _ = _; unfold joinedB; rw [if_pos ⟨rfl, by rw [hA]; exact h0⟩, hA]
          clear hA
          have h0i : (0 : Int) < (A.size : Int) := by omega
          go_wp2
          go_ret
          exact ⟨by rw [HE.out]; rfl, rfl⟩
        · have HE : Hid (joinedB L true = A) := by show _ = _; unfold joinedB; rw [if_neg (fun h => h0 (by rw [← hA]; exact h.2)), hA]
          have h0d : decide (0 < A.size) = false := by simpa using h0
          clear hA
          go_wp2
          go_ret
          exact ⟨by rw [HE.out]; rfl, rfl⟩
theorem tdiv5 (x : Int) (h0 : -9223372036854775808 ≤ x) (h1 : x ≤ 9223372036854775807) : -9223372036854775808 ≤ x.tdiv 5 ∧ x.tdiv 5 ≤ 9223372036854775807 := by
  by_cases h : 0 ≤ x
  · rw [Int.tdiv_eq_ediv_of_nonneg h]; omega
  · have e : x.tdiv 5 = -((-x).tdiv 5) := by rw [Int.neg_tdiv]; omega
    rw [e, Int.tdiv_eq_ediv_of_nonneg (by omega)]
    omega

theorem five_size (l : ByteArray) (h : l ∈ fiveLines) : l.size ≤ 1000 := by
  simp only [fiveLines, List.mem_cons, List.not_mem_nil, or_false] at h
  rcases h with rfl | rfl | rfl | rfl | rfl <;> decide

/-- The numbers of which a text is made lie in memory. -/
def IV (w : World) (v : Value) (R : List Int) : Prop := ∃ ao cap, v = .slice ao R.length cap ∧ ∀ k, (h : k < R.length) → ∃ b o, ao = some ⟨b, o, none⟩ ∧ b < w.heap.size ∧ w.cell? ⟨b, o + k, none⟩ = some (.int .i64 R[k])
theorem IV.below {w w' : World} {v : Value} {R : List Int} (h : IV w v R) {B : Nat} (hb : Below B w w') (hB : w.heap.size ≤ B) : IV w' v R := by
  obtain ⟨ao, cap, rfl, hc⟩ := h
  refine ⟨ao, cap, rfl, fun k hk => ?_⟩
  obtain ⟨b, o, e, h1, h2⟩ := hc k hk
  exact ⟨b, o, e, Nat.lt_of_lt_of_le h1 hb.size, (hb.cell (p := ⟨b, o + k, none⟩) (by show b < B; omega)).trans h2⟩

set_option maxRecDepth 100000 in
set_option maxHeartbeats 3200000 in
/-- A text of the statement: at most sixteen of the five lines, the last newline there or not. -/
theorem ktext9_any (R : List Int) (hR : ∀ x ∈ R, -9223372036854775808 ≤ x ∧ x ≤ 9223372036854775807) (v0 : Value) (w : World) (hv : IV w v0 R) :
    Calls Tryz.prog 14 #[v0] w fun e w' => ∃ (L : List ByteArray) (op : Bool), e = .returned (.string (joinedB L op)) ∧ (∀ l ∈ L, l ∈ fiveLines) ∧ L.length ≤ 16 ∧ Below w.heap.size w w' := by
  obtain ⟨i0, hi, hz0, hz1, hz2⟩ := info_parts Tryz.info9
  have HV : Hid (IV w v0 R) := hv
  obtain ⟨ao, cap, rfl, hc0⟩ := hv
  clear hc0
  go_enter Tryz.func14, Tryz.ntmps14
  go_wp2
  go_loopw [3, 4, 5] (fun v b x wr => ∃ (k : Nat) (L : List ByteArray) (op : Bool), k ≤ R.length ∧ k ≤ 16 ∧ x = .int .i64 k ∧ b = .bool op ∧ L.length = k ∧ Hid (∀ l ∈ L, l ∈ fiveLines) ∧ wr.ownsRow w.heap.size 9 1 v L.length (strs L) ∧ Below w.heap.size w wr) (fun _ _ x _ => 16 - (intOf x).toNat)
  case atStart => exact ⟨0, [], false, Nat.zero_le _, by omega, rfl, rfl, rfl, (fun l hl => by cases hl), World.ownsRow_nil _ _ _ _, Below.refl _ _⟩
  case round =>
    obtain ⟨k, L, op, hk, hk16, rfl, rfl, hLk, HL, hown, hbw⟩ := hrel
    have hsz : w.heap.size ≤ wr.heap.size := hbw.size
    by_cases hlt : k < R.length
    · by_cases h16 : k < 16
      · obtain ⟨_, _, e1, hc1⟩ := HV.out.below hbw (Nat.le_refl _)
        cases e1
        obtain ⟨b, o, rfl, hb, c0⟩ := hc1 k hlt
        obtain ⟨x, hx⟩ : ∃ x, R[k] = x := ⟨_, rfl⟩
        rw [hx] at c0
        have HX : Hid (R[k] = x) := hx
        have hxb := hR x (by rw [← hx]; exact List.getElem_mem hlt)
        obtain ⟨l, hl5, hline⟩ := kline22_det x hxb.1 hxb.2
        have HLI : Hid (∀ w, Calls Tryz.prog 39 #[.int .i64 x] w fun e w' => e = .returned (.string l) ∧ w' = w) := hline
        have hq1 : -9223372036854775808 ≤ x.tdiv 5 ∧ x.tdiv 5 ≤ 9223372036854775807 := tdiv5 x hxb.1 hxb.2
        obtain ⟨j, hj, hpick⟩ := kpick23_det (x.tdiv 5) 4 (by omega) (by omega) hq1.1 hq1.2
        have HPK : Hid (∀ w, Calls Tryz.prog 31 #[.int .i64 (x.tdiv 5), .int .i64 4] w fun e w' => e = .returned (.int .i64 j) ∧ w' = w) := hpick
        have hwq : IntKind.i64.wrap (x.tdiv 5) = x.tdiv 5 := by simp [IntKind.wrap, IntKind.signed, IntKind.bits]; omega
        have HL2 : Hid (∀ y ∈ L ++ [l], y ∈ fiveLines) := fun y hy => by
          rcases List.mem_append.1 hy with h | h
          · exact HL.out y h
          · simp at h; subst h; exact hl5
        have hLl : L.length ≤ 16 := by omega
        have HLK : Hid (L.length = k) := hLk
        clear hline hpick hc1 hx hl5 HL hLk
        go_wp2_with (first | (go_at_call 39; refine (HLI.out _).mono ?_; rintro e w1 ⟨rfl, rfl⟩) | (at_builtin; refine wpList_append_own _ rfl _ _ 35 rfl w.heap.size 9 i0 (.string ⟨#[]⟩) 1 16 Tryz.underlying35 hi hz0 hz1 hz2 rfl (by decide) _ _ _ rfl (hown.alloc _) ⟨_, 0, none⟩ 1 1 [.string l] rfl rfl (new_one _ _ _) (strs_one [_]) (by unfold maxLen; omega) (by omega) (by simp; omega) ?_))
        intro v' w2 hown' hg2 _
        have R2 := step_own (Nat.le_refl _) hown hbw hsz hown' hg2
        clear hown' hg2 hown hbw
        have hbc : w2.cell? ⟨b, o + k, none⟩ = some (.int .i64 x) := by
          obtain ⟨_, _, e1, hc1⟩ := HV.out.below R2.2.1 (Nat.le_refl _)
          obtain ⟨b', o', e2, _, c2⟩ := hc1 k hlt
          simp only [Value.slice.injEq] at e1
          rw [← e1.1] at e2
          cases e2
          rw [c2, HX.out]
        have HO2 : Hid (w2.ownsRow w.heap.size 9 1 v' (L ++ [l]).length (strs (L ++ [l]))) := R2.1
        have hb2 := R2.2.1
        clear R2
        go_wp2_with (first | (go_at_call 31; refine (HPK.out _).mono ?_; rintro e w3 ⟨rfl, rfl⟩))
        go_roundw
        case rel => exact ⟨k + 1, L ++ [l], _, by omega, by omega, by go_num, rfl, by simp [HLK.out], HL2, HO2.out, hb2⟩
        case measure => simp [intOf]; omega
      · have h16d : decide (k < 16) = false := by simpa using h16
        have h5 : ∀ l ∈ L, l.size ≤ 1000 := fun l hl => five_size l (HL.out l hl)
        obtain ⟨va, vc, rfl⟩ := own_shape hown
        have HJ : Hid (Calls Tryz.prog 40 #[.slice va L.length vc, .bool op] wr fun e w' => e = .returned (.string (joinedB L op)) ∧ w' = wr) := kjoined24_any L op va vc wr (View.own hown) (by omega) h5
        have HLK : Hid (L.length = k) := hLk
        have hL16 : L.length ≤ 16 := by omega
        clear hown hLk h5
        go_wp2_with (first | (go_at_call 40; refine HJ.out.mono ?_; rintro e w3 ⟨rfl, rfl⟩))
        go_ret
        exact ⟨L, op, rfl, HL.out, hL16, hbw⟩
    · have hltd : decide (k < R.length) = false := by simpa using hlt
      have h5 : ∀ l ∈ L, l.size ≤ 1000 := fun l hl => five_size l (HL.out l hl)
      obtain ⟨va, vc, rfl⟩ := own_shape hown
      have HJ : Hid (Calls Tryz.prog 40 #[.slice va L.length vc, .bool op] wr fun e w' => e = .returned (.string (joinedB L op)) ∧ w' = wr) := kjoined24_any L op va vc wr (View.own hown) (by omega) h5
      have HLK : Hid (L.length = k) := hLk
      have hL16 : L.length ≤ 16 := by omega
      clear hown hLk h5
      go_wp2_with (first | (go_at_call 40; refine HJ.out.mono ?_; rintro e w3 ⟨rfl, rfl⟩))
      go_ret
      exact ⟨L, op, rfl, HL.out, hL16, hbw⟩
set_option maxHeartbeats 800000 in
theorem ksame16_any (L : List ByteArray) (ao bo : Option Addr) (ca cb A B : Nat) (w : World) (ha : w.ownsRow A 9 1 (.slice ao L.length ca) L.length (strs L)) (hb : w.ownsRow B 9 1 (.slice bo L.length cb) L.length (strs L)) (hlen : L.length ≤ 1000000) :
    Calls Tryz.prog 21 #[.slice ao L.length ca, .slice bo L.length cb] w fun e w' => e = .returned (.bool true) ∧ ∃ q, w' = w.drewN q := by
  have hne : (((L.length : Nat) : Int) != ((L.length : Nat) : Int)) = false := by simp
  go_enter Tryz.func21, Tryz.ntmps21
  go_wp2
  go_loopw [5] (fun i wr => ∃ k q : Nat, k ≤ L.length ∧ i = .int .i64 k ∧ wr = w.drewN q) (fun i _ => L.length - (intOf i).toNat)
  case atStart => exact ⟨0, 0, Nat.zero_le _, rfl, rfl⟩
  case round =>
    obtain ⟨k, q, hk, rfl, rfl⟩ := hrel
    by_cases hlt : k < L.length
    · obtain ⟨g, hao, hgB, hgs⟩ := own_at ha (by omega)
      obtain ⟨g', hbo, hgB', hgs'⟩ := own_at hb (by omega)
      subst hao hbo
      have hc1 : w.cell? ⟨g, k, none⟩ = some (.string (L.getD k ByteArray.empty)) := row_cell ha k hlt
      have hc2 : w.cell? ⟨g', k, none⟩ = some (.string (L.getD k ByteArray.empty)) := row_cell hb k hlt
      obtain ⟨t, ht⟩ : ∃ t, L.getD k ByteArray.empty = t := ⟨_, rfl⟩
      rw [ht] at hc1 hc2
      clear ht ha hb
      go_wp2
      go_quiet (fail)
      go_wp2
      go_roundw
      case rel => exact ⟨k + 1, _, by omega, by go_num, rfl⟩
      case measure => simp [intOf]; omega
    · go_wp2
      go_ret
      exact ⟨rfl, q, rfl⟩


end Go.Proofs.YtgdfipmdmgkidaaGreatDoor

/- The small functions of the statement Told: what is read of a telling. -/
namespace Go.Proofs.YtgdfipmdmgkidaaGreatDoor
open Go.RowKit

/-- A line as it was, of one that is told (without its sign). -/
def wholeB (s : ByteArray) : ByteArray := if 1 < s.size ∧ gb s (s.size - 2) = 36 then s.extract 0 (s.size - 2) else s

set_option maxRecDepth 100000 in
set_option maxHeartbeats 1600000 in
theorem kwhole32_any (s : ByteArray) (w : World) (hs : s.size ≤ 1000000000) :
    Calls Tryz.prog 48 #[.string s] w fun e w' => e = .returned (.string (wholeB s)) ∧ w' = w := by
  by_cases h1 : 1 < s.size
  · have h1i : (1 : Int) < (s.size : Int) := by omega
    have h1d : decide (1 < s.size) = true := by simpa using h1
    have hlt : s.size - 2 < s.size := by omega
    have hti : ((s.size : Int) - 2).toNat = s.size - 2 := by omega
    have h0 : (0 : Int) ≤ (s.size : Int) - 2 := by omega
    have h2 : (s.size : Int) - 2 < (s.size : Int) := by omega
    by_cases h36 : s[s.size - 2].toNat = 36
    · have hb : (((s[s.size - 2].toNat : Nat) : Int) == 36) = true := by rw [h36]; rfl
      have HE : Hid (wholeB s = s.extract 0 (s.size - 2)) := by show _ = _; unfold wholeB; rw [if_pos ⟨h1, by rw [← gb_eq s _ hlt]; exact h36⟩]
      clear h36
      go_enter Tryz.func48, Tryz.ntmps48
      go_wp2
      go_ret
      exact ⟨by rw [HE.out]; rfl, rfl⟩
    · have hb : (((s[s.size - 2].toNat : Nat) : Int) == 36) = false := by rw [beq_eq_false_iff_ne]; omega
      have HE : Hid (wholeB s = s) := by show _ = _; unfold wholeB; rw [if_neg (fun h => h36 (by rw [gb_eq s _ hlt]; exact h.2))]
      clear h36
      go_enter Tryz.func48, Tryz.ntmps48
      go_wp2
      go_ret
      exact ⟨by rw [HE.out]; rfl, rfl⟩
  · have h1d : decide (1 < s.size) = false := by simpa using h1
    have HE : Hid (wholeB s = s) := by show _ = _; unfold wholeB; rw [if_neg (fun h => h1 h.1)]
    go_enter Tryz.func48, Tryz.ntmps48
    go_wp2
    go_ret
    exact ⟨by rw [HE.out]; rfl, rfl⟩
/-- The number that the first k signs of a text are. -/
def decV (s : ByteArray) : Nat → Nat
  | 0 => 0
  | k + 1 => 10 * decV s k + (gb s k - 48)
theorem decV_lt (s : ByteArray) (h : ∀ i, i < s.size → gb s i ≤ 57) (k : Nat) (hk : k ≤ s.size) : decV s k + 1 ≤ 10 ^ k := by
  induction k with
  | zero => simp [decV]
  | succ k ih =>
    have h1 := h k (by omega)
    have h2 := ih (by omega)
    simp only [decV]
    rw [Nat.pow_succ]
    omega

set_option maxRecDepth 100000 in
set_option maxHeartbeats 1600000 in
theorem knumber31_any (s : ByteArray) (w : World) (h0 : 1 ≤ s.size) (h3 : s.size ≤ 3) (hd : ∀ i, i < s.size → 48 ≤ gb s i ∧ gb s i ≤ 57) :
    Calls Tryz.prog 47 #[.string s] w fun e w' => e = .returned (.int .i64 (decV s s.size : Nat)) ∧ w' = w := by
  have HD : Hid (∀ i, i < s.size → 48 ≤ gb s i ∧ gb s i ≤ 57) := hd
  have hne : (s.toList == (⟨#[]⟩ : ByteArray).toList) = false := by
    rw [eq_bytes]
    simp only [decide_eq_false_iff_not]
    intro e
    rw [e] at h0
    exact absurd h0 (by decide)
  have he : (⟨#[]⟩ : ByteArray).toList = [] := by rw [ByteArray.toList_eq]
  have hne1 : s.toList ≠ [] := by
    intro e
    rw [e, he] at hne
    simp at hne
  have hne2 : (s.toList == []) = false := by simp [hne1]
  have hne3 : s.toList.isEmpty = false := by simp [hne1]
  clear hd he
  go_enter Tryz.func47, Tryz.ntmps47
  go_wp2
  go_loop [3, 4] (fun v x => ∃ k : Nat, k ≤ s.size ∧ x = .int .i64 k ∧ v = .int .i64 (decV s k : Nat)) (fun _ x => s.size - (intOf x).toNat)
  case atStart => exact ⟨0, Nat.zero_le _, rfl, rfl⟩
  case round =>
    obtain ⟨k, hk, rfl, rfl⟩ := hrel
    by_cases hlt : k < s.size
    · have hg := HD.out k hlt
      have hgb := gb_eq s k hlt
      rw [← hgb] at hg
      have hv : decV s k ≤ 99 := by
        have := decV_lt s (fun i hi => (HD.out i hi).2) k (by omega)
        have : 10 ^ k ≤ 10 ^ 2 := Nat.pow_le_pow_right (by omega) (by omega)
        omega
      have HV : Hid (decV s (k + 1) = 10 * decV s k + (s[k].toNat - 48)) := by show _ = _; rw [hgb]; rfl
      have b1 : decide (((s[k].toNat : Nat) : Int) < 48) = false := by simp; omega
      have b2 : decide ((57 : Int) < ((s[k].toNat : Nat) : Int)) = false := by simp; omega
      have b3 : decide ((1000 : Int) < ((decV s k : Nat) : Int)) = false := by simp; omega
      have b1' : decide (s[k].toNat < 48) = false := by simp; omega
      have b2' : decide (57 < s[k].toNat) = false := by simp; omega
      have b3' : decide (1000 < decV s k) = false := by simp; omega
      clear hgb
      go_wp2
      go_round
      case rel => exact ⟨k + 1, by omega, by go_num, by rw [HV.out]; go_num⟩
      case measure => simp [intOf]; omega
    · obtain rfl : k = s.size := by omega
      go_wp2
      go_ret
      exact ⟨rfl, rfl⟩
end Go.Proofs.YtgdfipmdmgkidaaGreatDoor
