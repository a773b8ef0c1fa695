/- The small functions of the statement Told: its texts. -/
import Derived.Test.YtgdfipmdmgkidaaGreatDoorPeq
namespace Go.Proofs.YtgdfipmdmgkidaaGreatDoor
open Go.RowKit

set_option maxHeartbeats 1600000 in
/-- The statement's own cut. -/
theorem kcut14_any (s : ByteArray) (w : World) (hs : s.size ≤ 100000) :
    Calls Tryz.prog 19 #[.string s] w fun e w' => ∃ v, e = .returned v ∧ w'.ownsRow w.heap.size 9 1 v (cutAll s).length (strs (cutAll s)) ∧ Below w.heap.size w w' := by
  obtain ⟨i0, hi, hz0, hz1, hz2⟩ := info_parts Tryz.info9
  go_enter Tryz.func19, Tryz.ntmps19
  go_wp2
  go_loopw [3, 4, 5] (fun v st i wr => ∃ (p q : Nat) (L : List ByteArray), p ≤ s.size ∧ i = .int .i64 p ∧ st = .int .i64 q ∧ Hid (stTo s p = (L, q)) ∧ wr.ownsRow w.heap.size 9 1 v L.length (strs L) ∧ Below w.heap.size w wr) (fun _ _ i _ => s.size - (intOf i).toNat)
  case atStart => exact ⟨0, 0, [], Nat.zero_le _, rfl, rfl, rfl, World.ownsRow_nil _ _ _ _, Below.refl _ _⟩
  case round =>
    obtain ⟨p, q, L, hp, rfl, rfl, HS, hown, hbw⟩ := hrel
    have hq : q ≤ p := by have := (stTo_le s p).1; rw [HS.out] at this; exact this
    have hLq : L.length ≤ p := by have := (stTo_le s p).2; rw [HS.out] at this; exact this
    have hsz : w.heap.size ≤ wr.heap.size := hbw.size
    by_cases hlt : p < s.size
    · by_cases h10 : s[p].toNat = 10
      · have hb : (((s[p].toNat : Nat) : Int) == 10) = true := by rw [h10]; rfl
        have HB : Hid (gb s p = 10) := by rw [← gb_eq s p hlt]; exact h10
        clear h10
        go_wp2_with (at_builtin; refine wpList_append_own _ rfl _ _ 35 rfl w.heap.size 9 i0 (.string ⟨#[]⟩) 1 16 Tryz.underlying35 hi hz0 hz1 hz2 rfl (by decide) _ _ _ rfl (hown.alloc _) ⟨wr.heap.size, 0, none⟩ 1 1 [.string (s.extract q (p + 1))] rfl rfl ?c1 ?c2 ?c3 ?c4 ?c5 ?_)
        case c1 => exact new_one _ _ _
        case c2 => exact strs_one [_]
        case c3 => unfold maxLen; omega
        case c4 => omega
        case c5 => simp; omega
        intro v' w1 hown' hg _
        have R := step_own (Nat.le_refl _) hown hbw hsz hown' hg
        clear hown' hg hown hbw
        go_wp2
        go_roundw
        case rel => exact ⟨p + 1, p + 1, L ++ [s.extract q (p + 1)], by omega, by go_num, by go_num, by show _ = _; rw [stTo_nl HB.out, HS.out], R.1, R.2.1⟩
        case measure => simp [intOf]; omega
      · have hb : (((s[p].toNat : Nat) : Int) == 10) = false := by rw [beq_eq_false_iff_ne]; omega
        have HB : Hid (gb s p ≠ 10) := by rw [← gb_eq s p hlt]; exact h10
        clear h10
        go_wp2
        go_roundw
        case rel => exact ⟨p + 1, q, L, by omega, by go_num, rfl, by show _ = _; rw [stTo_no HB.out, HS.out], hown, hbw⟩
        case measure => simp [intOf]; omega
    · have hps : Hid (p = s.size) := by show _ = _; omega
      by_cases hql : q < s.size
      · go_wp2_with (at_builtin; refine wpList_append_own _ rfl _ _ 35 rfl w.heap.size 9 i0 (.string ⟨#[]⟩) 1 16 Tryz.underlying35 hi hz0 hz1 hz2 rfl (by decide) _ _ _ rfl (hown.alloc _) ⟨wr.heap.size, 0, none⟩ 1 1 [.string (s.extract q s.size)] rfl rfl ?d1 ?d2 ?d3 ?d4 ?d5 ?_)
        case d1 => exact new_one _ _ _
        case d2 => exact strs_one [_]
        case d3 => unfold maxLen; omega
        case d4 => omega
        case d5 => simp; omega
        intro v' w1 hown' hg _
        have R := step_own (Nat.le_refl _) hown hbw hsz hown' hg
        clear hown' hg hown hbw
        go_wp2
        go_ret
        have e := HS.out
        rw [hps.out] at e
        rw [cut_end e hql]
        exact ⟨_, rfl, R.1, R.2.1⟩
      · go_wp2
        go_ret
        have e := HS.out
        rw [hps.out] at e
        rw [cut_end0 e hql]
        exact ⟨_, rfl, hown, hbw⟩

theorem pick_nat (c : Int) (n : Nat) (hn : 1 ≤ n) : ∃ k : Nat, k < n ∧ c % (n : Int) = (k : Int) := by
  have h1 := Int.emod_nonneg c (b := (n : Int)) (by omega)
  have h2 := Int.emod_lt_of_pos c (b := (n : Int)) (by omega)
  exact ⟨(c % (n : Int)).toNat, by omega, by omega⟩

set_option maxRecDepth 100000 in
set_option maxHeartbeats 1600000 in
theorem kpick23_det (c : Int) (n : Nat) (hn : 1 ≤ n) (hn2 : n ≤ 10000000) (h0 : -9223372036854775808 ≤ c) (h1 : c ≤ 9223372036854775807) :
    ∃ k : Nat, k < n ∧ ∀ w, Calls Tryz.prog 31 #[.int .i64 c, .int .i64 n] w fun e w' => e = .returned (.int .i64 k) ∧ w' = w := by
  have hnz : ((n : Nat) : Int) ≠ 0 := by omega
  have hne : (((n : Nat) : Int) == 0) = false := by simp; omega
  by_cases hlt : c < 0
  · obtain ⟨k, hk, e⟩ := pick_nat (-(c + 1)) n hn
    have e2 : -((c + 1).tmod (n : Int)) = (-(c + 1)) % (n : Int) := by rw [← Int.neg_tmod, Int.tmod_eq_emod_of_nonneg (by omega)]
    have E : Hid (-((c + 1).tmod (n : Int)) = (k : Int)) := e2.trans e
    clear e e2
    refine ⟨k, hk, fun w => ?_⟩
    clear hk
    go_enter Tryz.func31, Tryz.ntmps31
    go_wp2
    go_ret
    exact ⟨ret_int E.out, rfl⟩
  · obtain ⟨k, hk, e⟩ := pick_nat c n hn
    have E : Hid (c % (n : Int) = (k : Int)) := e
    clear e
    refine ⟨k, hk, fun w => ?_⟩
    clear hk
    go_enter Tryz.func31, Tryz.ntmps31
    go_wp2
    go_ret
    exact ⟨ret_int E.out, rfl⟩

/-- The five lines of which the statement's texts are. -/
def fiveLines : List ByteArray := [⟨#[112, 10]⟩, ⟨#[113, 10]⟩, ⟨#[207, 137, 32, 207, 137, 10]⟩, ⟨#[10]⟩, ⟨#[116, 119, 101, 108, 118, 101, 32, 114, 117, 110, 101, 115, 10]⟩]

set_option maxRecDepth 100000 in
set_option maxHeartbeats 1600000 in
theorem kline22_det (c : Int) (h0 : -9223372036854775808 ≤ c) (h1 : c ≤ 9223372036854775807) :
    ∃ l ∈ fiveLines, ∀ w, Calls Tryz.prog 39 #[.int .i64 c] w fun e w' => e = .returned (.string l) ∧ w' = w := by
  obtain ⟨k, hk, hp⟩ := kpick23_det c 5 (by omega) (by omega) h0 h1
  have HP : Hid (∀ w, Calls Tryz.prog 31 #[.int .i64 c, .int .i64 5] w fun e w' => e = .returned (.int .i64 k) ∧ w' = w) := hp
  clear hp
  obtain rfl | rfl | rfl | rfl | rfl : k = 0 ∨ k = 1 ∨ k = 2 ∨ k = 3 ∨ k = 4 := by omega
  · refine ⟨⟨#[112, 10]⟩, by simp [fiveLines], fun w => ?_⟩
    go_enter Tryz.func39, Tryz.ntmps39
    go_wp2_with (go_at_call 31; refine (HP.out _).mono ?_; rintro e w1 ⟨rfl, rfl⟩)
    go_ret
    exact ⟨rfl, rfl⟩
  · refine ⟨⟨#[113, 10]⟩, by simp [fiveLines], fun w => ?_⟩
    go_enter Tryz.func39, Tryz.ntmps39
    go_wp2_with (go_at_call 31; refine (HP.out _).mono ?_; rintro e w1 ⟨rfl, rfl⟩)
    go_ret
    exact ⟨rfl, rfl⟩
  · refine ⟨⟨#[207, 137, 32, 207, 137, 10]⟩, by simp [fiveLines], fun w => ?_⟩
    go_enter Tryz.func39, Tryz.ntmps39
    go_wp2_with (go_at_call 31; refine (HP.out _).mono ?_; rintro e w1 ⟨rfl, rfl⟩)
    go_ret
    exact ⟨rfl, rfl⟩
  · refine ⟨⟨#[10]⟩, by simp [fiveLines], fun w => ?_⟩
    go_enter Tryz.func39, Tryz.ntmps39
    go_wp2_with (go_at_call 31; refine (HP.out _).mono ?_; rintro e w1 ⟨rfl, rfl⟩)
    go_ret
    exact ⟨rfl, rfl⟩
  · refine ⟨⟨#[116, 119, 101, 108, 118, 101, 32, 114, 117, 110, 101, 115, 10]⟩, by simp [fiveLines], fun w => ?_⟩
    go_enter Tryz.func39, Tryz.ntmps39
    go_wp2_with (go_at_call 31; refine (HP.out _).mono ?_; rintro e w1 ⟨rfl, rfl⟩)
    go_ret
    exact ⟨rfl, rfl⟩

def joinTo (L : List ByteArray) : Nat → ByteArray
  | 0 => ⟨#[]⟩
  | k + 1 => joinTo L k ++ L.getD k ByteArray.empty
theorem joinTo_size (L : List ByteArray) (hL : ∀ l ∈ L, l.size ≤ 1000) (k : Nat) : (joinTo L k).size ≤ k * 1000 := by
  induction k with
  | zero => exact Nat.le_refl _
  | succ k ih =>
    unfold joinTo
    rw [ByteArray.size_append]
    have : (L.getD k ByteArray.empty).size ≤ 1000 := by
      rw [List.getD_eq_getElem?_getD]
      cases h : L[k]? with
      | none => simp
      | some l => exact hL l (List.mem_of_getElem? h)
    omega
/-- Lines joined; open: without the last newline. -/
def joinedB (L : List ByteArray) (open_ : Bool) : ByteArray := if open_ = true ∧ 0 < (joinTo L L.length).size then (joinTo L L.length).extract 0 ((joinTo L L.length).size - 1) else joinTo L L.length

set_option maxRecDepth 100000 in
set_option maxHeartbeats 1600000 in
theorem kjoined24_any (L : List ByteArray) (open_ : Bool) (ao : Option Addr) (cap : Nat) (w : World) (hv : View w ao L) (hlen : L.length ≤ 100) (hL : ∀ l ∈ L, l.size ≤ 1000) :
    Calls Tryz.prog 40 #[.slice ao L.length cap, .bool open_] w fun e w' => e = .returned (.string (joinedB L open_)) ∧ w' = w := by
  go_enter Tryz.func40, Tryz.ntmps40
  go_wp2
  go_loop [5, 6] (fun s x => ∃ k : Nat, k ≤ L.length ∧ x = .int .i64 k ∧ s = .string (joinTo L k)) (fun _ x => L.length - (intOf x).toNat)
  case atStart => exact ⟨0, Nat.zero_le _, rfl, rfl⟩
  case round =>
    obtain ⟨k, hk, rfl, rfl⟩ := hrel
    have hsz := joinTo_size L hL k
    by_cases hlt : k < L.length
    · rcases hv with h | ⟨b, o, rfl, hb, hc⟩
      · omega
      have hcell := hc k hlt
      have hsz2 := joinTo_size L hL (k + 1)
      have hj : joinTo L (k + 1) = joinTo L k ++ L.getD k ByteArray.empty := rfl
      rw [hj, ByteArray.size_append] at hsz2
      have HJ : Hid (joinTo L (k + 1) = joinTo L k ++ L.getD k ByteArray.empty) := rfl
      generalize L.getD k ByteArray.empty = l at *
      generalize joinTo L k = A at *
      have hz : ¬ (9223372036854775807 < (A.size : Int) + (l.size : Int)) := by omega
      clear hj hc
      go_wp2
      go_round
      case rel => exact ⟨k + 1, by omega, by go_num, by rw [HJ.out]⟩
      case measure => simp [intOf]; omega
    · obtain rfl : k = L.length := by omega
      obtain ⟨A, hA⟩ : ∃ A, joinTo L L.length = A := ⟨_, rfl⟩
      rw [hA] at hsz ⊢
      cases open_
      · have HE : Hid (joinedB L false = A) := by show _ = _; unfold joinedB; rw [if_neg (by simp), hA]
        clear hA
        go_wp2
        go_ret
        exact ⟨by rw [HE.out]; rfl, rfl⟩
      · by_cases h0 : 0 < A.size
        · have HE : Hid (joinedB L true = A.extract 0 (A.size - 1)) := by show _ = _; unfold joinedB; rw [if_pos ⟨rfl, by rw [hA]; exact h0⟩, hA]
          clear hA
          have h0i : (0 : Int) < (A.size : Int) := by omega
          go_wp2
          go_ret
          exact ⟨by rw [HE.out]; rfl, rfl⟩
        · have HE : Hid (joinedB L true = A) := by show _ = _; unfold joinedB; rw [if_neg (fun h => h0 (by rw [← hA]; exact h.2)), hA]
          have h0d : decide (0 < A.size) = false := by simpa using h0
          clear hA
          go_wp2
          go_ret
          exact ⟨by rw [HE.out]; rfl, rfl⟩
/-- The numbers of which a text is made lie in memory. -/
def IV (w : World) (v : Value) (R : List Int) : Prop := ∃ ao cap, v = .slice ao R.length cap ∧ ∀ k, (h : k < R.length) → ∃ b o, ao = some ⟨b, o, none⟩ ∧ b < w.heap.size ∧ w.cell? ⟨b, o + k, none⟩ = some (.int .i64 R[k])
theorem IV.below {w w' : World} {v : Value} {R : List Int} (h : IV w v R) {B : Nat} (hb : Below B w w') (hB : w.heap.size ≤ B) : IV w' v R := by
  obtain ⟨ao, cap, rfl, hc⟩ := h
  refine ⟨ao, cap, rfl, fun k hk => ?_⟩
  obtain ⟨b, o, e, h1, h2⟩ := hc k hk
  exact ⟨b, o, e, Nat.lt_of_lt_of_le h1 hb.size, (hb.cell (p := ⟨b, o + k, none⟩) (by show b < B; omega)).trans h2⟩

set_option maxHeartbeats 800000 in
theorem ksame16_any (L : List ByteArray) (ao bo : Option Addr) (ca cb A B : Nat) (w : World) (ha : w.ownsRow A 9 1 (.slice ao L.length ca) L.length (strs L)) (hb : w.ownsRow B 9 1 (.slice bo L.length cb) L.length (strs L)) (hlen : L.length ≤ 1000000) :
    Calls Tryz.prog 21 #[.slice ao L.length ca, .slice bo L.length cb] w fun e w' => e = .returned (.bool true) ∧ ∃ q, w' = w.drewN q := by
  have hne : (((L.length : Nat) : Int) != ((L.length : Nat) : Int)) = false := by simp
  go_enter Tryz.func21, Tryz.ntmps21
  go_wp2
  go_loopw [5] (fun i wr => ∃ k q : Nat, k ≤ L.length ∧ i = .int .i64 k ∧ wr = w.drewN q) (fun i _ => L.length - (intOf i).toNat)
  case atStart => exact ⟨0, 0, Nat.zero_le _, rfl, rfl⟩
  case round =>
    obtain ⟨k, q, hk, rfl, rfl⟩ := hrel
    by_cases hlt : k < L.length
    · obtain ⟨g, hao, hgB, hgs⟩ := own_at ha (by omega)
      obtain ⟨g', hbo, hgB', hgs'⟩ := own_at hb (by omega)
      subst hao hbo
      have hc1 : w.cell? ⟨g, k, none⟩ = some (.string (L.getD k ByteArray.empty)) := row_cell ha k hlt
      have hc2 : w.cell? ⟨g', k, none⟩ = some (.string (L.getD k ByteArray.empty)) := row_cell hb k hlt
      obtain ⟨t, ht⟩ : ∃ t, L.getD k ByteArray.empty = t := ⟨_, rfl⟩
      rw [ht] at hc1 hc2
      clear ht ha hb
      go_wp2
      go_quiet (fail)
      go_wp2
      go_roundw
      case rel => exact ⟨k + 1, _, by omega, by go_num, rfl⟩
      case measure => simp [intOf]; omega
    · go_wp2
      go_ret
      exact ⟨rfl, q, rfl⟩

end Go.Proofs.YtgdfipmdmgkidaaGreatDoor

/- The small functions of the statement Told: what is read of a telling. -/
namespace Go.Proofs.YtgdfipmdmgkidaaGreatDoor
open Go.RowKit

/-- A line as it was, of one that is told (without its sign). -/
def wholeB (s : ByteArray) : ByteArray := if 1 < s.size ∧ gb s (s.size - 2) = 36 then s.extract 0 (s.size - 2) else s

/-- The number that the first k signs of a text are. -/
def decV (s : ByteArray) : Nat → Nat
  | 0 => 0
  | k + 1 => 10 * decV s k + (gb s k - 48)
end Go.Proofs.YtgdfipmdmgkidaaGreatDoor
