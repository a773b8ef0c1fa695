/- What two lists of lines have in common; which line is killed. -/
import Derived.Test.YtgdfipmdmgkidaaGreatDoorProw
import Derived.Deep.QuietTactic
import Derived.BigQuiet
namespace Go.Proofs.YtgdfipmdmgkidaaGreatDoor
open Go.RowKit

/-- The greatest number of lines that two lists have in common in this order, as the program reckons it. -/
def LL : List ByteArray → List ByteArray → Nat
  | [], _ => 0
  | _ :: _, [] => 0
  | a :: O, b :: N => if a = b then LL O N + 1 else max (LL O (b :: N)) (LL (a :: O) N)
termination_by O N => O.length + N.length

def CC (O N : List ByteArray) (i j : Nat) : Nat := LL (O.drop i) (N.drop j)
theorem LL_nil2 (O : List ByteArray) : LL O [] = 0 := by cases O <;> simp [LL]
theorem CC_end1 {O N : List ByteArray} {i j : Nat} (h : O.length ≤ i) : CC O N i j = 0 := by unfold CC; rw [List.drop_of_length_le h]; simp [LL]
theorem CC_end2 {O N : List ByteArray} {i j : Nat} (h : N.length ≤ j) : CC O N i j = 0 := by unfold CC; rw [List.drop_of_length_le h, LL_nil2]
theorem CC_eq {O N : List ByteArray} {i j : Nat} (hi : i < O.length) (hj : j < N.length) (h : O[i] = N[j]) : CC O N i j = CC O N (i + 1) (j + 1) + 1 := by
  unfold CC
  rw [List.drop_eq_getElem_cons hi, List.drop_eq_getElem_cons hj, LL, if_pos h]
theorem CC_ne {O N : List ByteArray} {i j : Nat} (hi : i < O.length) (hj : j < N.length) (h : O[i] ≠ N[j]) : CC O N i j = max (CC O N (i + 1) j) (CC O N i (j + 1)) := by
  unfold CC
  conv => lhs; rw [List.drop_eq_getElem_cons hi, List.drop_eq_getElem_cons hj, LL, if_neg h]
  rw [← List.drop_eq_getElem_cons hi, ← List.drop_eq_getElem_cons hj]
theorem LL_le (O N : List ByteArray) : LL O N ≤ O.length := by
  induction O, N using LL.induct with
  | case1 N => simp [LL]
  | case2 a O => simp [LL]
  | case3 O b N ih => rw [LL]; simp; omega
  | case4 a O b N h ih1 ih2 =>
    rw [LL, if_neg h]
    simp only [List.length_cons] at *
    omega
theorem CC_le (O N : List ByteArray) (i j : Nat) : CC O N i j ≤ O.length := by
  unfold CC
  have := LL_le (O.drop i) (N.drop j)
  simp at this
  omega

/-- The table, as it lies in memory. -/
def TV (w : World) (v : Value) (n m : Nat) (T : Nat → Nat → Nat) : Prop := ∃ b o cap, v = .slice (some ⟨b, o, none⟩) (n + 1) cap ∧ b < w.heap.size ∧ ∀ i, i ≤ n → ∃ g q c, w.cell? ⟨b, o + i, none⟩ = some (.slice (some ⟨g, q, none⟩) (m + 1) c) ∧ g < w.heap.size ∧ ∀ j, j ≤ m → w.cell? ⟨g, q + j, none⟩ = some (.int .i64 (T i j : Nat))
theorem TV.below {w w' : World} {v : Value} {n m : Nat} {T : Nat → Nat → Nat} (h : TV w v n m T) {B : Nat} (hb : Below B w w') (hB : w.heap.size ≤ B) : TV w' v n m T := by
  obtain ⟨b, o, cap, rfl, h1, h2⟩ := h
  refine ⟨b, o, cap, rfl, Nat.lt_of_lt_of_le h1 hb.size, fun i hi => ?_⟩
  obtain ⟨g, q, c, h3, h4, h5⟩ := h2 i hi
  exact ⟨g, q, c, (hb.cell (p := ⟨b, o + i, none⟩) (by simp; omega)).trans h3, Nat.lt_of_lt_of_le h4 hb.size, fun j hj => (hb.cell (p := ⟨g, q + j, none⟩) (by simp; omega)).trans (h5 j hj)⟩

def killB (O N : List ByteArray) (i j : Nat) : Bool := if i = O.length ∨ j = N.length then decide (i < O.length) else decide (CC O N i (j + 1) ≤ CC O N (i + 1) j)

theorem cells3_at {w : World} {g : Nat} {x y z : Value} {t : TypeId} {f : Nat × Nat} (h : w.heap[g]? = some (.cells #[x, y, z] t f)) : w.cell? ⟨g, 0, none⟩ = some x ∧ w.cell? ⟨g, 1, none⟩ = some y ∧ w.cell? ⟨g, 2, none⟩ = some z := by
  simp [World.cell?, h]

set_option maxRecDepth 100000 in
set_option maxHeartbeats 1600000 in
theorem kills214_any (O N : List ByteArray) (i j : Nat) (hi : i ≤ O.length) (hj : j ≤ N.length) (hO : O.length ≤ 100000) (hN : N.length ≤ 100000) (oa na : Option Addr) (oc nc : Nat) (cv : Value) (w : World) (ht : TV w cv O.length N.length (CC O N)) :
    Calls Tryz.prog 291 #[.agg #[.slice oa O.length oc, .slice na N.length nc, cv], .int .i64 i, .int .i64 j] w fun e w' => e = .returned (.bool (killB O N i j)) ∧ Below w.heap.size w w' := by
  have hb0 : ∀ x, Below w.heap.size w (w.alloc x) := fun x => (Below.refl _ _).alloc (Nat.le_refl _) _
  have HT : Hid (TV w cv O.length N.length (CC O N)) := ht
  obtain ⟨b, o, cap, rfl, hbl, hrow⟩ := ht
  by_cases h1 : i = O.length
  · have HK : Hid (killB O N i j = decide (i < O.length)) := by show _ = _; unfold killB; rw [if_pos (.inl h1)]
    have hd1 : ((i : Int) == (O.length : Int)) = true := by simp; omega
    clear h1 hrow
    go_enter Tryz.func291, Tryz.ntmps291
    go_wp2
    go_ret
    exact ⟨by rw [HK.out]; rfl, hb0 _⟩
  · have hd1 : ((i : Int) == (O.length : Int)) = false := by rw [beq_eq_false_iff_ne]; omega
    have hd2 : (i : Int) < (O.length : Int) := by omega
    by_cases h2 : j = N.length
    · have HK : Hid (killB O N i j = decide (i < O.length)) := by show _ = _; unfold killB; rw [if_pos (.inr h2)]
      have hd4 : decide (i < O.length) = true := by simp; omega
      have hd3 : ((j : Int) == (N.length : Int)) = true := by simp; omega
      clear h1 h2 hrow
      go_enter Tryz.func291, Tryz.ntmps291
      go_wp2
      go_ret
      exact ⟨by rw [HK.out, hd4]; rfl, hb0 _⟩
    · have hd3 : ((j : Int) == (N.length : Int)) = false := by rw [beq_eq_false_iff_ne]; omega
      have HK : Hid (killB O N i j = decide (CC O N i (j + 1) ≤ CC O N (i + 1) j)) := by show _ = _; unfold killB; rw [if_neg (by omega)]
      have hj2 : (j : Int) < (N.length : Int) := by omega
      obtain ⟨w1, hw1⟩ : ∃ w1, w1 = w.alloc (.cells #[.slice oa O.length oc, .slice na N.length nc, .slice (some ⟨b, o, none⟩) (O.length + 1) cap] 349) := ⟨_, rfl⟩
      have hb1 : Below w.heap.size w w1 := by rw [hw1]; exact hb0 _
      have hk1 : w1.heap[w.heap.size]? = some (.cells #[.slice oa O.length oc, .slice na N.length nc, .slice (some ⟨b, o, none⟩) (O.length + 1) cap] 349 (0, 0)) := by rw [hw1]; exact (MapKept.heap_alloc w (.cells #[.slice oa O.length oc, .slice na N.length nc, .slice (some ⟨b, o, none⟩) (O.length + 1) cap] 349)).1
      obtain ⟨_, _, _, e1, _, hr1⟩ := HT.out.below hb1 (Nat.le_refl _)
      cases e1
      obtain ⟨g, q, c, r1, r2, r3⟩ := hr1 i (by omega)
      obtain ⟨g', q', c', s1, s2, s3⟩ := hr1 (i + 1) (by omega)
      have r4 := r3 (j + 1) (by omega)
      have s4 := s3 j (by omega)
      obtain ⟨d0, d1, d2⟩ := cells3_at hk1
      have x1 := CC_le O N (i + 1) j
      have x2 := CC_le O N i (j + 1)
      generalize CC O N (i + 1) j = A at *
      generalize CC O N i (j + 1) = D at *
      have wi : IntKind.i64.wrap ((i : Int) + 1) = (i : Int) + 1 := by simp [IntKind.wrap, IntKind.signed, IntKind.bits]; omega
      have wj : IntKind.i64.wrap ((j : Int) + 1) = (j : Int) + 1 := by simp [IntKind.wrap, IntKind.signed, IntKind.bits]; omega
      have bi0 : (0 : Int) ≤ (i : Int) + 1 := by omega
      have bi1 : (i : Int) + 1 < ((O.length + 1 : Nat) : Int) := by omega
      have bi2 : (i : Int) < ((O.length + 1 : Nat) : Int) := by omega
      have bj0 : (0 : Int) ≤ (j : Int) + 1 := by omega
      have bj1 : (j : Int) + 1 < ((N.length + 1 : Nat) : Int) := by omega
      have bj2 : (j : Int) < ((N.length + 1 : Nat) : Int) := by omega
      have ti : ((i : Int) + 1).toNat = i + 1 := by omega
      have tj : ((j : Int) + 1).toNat = j + 1 := by omega
      clear hr1 r3 s3 hrow h1 h2 hk1
      go_enter Tryz.func291, Tryz.ntmps291
      go_wp2_with fail
      rw [← hw1]
      clear hw1
      go_quiet (fail)
      go_wp2
      go_ret
      exact ⟨by rw [HK.out]; rfl, below_drewN hb1 _⟩
end Go.Proofs.YtgdfipmdmgkidaaGreatDoor

/- On to the next line that goes on living. -/
namespace Go.Proofs.YtgdfipmdmgkidaaGreatDoor
open Go.RowKit

def meets (O N : List ByteArray) (i j : Nat) : Prop := i < O.length ∧ j < N.length ∧ O.getD i ByteArray.empty = N.getD j ByteArray.empty
instance (O N : List ByteArray) (i j : Nat) : Decidable (meets O N i j) := by unfold meets; infer_instance
def nxtF (O N : List ByteArray) : Nat → Nat → Nat → Nat × Nat
  | 0, i, j => (i, j)
  | k + 1, i, j => if meets O N i j then (i, j) else if killB O N i j = true then nxtF O N k (i + 1) j else nxtF O N k i (j + 1)
def nxt (O N : List ByteArray) (i j : Nat) : Nat × Nat := nxtF O N ((O.length - i) + (N.length - j)) i j
theorem nxt_stop {O N : List ByteArray} {i j : Nat} (h : meets O N i j) : nxt O N i j = (i, j) := by
  unfold nxt
  have h1 := h.1
  obtain ⟨k, hk⟩ : ∃ k, (O.length - i) + (N.length - j) = k + 1 := ⟨(O.length - i) + (N.length - j) - 1, by omega⟩
  rw [hk, nxtF, if_pos h]
theorem nxt_end {O N : List ByteArray} {i j : Nat} (hi : O.length ≤ i) (hj : N.length ≤ j) : nxt O N i j = (i, j) := by
  unfold nxt
  rw [show (O.length - i) + (N.length - j) = 0 by omega, nxtF]
theorem kill_lt {O N : List ByteArray} {i j : Nat} (hi : i ≤ O.length) (hk : killB O N i j = true) : i < O.length := by
  unfold killB at hk
  split at hk
  · simpa using hk
  · omega
theorem nokill_lt {O N : List ByteArray} {i j : Nat} (hi : i ≤ O.length) (hj : j ≤ N.length) (h : i < O.length ∨ j < N.length) (hk : killB O N i j = false) : j < N.length := by
  unfold killB at hk
  split at hk
  · simp at hk; omega
  · omega
theorem nxt_kill {O N : List ByteArray} {i j : Nat} (hi : i ≤ O.length) (h : ¬ meets O N i j) (hk : killB O N i j = true) : nxt O N i j = nxt O N (i + 1) j := by
  have h1 := kill_lt hi hk
  unfold nxt
  obtain ⟨k, hk'⟩ : ∃ k, (O.length - i) + (N.length - j) = k + 1 := ⟨(O.length - i) + (N.length - j) - 1, by omega⟩
  rw [hk', nxtF, if_neg h, if_pos hk]
  congr 1
  omega
theorem nxt_come {O N : List ByteArray} {i j : Nat} (hi : i ≤ O.length) (hj : j ≤ N.length) (h : ¬ meets O N i j) (h2 : i < O.length ∨ j < N.length) (hk : killB O N i j = false) : nxt O N i j = nxt O N i (j + 1) := by
  have h1 := nokill_lt hi hj h2 hk
  unfold nxt
  obtain ⟨k, hk'⟩ : ∃ k, (O.length - i) + (N.length - j) = k + 1 := ⟨(O.length - i) + (N.length - j) - 1, by omega⟩
  rw [hk', nxtF, if_neg h, if_neg (by rw [hk]; simp)]
  congr 1
  omega

theorem eq_bytes' (t s : ByteArray) : (t.toList == s.toList) = decide (t = s) := by
  by_cases h : t = s
  · subst h; simp
  · rw [word_ne h]; simp [h]

set_option maxRecDepth 100000 in
set_option maxHeartbeats 3200000 in
theorem next198_any (O N : List ByteArray) (i j : Nat) (hi : i ≤ O.length) (hj : j ≤ N.length) (hO : O.length ≤ 100000) (hN : N.length ≤ 100000) (oa na : Option Addr) (oc nc : Nat) (cv : Value) (w : World) (ht : TV w cv O.length N.length (CC O N)) (hvo : View w oa O) (hvn : View w na N) :
    Calls Tryz.prog 270 #[.agg #[.slice oa O.length oc, .slice na N.length nc, cv], .int .i64 i, .int .i64 j] w fun e w' => e = .returned (.tuple #[.int .i64 ((nxt O N i j).1 : Nat), .int .i64 ((nxt O N i j).2 : Nat)]) ∧ Below w.heap.size w w' := by
  have HT : Hid (TV w cv O.length N.length (CC O N)) := ht
  obtain ⟨b, o, cap, rfl, hbl, hrow⟩ := ht
  clear hrow
  obtain ⟨w1, hw1⟩ : ∃ w1, w1 = w.alloc (.cells #[.slice oa O.length oc, .slice na N.length nc, .slice (some ⟨b, o, none⟩) (O.length + 1) cap] 349) := ⟨_, rfl⟩
  have hb1 : Below w.heap.size w w1 := by rw [hw1]; exact (Below.refl _ _).alloc (Nat.le_refl _) _
  have hk1 : w1.heap[w.heap.size]? = some (.cells #[.slice oa O.length oc, .slice na N.length nc, .slice (some ⟨b, o, none⟩) (O.length + 1) cap] 349 (0, 0)) := by rw [hw1]; exact (MapKept.heap_alloc w (.cells #[.slice oa O.length oc, .slice na N.length nc, .slice (some ⟨b, o, none⟩) (O.length + 1) cap] 349)).1
  have hs1 : w.heap.size < w1.heap.size := by rw [hw1]; simp
  obtain ⟨R, hR⟩ : ∃ R, nxt O N i j = R := ⟨_, rfl⟩
  rw [hR]
  go_enter Tryz.func270, Tryz.ntmps270
  go_wp2_with fail
  rw [← hw1]
  clear hw1
  go_loopw [1, 2] (fun x y wr => ∃ i j : Nat, i ≤ O.length ∧ j ≤ N.length ∧ x = .int .i64 i ∧ y = .int .i64 j ∧ Hid (nxt O N i j = R) ∧ Below w1.heap.size w1 wr) (fun x y _ => (O.length - (intOf x).toNat) + (N.length - (intOf y).toNat))
  case atStart => exact ⟨i, j, hi, hj, rfl, rfl, hR, Below.refl _ _⟩
  case round =>
    clear hR
    obtain ⟨i, j, hi, hj, rfl, rfl, HR, hbw⟩ := hrel
    have hbw0 : Below w.heap.size w wr := hb1.trans (hbw.mono (Nat.le_of_lt hs1))
    have hkr := (hbw.block _ hs1).trans hk1
    obtain ⟨d0, d1, d2⟩ := cells3_at hkr
    have HK : Hid (∀ q, Calls Tryz.prog 291 #[.agg #[.slice oa O.length oc, .slice na N.length nc, .slice (some ⟨b, o, none⟩) (O.length + 1) cap], .int .i64 i, .int .i64 j] (wr.drewN q) fun e w' => e = .returned (.bool (killB O N i j)) ∧ Below wr.heap.size wr w') := fun q => by
      refine (kills214_any O N i j hi hj hO hN oa na oc nc _ (wr.drewN q) (HT.out.below (below_drewN hbw0 q) (Nat.le_refl _))).mono ?_
      rintro e w' ⟨rfl, hb⟩
      exact ⟨rfl, (below_drewN (Below.refl _ wr) q).trans hb⟩
    by_cases h1 : i < O.length
    · have e1 : (i : Int) < (O.length : Int) := by omega
      have e1d : decide (i < O.length) = true := by simpa using h1
      by_cases h2 : j < N.length
      · have e2 : (j : Int) < (N.length : Int) := by omega
        have e2d : decide (j < N.length) = true := by simpa using h2
        rcases hvo.below hbw0 with h | ⟨ob, oo, rfl, hob, hoc⟩
        · omega
        rcases hvn.below hbw0 with h | ⟨nb, no, rfl, hnb, hnc⟩
        · omega
        have co := hoc i h1
        have cn := hnc j h2
        obtain ⟨x, hx⟩ : ∃ x, O.getD i ByteArray.empty = x := ⟨_, rfl⟩
        obtain ⟨y, hy⟩ : ∃ y, N.getD j ByteArray.empty = y := ⟨_, rfl⟩
        rw [hx] at co
        rw [hy] at cn
        clear hoc hnc
        cases he : decide (x = y)
        · have hb2 : (x.toList == y.toList) = false := by rw [eq_bytes']; exact he
          have hnm : ¬ meets O N i j := fun hm => by have := hm.2.2; rw [hx, hy] at this; simp [this] at he
          clear hx hy he
          cases hkl : killB O N i j
          · have HN2 : Hid (nxt O N i (j + 1) = R) := by show _ = _; rw [← nxt_come hi hj hnm (.inl h1) hkl]; exact HR.out
            have HKK := HK.out
            rw [hkl] at HKK
            have HK : Hid (∀ q, Calls Tryz.prog 291 #[.agg #[.slice (some ⟨ob, oo, none⟩) O.length oc, .slice (some ⟨nb, no, none⟩) N.length nc, .slice (some ⟨b, o, none⟩) (O.length + 1) cap], .int .i64 i, .int .i64 j] (wr.drewN q) fun e w' => e = .returned (.bool false) ∧ Below wr.heap.size wr w') := HKK
            clear hkl hnm HR HKK
            go_wp2_with fail
            go_quiet (fail)
            go_wp2_with fail
            refine (HK.out _).mono ?_
            rintro e w2 ⟨rfl, hbe⟩
            have hbw2 : Below w1.heap.size w1 w2 := hbw.trans (hbe.mono hbw.size)
            clear HK hbe
            go_wp2
            go_roundw
            case rel => exact ⟨i, j + 1, by omega, by omega, by go_num, by go_num, HN2, hbw2⟩
            case measure => simp [intOf]; omega
          · have HN2 : Hid (nxt O N (i + 1) j = R) := by show _ = _; rw [← nxt_kill hi hnm hkl]; exact HR.out
            have HKK := HK.out
            rw [hkl] at HKK
            have HK : Hid (∀ q, Calls Tryz.prog 291 #[.agg #[.slice (some ⟨ob, oo, none⟩) O.length oc, .slice (some ⟨nb, no, none⟩) N.length nc, .slice (some ⟨b, o, none⟩) (O.length + 1) cap], .int .i64 i, .int .i64 j] (wr.drewN q) fun e w' => e = .returned (.bool true) ∧ Below wr.heap.size wr w') := HKK
            clear hkl hnm HR HKK
            go_wp2_with fail
            go_quiet (fail)
            go_wp2_with fail
            refine (HK.out _).mono ?_
            rintro e w2 ⟨rfl, hbe⟩
            have hbw2 : Below w1.heap.size w1 w2 := hbw.trans (hbe.mono hbw.size)
            clear HK hbe
            go_wp2
            go_roundw
            case rel => exact ⟨i + 1, j, by omega, by omega, by go_num, by go_num, HN2, hbw2⟩
            case measure => simp [intOf]; omega
        · have hb2 : (x.toList == y.toList) = true := by rw [eq_bytes']; exact he
          have HE : Hid (nxt O N i j = (i, j)) := nxt_stop ⟨h1, h2, by rw [hx, hy]; simpa using he⟩
          clear hx hy he HK
          go_wp2_with fail
          go_quiet (fail)
          go_wp2
          go_ret2
          exact ⟨by rw [← HR.out, HE.out]; rfl, below_drewN hbw0 _⟩
      · have e2 : decide ((j : Int) < (N.length : Int)) = false := by simp; omega
        have e2d : decide (j < N.length) = false := by simpa using h2
        have hnm : ¬ meets O N i j := fun hm => by have := hm.1; have := hm.2.1; omega
        have hkl : killB O N i j = true := by unfold killB; rw [if_pos (by omega)]; simp; omega
        have HN2 : Hid (nxt O N (i + 1) (j) = R) := by show _ = _; rw [← nxt_kill hi hnm hkl]; exact HR.out
        have HKK := HK.out
        rw [hkl] at HKK
        have HK : Hid (∀ q, Calls Tryz.prog 291 #[.agg #[.slice oa O.length oc, .slice na N.length nc, .slice (some ⟨b, o, none⟩) (O.length + 1) cap], .int .i64 i, .int .i64 j] (wr.drewN q) fun e w' => e = .returned (.bool true) ∧ Below wr.heap.size wr w') := HKK
        clear hkl hnm HR HKK
        go_wp2_with fail
        go_quiet (fail)
        go_wp2_with fail
        refine (HK.out _).mono ?_
        rintro e w2 ⟨rfl, hbe⟩
        have hbw2 : Below w1.heap.size w1 w2 := hbw.trans (hbe.mono hbw.size)
        clear HK hbe
        go_wp2
        go_roundw
        case rel => exact ⟨i + 1, j, by omega, by omega, by go_num, by go_num, HN2, hbw2⟩
        case measure => simp [intOf]; omega
    · have e1 : decide ((i : Int) < (O.length : Int)) = false := by simp; omega
      have e1d : decide (i < O.length) = false := by simpa using h1
      by_cases h2 : j < N.length
      · have e2 : (j : Int) < (N.length : Int) := by omega
        have e2d : decide (j < N.length) = true := by simpa using h2
        have hnm : ¬ meets O N i j := fun hm => by have := hm.1; have := hm.2.1; omega
        have hkl : killB O N i j = false := by unfold killB; rw [if_pos (by omega)]; simp; omega
        have HN2 : Hid (nxt O N (i) (j + 1) = R) := by show _ = _; rw [← nxt_come hi hj hnm (.inr h2) hkl]; exact HR.out
        have HKK := HK.out
        rw [hkl] at HKK
        have HK : Hid (∀ q, Calls Tryz.prog 291 #[.agg #[.slice oa O.length oc, .slice na N.length nc, .slice (some ⟨b, o, none⟩) (O.length + 1) cap], .int .i64 i, .int .i64 j] (wr.drewN q) fun e w' => e = .returned (.bool false) ∧ Below wr.heap.size wr w') := HKK
        clear hkl hnm HR HKK
        go_wp2_with fail
        go_quiet (fail)
        go_wp2_with fail
        refine (HK.out _).mono ?_
        rintro e w2 ⟨rfl, hbe⟩
        have hbw2 : Below w1.heap.size w1 w2 := hbw.trans (hbe.mono hbw.size)
        clear HK hbe
        go_wp2
        go_roundw
        case rel => exact ⟨i, j + 1, by omega, by omega, by go_num, by go_num, HN2, hbw2⟩
        case measure => simp [intOf]; omega
      · have e2 : decide ((j : Int) < (N.length : Int)) = false := by simp; omega
        have e2d : decide (j < N.length) = false := by simpa using h2
        have HE : Hid (nxt O N i j = (i, j)) := nxt_end (by omega) (by omega)
        clear HK
        go_wp2
        go_ret2
        exact ⟨by rw [← HR.out, HE.out]; rfl, hbw0⟩
end Go.Proofs.YtgdfipmdmgkidaaGreatDoor

/- What changed between two lists of lines: the gaps. -/
namespace Go.Proofs.YtgdfipmdmgkidaaGreatDoor
open Go.RowKit

/-- A list of texts, as a value. -/
def LV (w : World) (v : Value) (L : List ByteArray) : Prop := ∃ ao cap, v = .slice ao L.length cap ∧ View w ao L ∧ L.length ≤ cap ∧ ((ao = none ∧ cap = 0 ∧ L = []) ∨ ∃ b o, ao = some ⟨b, o, none⟩ ∧ b < w.heap.size)
theorem LV.below {w w' : World} {v : Value} {L : List ByteArray} (h : LV w v L) {B : Nat} (hb : Below B w w') (hB : w.heap.size ≤ B) : LV w' v L := by
  obtain ⟨ao, cap, rfl, h1, h2, h3⟩ := h
  refine ⟨ao, cap, rfl, h1.below (hb.mono hB), h2, ?_⟩
  rcases h3 with h3 | ⟨b, o, e, hlt⟩
  · exact .inl h3
  · exact .inr ⟨b, o, e, Nat.lt_of_lt_of_le hlt hb.size⟩
theorem LV.own {w : World} {B : Nat} {v : Value} {L : List ByteArray} (h : w.ownsRow B 9 1 v L.length (strs L)) : LV w v L := by
  have h0 := h
  have hlt := h.lt
  rcases h.2 with ⟨rfl, h2⟩ | ⟨g, cp, cur, rfl, _, hg, h3, _⟩
  · have hL : L = [] := List.eq_nil_of_length_eq_zero h2
    subst hL
    exact ⟨none, 0, rfl, .inl rfl, Nat.le_refl _, .inl ⟨rfl, rfl, rfl⟩⟩
  · exact ⟨_, cp, rfl, View.own h0, h3, .inr ⟨g, 0, rfl, (hlt g rfl).2⟩⟩

theorem getD_drop (L : List ByteArray) (j l k : Nat) (_hl : l ≤ L.length) (hk : k < l - j) : ((L.take l).drop j).getD k ByteArray.empty = L.getD (j + k) ByteArray.empty := by
  rw [List.getD_eq_getElem?_getD, List.getD_eq_getElem?_getD, List.getElem?_drop, List.getElem?_take_of_lt (by omega)]

set_option maxRecDepth 100000 in
theorem clone199_part (L : List ByteArray) (j l : Nat) (hjl : j ≤ l) (hl : l ≤ L.length) (b o cap : Nat) (w : World) (hlen : L.length ≤ 100000) (hv : View w (some ⟨b, o, none⟩) L) (hb : b < w.heap.size) :
    Calls Tryz.prog 271 #[.slice (some ⟨b, o + j, none⟩) (l - j) (cap - j)] w fun e w' => ∃ v, e = .returned v ∧ w'.ownsRow w.heap.size 9 1 v ((L.take l).drop j).length (strs ((L.take l).drop j)) ∧ Below w.heap.size w w' := by
  obtain ⟨i0, hi, hz0, hz1, hz2⟩ := info_parts Tryz.info9
  have hM : ((L.take l).drop j).length = l - j := by simp; omega
  have hc : ∀ (k : Nat) (u : Value), (strs ((L.take l).drop j))[k]? = some u → w.cell? ((⟨b, o + j, none⟩ : Addr).add k) = some u := by
    intro k u hk
    have hk2 : k < l - j := by
      have := (List.getElem?_eq_some_iff.1 hk).1
      rw [strs_length, hM] at this
      exact this
    rcases hv with h | ⟨b', o', e, _, h⟩
    · omega
    · cases e
      have h1 := h (j + k) (by omega)
      rw [← getD_drop L j l k hl hk2] at h1
      have hk3 : k < ((L.take l).drop j).length := by omega
      have e2 : (strs ((L.take l).drop j))[k]? = some (.string (((L.take l).drop j).getD k ByteArray.empty)) := by
        rw [List.getElem?_map, List.getElem?_eq_getElem hk3, List.getD_eq_getElem?_getD, List.getElem?_eq_getElem hk3]; rfl
      rw [hk] at e2
      cases e2
      rw [← h1]
      cases k
      · simp [Addr.add]
      · simp [Addr.add, Nat.add_assoc]
  generalize (L.take l).drop j = M at *
  have hnil : ∀ u : World, (binOp .eql 35 (.slice (some ⟨b, o + j, none⟩) (l - j) (cap - j)) (.slice none 0 0)).run Tryz.prog u = .ok (.bool false) u := fun u => Lib.run_eql_slice_some_nil u _ _ _ Tryz.underlying35
  have hb0 : Below w.heap.size w (w.alloc (.cells #[] 9)) := (Below.refl _ _).alloc (Nat.le_refl _) _
  have ho : (w.alloc (.cells #[] 9)).ownsRow w.heap.size 9 1 (.slice (some ⟨w.heap.size, 0, none⟩) 0 0) 0 [] := ⟨rfl, .inr ⟨w.heap.size, 0, #[], rfl, Nat.le_refl _, (MapKept.heap_alloc w _).1, Nat.le_refl _, Nat.zero_le _, rfl, rfl⟩⟩
  have hc1 : ∀ (k : Nat) (u : Value), (strs M)[k]? = some u → (w.alloc (.cells #[] 9)).cell? ((⟨b, o + j, none⟩ : Addr).add k) = some u := by
    intro k u hk
    have hblk : ((⟨b, o + j, none⟩ : Addr).add k).block = b := by cases k <;> simp [Addr.add]
    exact (hb0.cell (by rw [hblk]; exact hb)).trans (hc k u hk)
  clear hc hv
  go_enter Tryz.func271, Tryz.ntmps271
  go_wp2_with (at_builtin; refine wpList_append_own _ rfl _ _ 35 rfl w.heap.size 9 i0 (.string ⟨#[]⟩) 1 16 Tryz.underlying35 hi hz0 hz1 hz2 rfl (by decide) _ _ _ rfl ho ⟨b, o + j, none⟩ (l - j) (cap - j) (strs M) rfl (by rw [strs_length]; omega) hc1 (strs_one M) (by unfold maxLen; omega) (by omega) (by simp) ?_)
  intro v' w1 h1 h2 _
  have R := step_any (Nat.le_refl _) ho hb0 (by simp) h2
  clear h2 ho hb0 hc1
  go_wp2
  go_ret
  exact ⟨_, rfl, by rw [hM]; simpa using h1, R⟩
theorem nxtF_props (O N : List ByteArray) : ∀ (f i j : Nat), i ≤ O.length → j ≤ N.length → f = (O.length - i) + (N.length - j) → i ≤ (nxtF O N f i j).1 ∧ (nxtF O N f i j).1 ≤ O.length ∧ j ≤ (nxtF O N f i j).2 ∧ (nxtF O N f i j).2 ≤ N.length ∧ (meets O N (nxtF O N f i j).1 (nxtF O N f i j).2 ∨ ((nxtF O N f i j).1 = O.length ∧ (nxtF O N f i j).2 = N.length))
  | 0, i, j, hi, hj, hf => by
    simp only [nxtF]
    refine ⟨Nat.le_refl _, hi, Nat.le_refl _, hj, .inr ⟨by omega, by omega⟩⟩
  | f + 1, i, j, hi, hj, hf => by
    rw [nxtF]
    by_cases hm : meets O N i j
    · rw [if_pos hm]; exact ⟨Nat.le_refl _, hi, Nat.le_refl _, hj, .inl hm⟩
    · rw [if_neg hm]
      by_cases hk : killB O N i j = true
      · rw [if_pos hk]
        have h1 := kill_lt hi hk
        obtain ⟨a, b, c, d, e⟩ := nxtF_props O N f (i + 1) j (by omega) hj (by omega)
        exact ⟨by omega, b, c, d, e⟩
      · rw [if_neg hk]
        have h1 := nokill_lt hi hj (by omega) (by simpa using hk)
        obtain ⟨a, b, c, d, e⟩ := nxtF_props O N f i (j + 1) hi (by omega) (by omega)
        exact ⟨a, b, by omega, d, e⟩
theorem nxt_props (O N : List ByteArray) (i j : Nat) (hi : i ≤ O.length) (hj : j ≤ N.length) : i ≤ (nxt O N i j).1 ∧ (nxt O N i j).1 ≤ O.length ∧ j ≤ (nxt O N i j).2 ∧ (nxt O N i j).2 ≤ N.length ∧ (meets O N (nxt O N i j).1 (nxt O N i j).2 ∨ ((nxt O N i j).1 = O.length ∧ (nxt O N i j).2 = N.length)) :=
  nxtF_props O N _ i j hi hj rfl

/-- What is killed and what comes, between two lines that go on living. -/
structure Quad where
  i : Nat
  k : Nat
  j : Nat
  l : Nat
def gapOf (i k j l : Nat) : List Quad := if i < k ∨ j < l then [⟨i, k, j, l⟩] else []
inductive GapsR (O N : List ByteArray) : Nat → Nat → List Quad → Prop
  | stop {i j k l : Nat} : nxt O N i j = (k, l) → k = O.length → GapsR O N i j (gapOf i k j l)
  | go {i j k l : Nat} {rest : List Quad} : nxt O N i j = (k, l) → k < O.length → GapsR O N (k + 1) (l + 1) rest → GapsR O N i j (gapOf i k j l ++ rest)

/-- A gap, as it lies in memory. -/
structure Gp where
  q : Quad
  lv : Value
abbrev gpC (g : Gp) : List Value := [.int .i64 (g.q.i : Nat), .int .i64 (g.q.k : Nat), g.lv]
abbrev gsC (G : List Gp) : List Value := G.flatMap gpC
def linesAt (N : List ByteArray) (q : Quad) : List ByteArray := (N.take q.l).drop q.j
structure GV (w : World) (B : Nat) (v : Value) (N : List ByteArray) (G : List Gp) : Prop where
  row : w.ownsRow B 324 3 v G.length (gsC G)
  lines : ∀ g ∈ G, w.ownsRow B 9 1 g.lv (linesAt N g.q).length (strs (linesAt N g.q))

theorem own_far {w : World} {B B' n n' s s' : Nat} {e e' : TypeId} {v v' : Value} {xs xs' : List Value} (h : w.ownsRow B e s v n xs) (h' : w.ownsRow B' e' s' v' n' xs') (he : e ≠ e') : v.ownBlock = none ∨ v.ownBlock ≠ v'.ownBlock := by
  rcases h.2 with ⟨rfl, _⟩ | ⟨g, cap, cur, rfl, _, hg, _⟩
  · exact .inl rfl
  · right
    intro heq
    rcases h'.2 with ⟨rfl, _⟩ | ⟨g', cap', cur', rfl, _, hg', _⟩
    · cases heq
    · simp [Value.ownBlock] at heq
      subst heq
      rw [hg] at hg'
      simp at hg'
      exact he hg'.2

theorem GV.step {w w1 : World} {B : Nat} {v v' : Value} {N : List ByteArray} {G : List Gp} {g : Gp} (h : GV w B v N G) (hg : w.grownBy w1 v.ownBlock) (hrow : w1.ownsRow B 324 3 v' (G.length + 1) (gsC G ++ gpC g)) (hl : w.ownsRow B 9 1 g.lv (linesAt N g.q).length (strs (linesAt N g.q))) : GV w1 B v' N (G ++ [g]) := by
  refine ⟨by simpa [gsC] using hrow, fun x hx => ?_⟩
  rcases List.mem_append.1 hx with hx | hx
  · exact (h.lines x hx).kept hg (own_far (h.lines x hx) h.row (by decide))
  · simp at hx
    subst hx
    exact hl.kept hg (own_far hl h.row (by decide))
theorem GV.below {w w1 : World} {B : Nat} {v : Value} {N : List ByteArray} {G : List Gp} (h : GV w B v N G) (hb : Below w.heap.size w w1) : GV w1 B v N G :=
  ⟨own_below h.row hb (Nat.le_refl _), fun x hx => own_below (h.lines x hx) hb (Nat.le_refl _)⟩
end Go.Proofs.YtgdfipmdmgkidaaGreatDoor
