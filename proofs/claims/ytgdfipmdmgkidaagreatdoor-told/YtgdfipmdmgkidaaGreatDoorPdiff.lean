/- What two lists of lines have in common; which line is killed. -/
import Derived.Test.YtgdfipmdmgkidaaGreatDoorProw
import Derived.Deep.QuietTactic
import Derived.BigQuiet
namespace Go.Proofs.YtgdfipmdmgkidaaGreatDoor
open Go.RowKit

/-- The greatest number of lines that two lists have in common in this order, as the program reckons it. -/
def LL : List ByteArray → List ByteArray → Nat
  | [], _ => 0
  | _ :: _, [] => 0
  | a :: O, b :: N => if a = b then LL O N + 1 else max (LL O (b :: N)) (LL (a :: O) N)
termination_by O N => O.length + N.length

def CC (O N : List ByteArray) (i j : Nat) : Nat := LL (O.drop i) (N.drop j)
theorem LL_nil2 (O : List ByteArray) : LL O [] = 0 := by cases O <;> simp [LL]
theorem CC_end1 {O N : List ByteArray} {i j : Nat} (h : O.length ≤ i) : CC O N i j = 0 := by unfold CC; rw [List.drop_of_length_le h]; simp [LL]
theorem CC_end2 {O N : List ByteArray} {i j : Nat} (h : N.length ≤ j) : CC O N i j = 0 := by unfold CC; rw [List.drop_of_length_le h, LL_nil2]
theorem CC_eq {O N : List ByteArray} {i j : Nat} (hi : i < O.length) (hj : j < N.length) (h : O[i] = N[j]) : CC O N i j = CC O N (i + 1) (j + 1) + 1 := by
  unfold CC
  rw [List.drop_eq_getElem_cons hi, List.drop_eq_getElem_cons hj, LL, if_pos h]
theorem CC_ne {O N : List ByteArray} {i j : Nat} (hi : i < O.length) (hj : j < N.length) (h : O[i] ≠ N[j]) : CC O N i j = max (CC O N (i + 1) j) (CC O N i (j + 1)) := by
  unfold CC
  conv => lhs; rw [List.drop_eq_getElem_cons hi, List.drop_eq_getElem_cons hj, LL, if_neg h]
  rw [← List.drop_eq_getElem_cons hi, ← List.drop_eq_getElem_cons hj]
theorem LL_le (O N : List ByteArray) : LL O N ≤ O.length := by
  induction O, N using LL.induct with
  | case1 N => simp [LL]
  | case2 a O => simp [LL]
  | case3 O b N ih => rw [LL]; simp; omega
  | case4 a O b N h ih1 ih2 =>
    rw [LL, if_neg h]
    simp only [List.length_cons] at *
    omega
theorem CC_le (O N : List ByteArray) (i j : Nat) : CC O N i j ≤ O.length := by
  unfold CC
  have := LL_le (O.drop i) (N.drop j)
  simp at this
  omega

/-- The table, as it lies in memory. -/
def TV (w : World) (v : Value) (n m : Nat) (T : Nat → Nat → Nat) : Prop := ∃ b o cap, v = .slice (some ⟨b, o, none⟩) (n + 1) cap ∧ b < w.heap.size ∧ ∀ i, i ≤ n → ∃ g q c, w.cell? ⟨b, o + i, none⟩ = some (.slice (some ⟨g, q, none⟩) (m + 1) c) ∧ g < w.heap.size ∧ ∀ j, j ≤ m → w.cell? ⟨g, q + j, none⟩ = some (.int .i64 (T i j : Nat))
theorem TV.below {w w' : World} {v : Value} {n m : Nat} {T : Nat → Nat → Nat} (h : TV w v n m T) {B : Nat} (hb : Below B w w') (hB : w.heap.size ≤ B) : TV w' v n m T := by
  obtain ⟨b, o, cap, rfl, h1, h2⟩ := h
  refine ⟨b, o, cap, rfl, Nat.lt_of_lt_of_le h1 hb.size, fun i hi => ?_⟩
  obtain ⟨g, q, c, h3, h4, h5⟩ := h2 i hi
  exact ⟨g, q, c, (hb.cell (p := ⟨b, o + i, none⟩) (by simp; omega)).trans h3, Nat.lt_of_lt_of_le h4 hb.size, fun j hj => (hb.cell (p := ⟨g, q + j, none⟩) (by simp; omega)).trans (h5 j hj)⟩

def killB (O N : List ByteArray) (i j : Nat) : Bool := if i = O.length ∨ j = N.length then decide (i < O.length) else decide (CC O N i (j + 1) ≤ CC O N (i + 1) j)

theorem cells3_at {w : World} {g : Nat} {x y z : Value} {t : TypeId} {f : Nat × Nat} (h : w.heap[g]? = some (.cells #[x, y, z] t f)) : w.cell? ⟨g, 0, none⟩ = some x ∧ w.cell? ⟨g, 1, none⟩ = some y ∧ w.cell? ⟨g, 2, none⟩ = some z := by
  simp [World.cell?, h]

set_option maxRecDepth 100000 in
set_option maxHeartbeats 1600000 in
theorem kills214_any (O N : List ByteArray) (i j : Nat) (hi : i ≤ O.length) (hj : j ≤ N.length) (hO : O.length ≤ 100000) (hN : N.length ≤ 100000) (oa na : Option Addr) (oc nc : Nat) (cv : Value) (w : World) (ht : TV w cv O.length N.length (CC O N)) :
    Calls Tryz.prog 291 #[.agg #[.slice oa O.length oc, .slice na N.length nc, cv], .int .i64 i, .int .i64 j] w fun e w' => e = .returned (.bool (killB O N i j)) ∧ Below w.heap.size w w' := by
  have hb0 : ∀ x, Below w.heap.size w (w.alloc x) := fun x => (Below.refl _ _).alloc (Nat.le_refl _) _
  have HT : Hid (TV w cv O.length N.length (CC O N)) := ht
  obtain ⟨b, o, cap, rfl, hbl, hrow⟩ := ht
  by_cases h1 : i = O.length
  · have HK : Hid (killB O N i j = decide (i < O.length)) := by show _ = _; unfold killB; rw [if_pos (.inl h1)]
    have hd1 : ((i : Int) == (O.length : Int)) = true := by simp; omega
    clear h1 hrow
    go_enter Tryz.func291, Tryz.ntmps291
    go_wp2
    go_ret
    exact ⟨by rw [HK.out]; rfl, hb0 _⟩
  · have hd1 : ((i : Int) == (O.length : Int)) = false := by rw [beq_eq_false_iff_ne]; omega
    have hd2 : (i : Int) < (O.length : Int) := by omega
    by_cases h2 : j = N.length
    · have HK : Hid (killB O N i j = decide (i < O.length)) := by show _ = _; unfold killB; rw [if_pos (.inr h2)]
      have hd4 : decide (i < O.length) = true := by simp; omega
      have hd3 : ((j : Int) == (N.length : Int)) = true := by simp; omega
      clear h1 h2 hrow
      go_enter Tryz.func291, Tryz.ntmps291
      go_wp2
      go_ret
      exact ⟨by rw [HK.out, hd4]; rfl, hb0 _⟩
    · have hd3 : ((j : Int) == (N.length : Int)) = false := by rw [beq_eq_false_iff_ne]; omega
      have HK : Hid (killB O N i j = decide (CC O N i (j + 1) ≤ CC O N (i + 1) j)) := by show _ = _; unfold killB; rw [if_neg (by omega)]
      have hj2 : (j : Int) < (N.length : Int) := by omega
      obtain ⟨w1, hw1⟩ : ∃ w1, w1 = w.alloc (.cells #[.slice oa O.length oc, .slice na N.length nc, .slice (some ⟨b, o, none⟩) (O.length + 1) cap] 349) := ⟨_, rfl⟩
      have hb1 : Below w.heap.size w w1 := by rw [hw1]; exact hb0 _
      have hk1 : w1.heap[w.heap.size]? = some (.cells #[.slice oa O.length oc, .slice na N.length nc, .slice (some ⟨b, o, none⟩) (O.length + 1) cap] 349 (0, 0)) := by rw [hw1]; exact (MapKept.heap_alloc w (.cells #[.slice oa O.length oc, .slice na N.length nc, .slice (some ⟨b, o, none⟩) (O.length + 1) cap] 349)).1
      obtain ⟨_, _, _, e1, _, hr1⟩ := HT.out.below hb1 (Nat.le_refl _)
      cases e1
      obtain ⟨g, q, c, r1, r2, r3⟩ := hr1 i (by omega)
      obtain ⟨g', q', c', s1, s2, s3⟩ := hr1 (i + 1) (by omega)
      have r4 := r3 (j + 1) (by omega)
      have s4 := s3 j (by omega)
      obtain ⟨d0, d1, d2⟩ := cells3_at hk1
      have x1 := CC_le O N (i + 1) j
      have x2 := CC_le O N i (j + 1)
      generalize CC O N (i + 1) j = A at *
      generalize CC O N i (j + 1) = D at *
      have wi : IntKind.i64.wrap ((i : Int) + 1) = (i : Int) + 1 := by simp [IntKind.wrap, IntKind.signed, IntKind.bits]; omega
      have wj : IntKind.i64.wrap ((j : Int) + 1) = (j : Int) + 1 := by simp [IntKind.wrap, IntKind.signed, IntKind.bits]; omega
      have bi0 : (0 : Int) ≤ (i : Int) + 1 := by omega
      have bi1 : (i : Int) + 1 < ((O.length + 1 : Nat) : Int) := by omega
      have bi2 : (i : Int) < ((O.length + 1 : Nat) : Int) := by omega
      have bj0 : (0 : Int) ≤ (j : Int) + 1 := by omega
      have bj1 : (j : Int) + 1 < ((N.length + 1 : Nat) : Int) := by omega
      have bj2 : (j : Int) < ((N.length + 1 : Nat) : Int) := by omega
      have ti : ((i : Int) + 1).toNat = i + 1 := by omega
      have tj : ((j : Int) + 1).toNat = j + 1 := by omega
      clear hr1 r3 s3 hrow h1 h2 hk1
      go_enter Tryz.func291, Tryz.ntmps291
      go_wp2_with fail
      rw [← hw1]
      clear hw1
      go_quiet (fail)
      go_wp2
      go_ret
      exact ⟨by rw [HK.out]; rfl, below_drewN hb1 _⟩
end Go.Proofs.YtgdfipmdmgkidaaGreatDoor

/- On to the next line that goes on living. -/
namespace Go.Proofs.YtgdfipmdmgkidaaGreatDoor
open Go.RowKit

def meets (O N : List ByteArray) (i j : Nat) : Prop := i < O.length ∧ j < N.length ∧ O.getD i ByteArray.empty = N.getD j ByteArray.empty
instance (O N : List ByteArray) (i j : Nat) : Decidable (meets O N i j) := by unfold meets; infer_instance
def nxtF (O N : List ByteArray) : Nat → Nat → Nat → Nat × Nat
  | 0, i, j => (i, j)
  | k + 1, i, j => if meets O N i j then (i, j) else if killB O N i j = true then nxtF O N k (i + 1) j else nxtF O N k i (j + 1)
def nxt (O N : List ByteArray) (i j : Nat) : Nat × Nat := nxtF O N ((O.length - i) + (N.length - j)) i j
theorem nxt_stop {O N : List ByteArray} {i j : Nat} (h : meets O N i j) : nxt O N i j = (i, j) := by
  unfold nxt
  have h1 := h.1
  obtain ⟨k, hk⟩ : ∃ k, (O.length - i) + (N.length - j) = k + 1 := ⟨(O.length - i) + (N.length - j) - 1, by omega⟩
  rw [hk, nxtF, if_pos h]
theorem nxt_end {O N : List ByteArray} {i j : Nat} (hi : O.length ≤ i) (hj : N.length ≤ j) : nxt O N i j = (i, j) := by
  unfold nxt
  rw [show (O.length - i) + (N.length - j) = 0 by omega, nxtF]
theorem kill_lt {O N : List ByteArray} {i j : Nat} (hi : i ≤ O.length) (hk : killB O N i j = true) : i < O.length := by
  unfold killB at hk
  split at hk
  · simpa using hk
  · omega
theorem nokill_lt {O N : List ByteArray} {i j : Nat} (hi : i ≤ O.length) (hj : j ≤ N.length) (h : i < O.length ∨ j < N.length) (hk : killB O N i j = false) : j < N.length := by
  unfold killB at hk
  split at hk
  · simp at hk; omega
  · omega
theorem nxt_kill {O N : List ByteArray} {i j : Nat} (hi : i ≤ O.length) (h : ¬ meets O N i j) (hk : killB O N i j = true) : nxt O N i j = nxt O N (i + 1) j := by
  have h1 := kill_lt hi hk
  unfold nxt
  obtain ⟨k, hk'⟩ : ∃ k, (O.length - i) + (N.length - j) = k + 1 := ⟨(O.length - i) + (N.length - j) - 1, by omega⟩
  rw [hk', nxtF, if_neg h, if_pos hk]
  congr 1
  omega
theorem nxt_come {O N : List ByteArray} {i j : Nat} (hi : i ≤ O.length) (hj : j ≤ N.length) (h : ¬ meets O N i j) (h2 : i < O.length ∨ j < N.length) (hk : killB O N i j = false) : nxt O N i j = nxt O N i (j + 1) := by
  have h1 := nokill_lt hi hj h2 hk
  unfold nxt
  obtain ⟨k, hk'⟩ : ∃ k, (O.length - i) + (N.length - j) = k + 1 := ⟨(O.length - i) + (N.length - j) - 1, by omega⟩
  rw [hk', nxtF, if_neg h, if_neg (by rw [hk]; simp)]
  congr 1
  omega

theorem eq_bytes' (t s : ByteArray) : (t.toList == s.toList) = decide (t = s) := by
  by_cases h : t = s
  · subst h; simp
  · rw [word_ne h]; simp [h]

set_option maxRecDepth 100000 in
set_option maxHeartbeats 3200000 in
theorem next198_any (O N : List ByteArray) (i j : Nat) (hi : i ≤ O.length) (hj : j ≤ N.length) (hO : O.length ≤ 100000) (hN : N.length ≤ 100000) (oa na : Option Addr) (oc nc : Nat) (cv : Value) (w : World) (ht : TV w cv O.length N.length (CC O N)) (hvo : View w oa O) (hvn : View w na N) :
    Calls Tryz.prog 270 #[.agg #[.slice oa O.length oc, .slice na N.length nc, cv], .int .i64 i, .int .i64 j] w fun e w' => e = .returned (.tuple #[.int .i64 ((nxt O N i j).1 : Nat), .int .i64 ((nxt O N i j).2 : Nat)]) ∧ Below w.heap.size w w' := by
  have HT : Hid (TV w cv O.length N.length (CC O N)) := ht
  obtain ⟨b, o, cap, rfl, hbl, hrow⟩ := ht
  clear hrow
  obtain ⟨w1, hw1⟩ : ∃ w1, w1 = w.alloc (.cells #[.slice oa O.length oc, .slice na N.length nc, .slice (some ⟨b, o, none⟩) (O.length + 1) cap] 349) := ⟨_, rfl⟩
  have hb1 : Below w.heap.size w w1 := by rw [hw1]; exact (Below.refl _ _).alloc (Nat.le_refl _) _
  have hk1 : w1.heap[w.heap.size]? = some (.cells #[.slice oa O.length oc, .slice na N.length nc, .slice (some ⟨b, o, none⟩) (O.length + 1) cap] 349 (0, 0)) := by rw [hw1]; exact (MapKept.heap_alloc w (.cells #[.slice oa O.length oc, .slice na N.length nc, .slice (some ⟨b, o, none⟩) (O.length + 1) cap] 349)).1
  have hs1 : w.heap.size < w1.heap.size := by rw [hw1]; simp
  obtain ⟨R, hR⟩ : ∃ R, nxt O N i j = R := ⟨_, rfl⟩
  rw [hR]
  go_enter Tryz.func270, Tryz.ntmps270
  go_wp2_with fail
  rw [← hw1]
  clear hw1
  go_loopw [1, 2] (fun x y wr => ∃ i j : Nat, i ≤ O.length ∧ j ≤ N.length ∧ x = .int .i64 i ∧ y = .int .i64 j ∧ Hid (nxt O N i j = R) ∧ Below w1.heap.size w1 wr) (fun x y _ => (O.length - (intOf x).toNat) + (N.length - (intOf y).toNat))
  case atStart => exact ⟨i, j, hi, hj, rfl, rfl, hR, Below.refl _ _⟩
  case round =>
    clear hR
    obtain ⟨i, j, hi, hj, rfl, rfl, HR, hbw⟩ := hrel
    have hbw0 : Below w.heap.size w wr := hb1.trans (hbw.mono (Nat.le_of_lt hs1))
    have hkr := (hbw.block _ hs1).trans hk1
    obtain ⟨d0, d1, d2⟩ := cells3_at hkr
    have HK : Hid (∀ q, Calls Tryz.prog 291 #[.agg #[.slice oa O.length oc, .slice na N.length nc, .slice (some ⟨b, o, none⟩) (O.length + 1) cap], .int .i64 i, .int .i64 j] (wr.drewN q) fun e w' => e = .returned (.bool (killB O N i j)) ∧ Below wr.heap.size wr w') := fun q => by
      refine (kills214_any O N i j hi hj hO hN oa na oc nc _ (wr.drewN q) (HT.out.below (below_drewN hbw0 q) (Nat.le_refl _))).mono ?_
      rintro e w' ⟨rfl, hb⟩
      exact ⟨rfl, (below_drewN (Below.refl _ wr) q).trans hb⟩
    by_cases h1 : i < O.length
    · have e1 : (i : Int) < (O.length : Int) := by omega
      have e1d : decide (i < O.length) = true := by simpa using h1
      by_cases h2 : j < N.length
      · have e2 : (j : Int) < (N.length : Int) := by omega
        have e2d : decide (j < N.length) = true := by simpa using h2
        rcases hvo.below hbw0 with h | ⟨ob, oo, rfl, hob, hoc⟩
        · omega
        rcases hvn.below hbw0 with h | ⟨nb, no, rfl, hnb, hnc⟩
        · omega
        have co := hoc i h1
        have cn := hnc j h2
        obtain ⟨x, hx⟩ : ∃ x, O.getD i ByteArray.empty = x := ⟨_, rfl⟩
        obtain ⟨y, hy⟩ : ∃ y, N.getD j ByteArray.empty = y := ⟨_, rfl⟩
        rw [hx] at co
        rw [hy] at cn
        clear hoc hnc
        cases he : decide (x = y)
        · have hb2 : (x.toList == y.toList) = false := by rw [eq_bytes']; exact he
          have hnm : ¬ meets O N i j := fun hm => by have := hm.2.2; rw [hx, hy] at this; simp [this] at he
          clear hx hy he
          cases hkl : killB O N i j
          · have HN2 : Hid (nxt O N i (j + 1) = R) := by show _ = _; rw [← nxt_come hi hj hnm (.inl h1) hkl]; exact HR.out
            have HKK := HK.out
            rw [hkl] at HKK
            have HK : Hid (∀ q, Calls Tryz.prog 291 #[.agg #[.slice (some ⟨ob, oo, none⟩) O.length oc, .slice (some ⟨nb, no, none⟩) N.length nc, .slice (some ⟨b, o, none⟩) (O.length + 1) cap], .int .i64 i, .int .i64 j] (wr.drewN q) fun e w' => e = .returned (.bool false) ∧ Below wr.heap.size wr w') := HKK
            clear hkl hnm HR HKK
            go_wp2_with fail
            go_quiet (fail)
            go_wp2_with fail
            refine (HK.out _).mono ?_
            rintro e w2 ⟨rfl, hbe⟩
            have hbw2 : Below w1.heap.size w1 w2 := hbw.trans (hbe.mono hbw.size)
            clear HK hbe
            go_wp2
            go_roundw
            case rel => exact ⟨i, j + 1, by omega, by omega, by go_num, by go_num, HN2, hbw2⟩
            case measure => simp [intOf]; omega
          · have HN2 : Hid (nxt O N (i + 1) j = R) := by show _ = _; rw [← nxt_kill hi hnm hkl]; exact HR.out
            have HKK := HK.out
            rw [hkl] at HKK
            have HK : Hid (∀ q, Calls Tryz.prog 291 #[.agg #[.slice (some ⟨ob, oo, none⟩) O.length oc, .slice (some ⟨nb, no, none⟩) N.length nc, .slice (some ⟨b, o, none⟩) (O.length + 1) cap], .int .i64 i, .int .i64 j] (wr.drewN q) fun e w' => e = .returned (.bool true) ∧ Below wr.heap.size wr w') := HKK
            clear hkl hnm HR HKK
            go_wp2_with fail
            go_quiet (fail)
            go_wp2_with fail
            refine (HK.out _).mono ?_
            rintro e w2 ⟨rfl, hbe⟩
            have hbw2 : Below w1.heap.size w1 w2 := hbw.trans (hbe.mono hbw.size)
            clear HK hbe
            go_wp2
            go_roundw
            case rel => exact ⟨i + 1, j, by omega, by omega, by go_num, by go_num, HN2, hbw2⟩
            case measure => simp [intOf]; omega
        · have hb2 : (x.toList == y.toList) = true := by rw [eq_bytes']; exact he
          have HE : Hid (nxt O N i j = (i, j)) := nxt_stop ⟨h1, h2, by rw [hx, hy]; simpa using he⟩
          clear hx hy he HK
          go_wp2_with fail
          go_quiet (fail)
          go_wp2
          go_ret2
          exact ⟨by rw [← HR.out, HE.out]; rfl, below_drewN hbw0 _⟩
      · have e2 : decide ((j : Int) < (N.length : Int)) = false := by simp; omega
        have e2d : decide (j < N.length) = false := by simpa using h2
        have hnm : ¬ meets O N i j := fun hm => by have := hm.1; have := hm.2.1; omega
        have hkl : killB O N i j = true := by unfold killB; rw [if_pos (by omega)]; simp; omega
        have HN2 : Hid (nxt O N (i + 1) (j) = R) := by show _ = _; rw [← nxt_kill hi hnm hkl]; exact HR.out
        have HKK := HK.out
        rw [hkl] at HKK
        have HK : Hid (∀ q, Calls Tryz.prog 291 #[.agg #[.slice oa O.length oc, .slice na N.length nc, .slice (some ⟨b, o, none⟩) (O.length + 1) cap], .int .i64 i, .int .i64 j] (wr.drewN q) fun e w' => e = .returned (.bool true) ∧ Below wr.heap.size wr w') := HKK
        clear hkl hnm HR HKK
        go_wp2_with fail
        go_quiet (fail)
        go_wp2_with fail
        refine (HK.out _).mono ?_
        rintro e w2 ⟨rfl, hbe⟩
        have hbw2 : Below w1.heap.size w1 w2 := hbw.trans (hbe.mono hbw.size)
        clear HK hbe
        go_wp2
        go_roundw
        case rel => exact ⟨i + 1, j, by omega, by omega, by go_num, by go_num, HN2, hbw2⟩
        case measure => simp [intOf]; omega
    · have e1 : decide ((i : Int) < (O.length : Int)) = false := by simp; omega
      have e1d : decide (i < O.length) = false := by simpa using h1
      by_cases h2 : j < N.length
      · have e2 : (j : Int) < (N.length : Int) := by omega
        have e2d : decide (j < N.length) = true := by simpa using h2
        have hnm : ¬ meets O N i j := fun hm => by have := hm.1; have := hm.2.1; omega
        have hkl : killB O N i j = false := by unfold killB; rw [if_pos (by omega)]; simp; omega
        have HN2 : Hid (nxt O N (i) (j + 1) = R) := by show _ = _; rw [← nxt_come hi hj hnm (.inr h2) hkl]; exact HR.out
        have HKK := HK.out
        rw [hkl] at HKK
        have HK : Hid (∀ q, Calls Tryz.prog 291 #[.agg #[.slice oa O.length oc, .slice na N.length nc, .slice (some ⟨b, o, none⟩) (O.length + 1) cap], .int .i64 i, .int .i64 j] (wr.drewN q) fun e w' => e = .returned (.bool false) ∧ Below wr.heap.size wr w') := HKK
        clear hkl hnm HR HKK
        go_wp2_with fail
        go_quiet (fail)
        go_wp2_with fail
        refine (HK.out _).mono ?_
        rintro e w2 ⟨rfl, hbe⟩
        have hbw2 : Below w1.heap.size w1 w2 := hbw.trans (hbe.mono hbw.size)
        clear HK hbe
        go_wp2
        go_roundw
        case rel => exact ⟨i, j + 1, by omega, by omega, by go_num, by go_num, HN2, hbw2⟩
        case measure => simp [intOf]; omega
      · have e2 : decide ((j : Int) < (N.length : Int)) = false := by simp; omega
        have e2d : decide (j < N.length) = false := by simpa using h2
        have HE : Hid (nxt O N i j = (i, j)) := nxt_end (by omega) (by omega)
        clear HK
        go_wp2
        go_ret2
        exact ⟨by rw [← HR.out, HE.out]; rfl, hbw0⟩
end Go.Proofs.YtgdfipmdmgkidaaGreatDoor
