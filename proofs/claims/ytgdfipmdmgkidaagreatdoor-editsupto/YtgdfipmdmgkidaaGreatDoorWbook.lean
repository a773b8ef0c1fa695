/- The contracts of the statement's own small functions: two lists hold the same texts; a list shows a mark; a number is written. -/
import Derived.Test.YtgdfipmdmgkidaaGreatDoorWsize
import Derived.Deep.QuietTactic
import Derived.BigQuiet
namespace Go.Proofs.YtgdfipmdmgkidaaGreatDoor
open Go.RowKit

def marks (n : Nat) (m : ByteArray) : List ByteArray := List.replicate n m
theorem marks_length (n : Nat) (m : ByteArray) : (marks n m).length = n := by simp [marks]
theorem marks_at {n : Nat} {m : ByteArray} {k : Nat} (h : k < n) : (marks n m).getD k ByteArray.empty = m := by simp [marks, h]

set_option maxHeartbeats 800000 in
theorem same15_any (L : List ByteArray) (ao bo : Option Addr) (ca cb A B : Nat) (w : World) (ha : w.ownsRow A 9 1 (.slice ao L.length ca) L.length (strs L)) (hb : w.ownsRow B 9 1 (.slice bo L.length cb) L.length (strs L)) (hlen : L.length ≤ 1000000) :
    Calls Tryz.prog 93 #[.slice ao L.length ca, .slice bo L.length cb] w fun e w' => e = .returned (.bool true) ∧ ∃ q, w' = w.drewN q := by
  have hne : (((L.length : Nat) : Int) != ((L.length : Nat) : Int)) = false := by simp
  go_enter Tryz.func93, Tryz.ntmps93
  go_wp2
  go_loopw [5] (fun i wr => ∃ k q : Nat, k ≤ L.length ∧ i = .int .i64 k ∧ wr = w.drewN q) (fun i _ => L.length - (intOf i).toNat)
  case atStart => exact ⟨0, 0, Nat.zero_le _, rfl, rfl⟩
  case round =>
    obtain ⟨k, q, hk, rfl, rfl⟩ := hrel
    by_cases hlt : k < L.length
    · obtain ⟨g, hao, hgB, hgs⟩ := own_at ha (by omega)
      obtain ⟨g', hbo, hgB', hgs'⟩ := own_at hb (by omega)
      subst hao hbo
      have hc1 : w.cell? ⟨g, k, none⟩ = some (.string (L.getD k ByteArray.empty)) := row_cell ha k hlt
      have hc2 : w.cell? ⟨g', k, none⟩ = some (.string (L.getD k ByteArray.empty)) := row_cell hb k hlt
      obtain ⟨t, ht⟩ : ∃ t, L.getD k ByteArray.empty = t := ⟨_, rfl⟩
      rw [ht] at hc1 hc2
      clear ht ha hb
      go_wp2
      go_quiet (fail)
      go_wp2
      go_roundw
      case rel => exact ⟨k + 1, _, by omega, by go_num, rfl⟩
      case measure => simp [intOf]; omega
    · go_wp2
      go_ret
      exact ⟨rfl, q, rfl⟩

set_option maxHeartbeats 800000 in
theorem shows16_any (n : Nat) (m : ByteArray) (ao : Option Addr) (ca A : Nat) (w : World) (ha : w.ownsRow A 9 1 (.slice ao n ca) n (strs (marks n m))) (hlen : n ≤ 1000000000) :
    Calls Tryz.prog 101 #[.slice ao n ca, .int .i64 n, .string m] w fun e w' => e = .returned (.bool true) ∧ w' = w := by
  have hne : (((n : Nat) : Int) != ((n : Nat) : Int)) = false := by simp
  go_enter Tryz.func101, Tryz.ntmps101
  go_wp2
  go_loop [7] (fun i => ∃ k : Nat, k ≤ n ∧ i = .int .i64 k) (fun i => n - (intOf i).toNat)
  case atStart => exact ⟨0, Nat.zero_le _, rfl⟩
  case round =>
    obtain ⟨k, hk, rfl⟩ := hrel
    by_cases hlt : k < n
    · obtain ⟨g, hao, hgB, hgs⟩ := own_at ha (by omega)
      subst hao
      have hc1 : w.cell? ⟨g, k, none⟩ = some (.string m) := by
        have := row_cell ha k (by rw [marks_length]; exact hlt)
        rw [marks_at hlt] at this
        exact this
      clear ha
      go_wp2
      go_round
      case rel => exact ⟨k + 1, by omega, by go_num⟩
      case measure => simp [intOf]; omega
    · go_wp2
      go_ret
      exact ⟨rfl, rfl⟩

theorem conv_digit (w : World) (d : Int) :
    Sem.run Tryz.prog (convert 156 9 (Value.slice (some ⟨w.heap.size, 0, none⟩) 1 1)) (w.alloc (.cells #[.int .u8 d] 5)) = .ok (.string (strOfNums [d])) (w.alloc (.cells #[.int .u8 d] 5)) := by
  refine run_convert_bytes_arg (w.alloc (.cells #[.int .u8 d] 5)) 156 5 Tryz.underlying156 Tryz.underlying5 w.heap.size 0 1 1 [d] rfl ?_ 9 Tryz.underlying9
  intro i hi
  have : i = 0 := by omega
  subst this
  simp

set_option maxRecDepth 100000 in
set_option maxHeartbeats 800000 in
theorem decimal13_any (n : Nat) (w : World) (hn : n ≤ 1000000000000) :
    Calls Tryz.prog 163 #[.int .i64 n] w fun e w' => ∃ s : ByteArray, e = .returned (.string s) ∧ s.size ≤ 1000000000001 ∧ Below w.heap.size w w' := by
  go_enter Tryz.func163, Tryz.ntmps163
  go_wp2
  go_loopw [0, 3] (fun a b wr => ∃ (k : Nat) (s : ByteArray), a = .int .i64 k ∧ b = .string s ∧ s.size + k ≤ 1000000000000 ∧ Below w.heap.size w wr) (fun a _ _ => (intOf a).toNat)
  case atStart => exact ⟨n, _, rfl, rfl, by show 0 + n ≤ _; omega, Below.refl _ _⟩
  case round =>
    obtain ⟨k, s, rfl, rfl, hsk, hbw⟩ := hrel
    have hsz := hbw.size
    by_cases hlt : 9 < k
    · have hcv := conv_digit wr (48 + (k : Int) % 10)
      have hss := strOfNums_size [48 + (k : Int) % 10]
      simp only [List.length_cons, List.length_nil] at hss
      obtain ⟨t, ht⟩ : ∃ t, strOfNums [48 + (k : Int) % 10] = t := ⟨_, rfl⟩
      rw [ht] at hcv hss
      clear ht
      have hts : t.size ≤ 1 := by omega
      clear hss
      go_wp2
      go_roundw
      case rel => exact ⟨k / 10, t ++ s, by go_num, rfl, by rw [ByteArray.size_append]; omega, hbw.alloc hsz _⟩
      case measure => simp [intOf]; omega
    · have hcv := conv_digit wr (48 + (k : Int))
      have hss := strOfNums_size [48 + (k : Int)]
      simp only [List.length_cons, List.length_nil] at hss
      obtain ⟨t, ht⟩ : ∃ t, strOfNums [48 + (k : Int)] = t := ⟨_, rfl⟩
      rw [ht] at hcv hss
      clear ht
      have hts : t.size ≤ 1 := by omega
      clear hss
      go_wp2
      go_ret
      exact ⟨_, rfl, by rw [ByteArray.size_append]; omega, hbw.alloc hsz _⟩
end Go.Proofs.YtgdfipmdmgkidaaGreatDoor
