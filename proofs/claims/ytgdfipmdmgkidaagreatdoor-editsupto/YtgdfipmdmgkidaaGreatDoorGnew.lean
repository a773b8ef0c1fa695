/- The contract of the document's New. -/
import Derived.Test.YtgdfipmdmgkidaaGreatDoorGrefe
namespace Go.Proofs.YtgdfipmdmgkidaaGreatDoor
open Go.RowKit

set_option maxRecDepth 100000 in
set_option maxHeartbeats 1600000 in
theorem new21_no (n : Int) (hn : n < 1 ∨ 3 < n) (w : World) :
    Calls Tryz.prog 81 #[.int .i64 n] w fun e w' => e = .returned (.tuple #[.pointer none, .int .i64 14]) ∧ w' = w := by
  go_enter Tryz.func81, Tryz.ntmps81
  rcases hn with h | h
  · go_wp2
    go_ret2
    exact ⟨rfl, rfl⟩
  · have h1 : ¬ (n < 1) := by omega
    go_wp2
    go_ret2
    exact ⟨rfl, rfl⟩

def nilp : Value × Value := (.slice none 0 0, .slice none 0 0)

theorem RAt.fresh (_w : World) (n : Nat) (h3 : n ≤ 3) (w' : World) (rb sg B : Nat) (hB : B ≤ rb) (hB2 : B ≤ sg)
    (hc : w'.heap[rb]? = some (.cells #[.slice none 0 0, .slice none 0 0, .slice none 0 0, .slice (some ⟨sg, 0, none⟩) n n] 192 (0, 0)))
    (hr : w'.heap[sg]? = some (.cells ((List.replicate n nilp).flatMap rcells).toArray 205 (0, 0))) : RAt w' B rb sg (List.replicate n nilp) (List.replicate n []) where
  lo := hB
  lo2 := hB2
  cell := by rw [List.length_replicate]; exact hc
  row := hr
  len := by simp
  names := by
    intro j p F hj hF
    have e1 := List.eq_of_mem_replicate (List.mem_of_getElem? hj)
    have e2 := List.eq_of_mem_replicate (List.mem_of_getElem? hF)
    subst e1 e2
    exact ⟨World.ownsRow_nil _ _ _ _, World.ownsRow_nil _ _ _ _⟩
  few := by intro F hF; rw [List.eq_of_mem_replicate hF]; simp
  n3 := by simpa using h3

theorem new_tail (w : World) (n : Nat) (h3 : n ≤ 3) (A : Array Value) (hA : A = ((List.replicate n nilp).flatMap rcells).toArray) (w' : World)
    (hw : w' = (w.alloc (.cells A 205)).alloc (.cells #[.slice none 0 0, .slice none 0 0, .slice none 0 0, .slice (some ⟨w.heap.size, 0, none⟩) n n] 192)) :
    RAt w' w.heap.size (w.heap.size + 1) w.heap.size (List.replicate n nilp) (List.replicate n []) ∧ Below w.heap.size w w' := by
  subst hw hA
  refine ⟨RAt.fresh w n h3 _ _ _ _ (by omega) (Nat.le_refl _) ?_ ?_, ?_⟩
  · show ((w.heap.push _).push _)[w.heap.size + 1]? = _
    rw [Array.getElem?_push, if_pos (by simp)]
  · show ((w.heap.push _).push _)[w.heap.size]? = _
    rw [Array.getElem?_push, if_neg (by simp), Array.getElem?_push, if_pos rfl]
  · exact ((Below.refl _ _).alloc (Nat.le_refl _) _).alloc (by simp) _

set_option maxRecDepth 100000 in
set_option maxHeartbeats 1600000 in
theorem new21_1 (w : World) :
    Calls Tryz.prog 81 #[.int .i64 1] w fun e w' => ∃ rb sg vs, e = .returned (.tuple #[.pointer (some ⟨rb, 0, none⟩), .int .i64 0]) ∧ RAt w' w.heap.size rb sg vs (List.replicate 1 []) ∧ Below w.heap.size w w' := by
  obtain ⟨A, HA, hmk⟩ : ∃ A : Array Value, Hid (A = ((List.replicate 1 nilp).flatMap rcells).toArray) ∧ ∀ w, (Instr.makeSlice 187 (.int .i64 1) (.int .i64 1)).run Tryz.prog w = .ok (.slice (some ⟨w.heap.size, 0, none⟩) 1 1) (w.alloc (.cells A 205)) := ⟨_, rfl, fun _ => by kernel_rfl⟩
  go_enter Tryz.func81, Tryz.ntmps81
  go_wp2
  go_ret2
  have R := new_tail w 1 (by omega) A HA.out _ rfl
  exact ⟨_, _, _, rfl, R.1, R.2⟩

set_option maxRecDepth 100000 in
set_option maxHeartbeats 1600000 in
theorem new21_2 (w : World) :
    Calls Tryz.prog 81 #[.int .i64 2] w fun e w' => ∃ rb sg vs, e = .returned (.tuple #[.pointer (some ⟨rb, 0, none⟩), .int .i64 0]) ∧ RAt w' w.heap.size rb sg vs (List.replicate 2 []) ∧ Below w.heap.size w w' := by
  obtain ⟨A, HA, hmk⟩ : ∃ A : Array Value, Hid (A = ((List.replicate 2 nilp).flatMap rcells).toArray) ∧ ∀ w, (Instr.makeSlice 187 (.int .i64 2) (.int .i64 2)).run Tryz.prog w = .ok (.slice (some ⟨w.heap.size, 0, none⟩) 2 2) (w.alloc (.cells A 205)) := ⟨_, rfl, fun _ => by kernel_rfl⟩
  go_enter Tryz.func81, Tryz.ntmps81
  go_wp2
  go_ret2
  have R := new_tail w 2 (by omega) A HA.out _ rfl
  exact ⟨_, _, _, rfl, R.1, R.2⟩

set_option maxRecDepth 100000 in
set_option maxHeartbeats 1600000 in
theorem new21_3 (w : World) :
    Calls Tryz.prog 81 #[.int .i64 3] w fun e w' => ∃ rb sg vs, e = .returned (.tuple #[.pointer (some ⟨rb, 0, none⟩), .int .i64 0]) ∧ RAt w' w.heap.size rb sg vs (List.replicate 3 []) ∧ Below w.heap.size w w' := by
  obtain ⟨A, HA, hmk⟩ : ∃ A : Array Value, Hid (A = ((List.replicate 3 nilp).flatMap rcells).toArray) ∧ ∀ w, (Instr.makeSlice 187 (.int .i64 3) (.int .i64 3)).run Tryz.prog w = .ok (.slice (some ⟨w.heap.size, 0, none⟩) 3 3) (w.alloc (.cells A 205)) := ⟨_, rfl, fun _ => by kernel_rfl⟩
  go_enter Tryz.func81, Tryz.ntmps81
  go_wp2
  go_ret2
  have R := new_tail w 3 (by omega) A HA.out _ rfl
  exact ⟨_, _, _, rfl, R.1, R.2⟩

end Go.Proofs.YtgdfipmdmgkidaaGreatDoor
