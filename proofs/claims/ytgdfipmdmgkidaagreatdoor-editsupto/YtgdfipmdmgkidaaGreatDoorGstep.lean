/- One step of the script. -/
import Derived.Test.YtgdfipmdmgkidaaGreatDoorGplaye
import Derived.Test.YtgdfipmdmgkidaaGreatDoorGplayt
import Derived.Test.YtgdfipmdmgkidaaGreatDoorGplayf
import Derived.Test.YtgdfipmdmgkidaaGreatDoorGbegin
import Derived.Test.YtgdfipmdmgkidaaGreatDoorWworded
import Derived.Test.YtgdfipmdmgkidaaGreatDoorGpick
import Derived.Deep.RegionWith
namespace Go.Proofs.YtgdfipmdmgkidaaGreatDoor
open Go.RowKit

theorem Stepped.on {w w' w'' : World} {B bb : Nat} {K : List Ent} {T : List Twin} (h : Stepped w B bb K T w') (hb : Below w'.heap.size w' w'') : Stepped w B bb K T w'' := by
  obtain ⟨K', lv', kv', T', hW, a, b, c, d⟩ := h
  exact ⟨K', lv', kv', T', hW.below hb, a, b, c, d.trans (hb.mono hW.lo)⟩
theorem Stepped.from {w w1 w' : World} {B bb : Nat} {K : List Ent} {T : List Twin} (h : Stepped w1 B bb K T w') (hb : Below B w w1) : Stepped w B bb K T w' := by
  obtain ⟨K', lv', kv', T', hW, a, b, c, d⟩ := h
  exact ⟨K', lv', kv', T', hW, a, b, c, hb.trans d⟩

theorem looks_step {w w' : World} {B bb : Nat} {K : List Ent} {T : List Twin} (h : Stepped w B bb K T w') :
    Calls Tryz.prog 60 #[.pointer (some ⟨bb, 1, none⟩)] w' fun e w'' => e = .returned (.bool true) ∧ Stepped w B bb K T w'' := by
  obtain ⟨K', lv', kv', T', hW, a, b, c, d⟩ := h
  refine (looks9_any B bb _ K' lv' kv' w' hW.book (fun g hg => hg)).mono ?_
  rintro e w2 ⟨rfl, hb⟩
  exact ⟨rfl, K', lv', kv', T', hW.below hb, a, b, c, d.trans (hb.mono hW.lo)⟩

theorem lined_step (s : ByteArray) {B bb : Nat} {K : List Ent} {lv kv : Value} {T : List Twin} {w : World} (h : WAt w B bb K lv kv T) (hK : K.length + 1 ≤ 10000000) (w1 : World) (hb : Below w.heap.size w w1) :
    Calls Tryz.prog 56 #[.pointer (some ⟨bb, 1, none⟩), .string s] w1 fun e w' => e = .returned (.bool true) ∧ Stepped w B bb K T w' := by
  have h1 := h.below hb
  refine (lined8_any s B bb _ K lv kv w1 h1.book (fun g hg => hg) h1.lo hK).mono ?_
  rintro e w2 ⟨rfl, x, kv', hbk, hb2, hf⟩
  exact ⟨rfl, _, lv, kv', T, h1.booked hbk (Nat.le_trans h1.lo hb2.size) hf, by simp, Nat.le_refl _, by omega, (hb.mono h.lo).trans hb2⟩
theorem worded_step (s : ByteArray) (hs : s.size ≤ 10000000) {B bb : Nat} {K : List Ent} {lv kv : Value} {T : List Twin} {w : World} (h : WAt w B bb K lv kv T) (hK : K.length + 1 ≤ 10000000) (w1 : World) (hb : Below w.heap.size w w1) :
    Calls Tryz.prog 57 #[.pointer (some ⟨bb, 1, none⟩), .string s] w1 fun e w' => e = .returned (.bool true) ∧ Stepped w B bb K T w' := by
  have h1 := h.below hb
  refine (worded11_any s (by unfold maxLen; omega) B bb _ K lv kv w1 h1.book (fun g hg => hg) h1.lo hK).mono ?_
  rintro e w2 ⟨rfl, x, kv', hbk, hb2, hf⟩
  exact ⟨rfl, _, lv, kv', T, h1.booked hbk (Nat.le_trans h1.lo hb2.size) hf, by simp, Nat.le_refl _, by omega, (hb.mono h.lo).trans hb2⟩
theorem begins_step (r : Int) {B bb : Nat} {K : List Ent} {lv kv : Value} {T : List Twin} {w : World} (h : WAt w B bb K lv kv T) (hT : T.length + 1 ≤ 10000000) (w1 : World) (hb : Below w.heap.size w w1) :
    Calls Tryz.prog 52 #[.pointer (some ⟨bb, 0, none⟩), .int .i64 r] w1 fun e w' => e = .returned (.bool true) ∧ Stepped w B bb K T w' := by
  have h1 := h.below hb
  by_cases hr : r < 1 ∨ 3 < r
  · refine (begins9_no r hr B bb K lv kv T w1 h1).mono ?_
    rintro e w2 ⟨rfl, rfl⟩
    exact ⟨rfl, Stepped.below h hb⟩
  · obtain ⟨n, rfl, n1, n3⟩ : ∃ n : Nat, r = (n : Int) ∧ 1 ≤ n ∧ n ≤ 3 := ⟨r.toNat, by omega, by omega, by omega⟩
    refine (begins9_yes n n1 n3 B bb K lv kv T w1 h1 hT).mono ?_
    rintro e w2 ⟨rfl, lv', t, hW, hb2, _⟩
    exact ⟨rfl, K, lv', kv, _, hW, by omega, by simp, by simp, (hb.mono h.lo).trans hb2⟩
theorem world_step (kind on r : Int) (hk : 4 ≤ kind ∧ kind ≤ 7) (s u : ByteArray) (hs : s.size ≤ 10000000) {j : Nat} {t : Twin} {B bb : Nat} {K : List Ent} {lv kv : Value} {T : List Twin} {w : World} (h : WAt w B bb K lv kv T) (hK : K.length + 1 ≤ 10000000) (hj : T[j]? = some t) (w1 : World) (hb : Below w.heap.size w w1) :
    Calls Tryz.prog 58 #[.pointer (some ⟨bb, 0, none⟩), twV t, opV kind on r s u] w1 fun e w' => e = .returned (.bool true) ∧ Stepped w B bb K T w' ∧ Kept w1 w' bb := by
  have h1 := h.below hb
  have go : Calls Tryz.prog 58 #[.pointer (some ⟨bb, 0, none⟩), twV t, opV kind on r s u] w1 fun e w' => e = .returned (.bool true) ∧ Stepped w1 B bb K T w' ∧ Kept w1 w' bb := by
    obtain rfl | rfl | rfl | rfl : kind = 4 ∨ kind = 5 ∨ kind = 6 ∨ kind = 7 := by omega
    · exact world17_write j t on r s u hs B bb K lv kv T w1 h1 hj
    · exact world17_erase j t on r s u hs B bb K lv kv T w1 h1 hj
    · exact world17_files j t on r s u B bb K lv kv T w1 h1 hK hj
    · exact world17_text j t on r s u hs B bb K lv kv T w1 h1 hj
  refine go.mono ?_
  rintro e w2 ⟨rfl, hS, hKp⟩
  exact ⟨rfl, hS.from (hb.mono h.lo), hKp⟩

theorem op_made (w : World) (kind on r : Int) (s u : ByteArray) : (w.alloc (.cells #[.int .i64 kind, .int .i64 on, .int .i64 r, .string s, .string u] 76)).heap[w.heap.size]? = some (.cells #[.int .i64 kind, .int .i64 on, .int .i64 r, .string s, .string u] 76 (0, 0)) := by
  show (w.heap.push _)[w.heap.size]? = _
  rw [Array.getElem?_push, if_pos rfl]
theorem op_cells {w : World} {g : Nat} {kind on r : Int} {s u : ByteArray} (h : w.heap[g]? = some (.cells #[.int .i64 kind, .int .i64 on, .int .i64 r, .string s, .string u] 76 (0, 0))) :
    w.cell? ⟨g, 0, none⟩ = some (.int .i64 kind) ∧ w.cell? ⟨g, 1, none⟩ = some (.int .i64 on) ∧ w.cell? ⟨g, 2, none⟩ = some (.int .i64 r) ∧ w.cell? ⟨g, 3, none⟩ = some (.string s) ∧ w.cell? ⟨g, 4, none⟩ = some (.string u) := by
  simp [World.cell?, h]

set_option maxRecDepth 100000 in
set_option maxHeartbeats 3200000 in
theorem play8_lined (on r : Int) (s u : ByteArray) (B bb : Nat) (K : List Ent) (lv kv : Value) (T : List Twin) (w : World) (h : WAt w B bb K lv kv T) (hK : K.length + 1 ≤ 10000000) :
    Calls Tryz.prog 38 #[.pointer (some ⟨bb, 0, none⟩), opV 1 on r s u] w fun e w' => e = .returned (.bool true) ∧ Stepped w B bb K T w' := by
  unfold opV
  obtain ⟨w0, hw0⟩ : ∃ w0, w0 = w.alloc (.cells #[.int .i64 1, .int .i64 on, .int .i64 r, .string s, .string u] 76) := ⟨_, rfl⟩
  have HB : Hid (Below w.heap.size w w0.drew) := by show Below _ _ _; rw [hw0]; exact ((Below.refl _ _).alloc (Nat.le_refl _) _).drew
  obtain ⟨d0, d1, d2, d3, d4⟩ := op_cells (by rw [hw0]; exact op_made w 1 on r s u : w0.heap[w.heap.size]? = _)
  have HS : Hid (∀ w1, Below w.heap.size w w1 → Calls Tryz.prog 56 #[.pointer (some ⟨bb, 1, none⟩), .string s] w1 fun e w' => e = .returned (.bool true) ∧ Stepped w B bb K T w') := lined_step s h hK
  clear h hK
  go_enter Tryz.func38, Tryz.ntmps38
  go_wp2_with fail
  rw [← hw0]
  clear hw0
  go_region_with (first | (go_at_call 56; refine (HS.out _ HB.out).mono ?_; rintro e w1 ⟨rfl, hS1⟩))
  have HS1 : Hid (Stepped w B bb K T w1) := hS1
  clear hS1 d0 d1 d2 d3 d4
  go_wp2_with fail
  refine (looks_step HS1.out).mono ?_
  rintro e w2 ⟨rfl, hS2⟩
  have HS2 : Hid (Stepped w B bb K T w2) := hS2
  clear hS2
  go_wp2
  go_ret
  exact ⟨ret_bool (by simp), HS2.out⟩

set_option maxRecDepth 100000 in
set_option maxHeartbeats 3200000 in
theorem play8_worded (on r : Int) (s u : ByteArray) (hs : s.size ≤ 10000000) (B bb : Nat) (K : List Ent) (lv kv : Value) (T : List Twin) (w : World) (h : WAt w B bb K lv kv T) (hK : K.length + 1 ≤ 10000000) :
    Calls Tryz.prog 38 #[.pointer (some ⟨bb, 0, none⟩), opV 2 on r s u] w fun e w' => e = .returned (.bool true) ∧ Stepped w B bb K T w' := by
  unfold opV
  obtain ⟨w0, hw0⟩ : ∃ w0, w0 = w.alloc (.cells #[.int .i64 2, .int .i64 on, .int .i64 r, .string s, .string u] 76) := ⟨_, rfl⟩
  have HB : Hid (Below w.heap.size w w0.drew) := by show Below _ _ _; rw [hw0]; exact ((Below.refl _ _).alloc (Nat.le_refl _) _).drew
  obtain ⟨d0, d1, d2, d3, d4⟩ := op_cells (by rw [hw0]; exact op_made w 2 on r s u : w0.heap[w.heap.size]? = _)
  have HS : Hid (∀ w1, Below w.heap.size w w1 → Calls Tryz.prog 57 #[.pointer (some ⟨bb, 1, none⟩), .string s] w1 fun e w' => e = .returned (.bool true) ∧ Stepped w B bb K T w') := worded_step s hs h hK
  clear h hK
  go_enter Tryz.func38, Tryz.ntmps38
  go_wp2_with fail
  rw [← hw0]
  clear hw0
  go_region_with (first | (go_at_call 57; refine (HS.out _ HB.out).mono ?_; rintro e w1 ⟨rfl, hS1⟩))
  have HS1 : Hid (Stepped w B bb K T w1) := hS1
  clear hS1 d0 d1 d2 d3 d4
  go_wp2_with fail
  refine (looks_step HS1.out).mono ?_
  rintro e w2 ⟨rfl, hS2⟩
  have HS2 : Hid (Stepped w B bb K T w2) := hS2
  clear hS2
  go_wp2
  go_ret
  exact ⟨ret_bool (by simp), HS2.out⟩

set_option maxRecDepth 100000 in
set_option maxHeartbeats 3200000 in
theorem play8_begins (on r : Int) (s u : ByteArray) (B bb : Nat) (K : List Ent) (lv kv : Value) (T : List Twin) (w : World) (h : WAt w B bb K lv kv T) (hT : T.length + 1 ≤ 10000000) :
    Calls Tryz.prog 38 #[.pointer (some ⟨bb, 0, none⟩), opV 3 on r s u] w fun e w' => e = .returned (.bool true) ∧ Stepped w B bb K T w' := by
  unfold opV
  obtain ⟨w0, hw0⟩ : ∃ w0, w0 = w.alloc (.cells #[.int .i64 3, .int .i64 on, .int .i64 r, .string s, .string u] 76) := ⟨_, rfl⟩
  have HB : Hid (Below w.heap.size w w0) := by show Below _ _ _; rw [hw0]; exact (Below.refl _ _).alloc (Nat.le_refl _) _
  obtain ⟨d0, d1, d2, d3, d4⟩ := op_cells (by rw [hw0]; exact op_made w 3 on r s u : w0.heap[w.heap.size]? = _)
  have HS : Hid (∀ w1, Below w.heap.size w w1 → Calls Tryz.prog 52 #[.pointer (some ⟨bb, 0, none⟩), .int .i64 r] w1 fun e w' => e = .returned (.bool true) ∧ Stepped w B bb K T w') := begins_step r h hT
  clear h hT
  go_enter Tryz.func38, Tryz.ntmps38
  go_wp2_with fail
  rw [← hw0]
  clear hw0
  refine (HS.out _ HB.out).mono ?_
  rintro e w1 ⟨rfl, hS1⟩
  have HS1 : Hid (Stepped w B bb K T w1) := hS1
  clear hS1 d0 d1 d2 d3 d4
  go_wp2_with fail
  refine (looks_step HS1.out).mono ?_
  rintro e w2 ⟨rfl, hS2⟩
  have HS2 : Hid (Stepped w B bb K T w2) := hS2
  clear hS2
  go_wp2
  go_ret
  exact ⟨ret_bool (by simp), HS2.out⟩

end Go.Proofs.YtgdfipmdmgkidaaGreatDoor
