/- One step of the script on one of the twins. -/
import Derived.Test.YtgdfipmdmgkidaaGreatDoorGstep
import Derived.Deep.RegionHeld3
namespace Go.Proofs.YtgdfipmdmgkidaaGreatDoor
open Go.RowKit

theorem twin_at {T : List Twin} {k : Nat} {t : Twin} (hk : T[k]? = some t) (j : Nat) (hj : j < 2) : (T.flatMap Twin.cells)[k * 2 + j]? = t.cells[j]? := by
  induction T generalizing k with
  | nil => simp at hk
  | cons a K ih =>
    rw [List.flatMap_cons]
    cases k with
    | zero =>
      simp at hk
      subst hk
      rw [List.getElem?_append_left (by simp [Twin.cells]; omega)]
      simp
    | succ k =>
      rw [List.getElem?_append_right (by simp [Twin.cells]; omega)]
      have e : (k + 1) * 2 + j - a.cells.length = k * 2 + j := by simp [Twin.cells]; omega
      rw [e]
      exact ih (by simpa using hk)
theorem twin_cells {w : World} {B : Nat} {v : Value} {T : List Twin} (h : w.ownsRow B 99 2 v T.length (T.flatMap Twin.cells)) (h1 : 1 ≤ T.length) :
    ∃ g cap, v = .slice (some ⟨g, 0, none⟩) T.length cap ∧ ∀ j t, T[j]? = some t → w.cell? ⟨g, j * 2, none⟩ = some (.pointer (some ⟨t.pb, 0, none⟩)) ∧ w.cell? ⟨g, j * 2 + 1, none⟩ = some (.pointer (some ⟨t.rb, 0, none⟩)) := by
  rcases h.2 with ⟨_, h0⟩ | ⟨g, cap, cur, rfl, hbg, hg, hnc, hcm, hcs, htake⟩
  · omega
  · refine ⟨g, cap, rfl, fun j t hj => ?_⟩
    have hl := (List.getElem?_eq_some_iff.1 hj).1
    have c : ∀ i, i < 2 → w.cell? ⟨g, j * 2 + i, none⟩ = t.cells[i]? := fun i hi => by
      have e : (cur.toList.take (T.length * 2))[j * 2 + i]? = t.cells[i]? := by rw [htake]; exact twin_at hj i hi
      rw [List.getElem?_take, if_pos (by omega), Array.getElem?_toList] at e
      simp [World.cell?, hg, e]
    exact ⟨c 0 (by omega), c 1 (by omega)⟩

set_option maxRecDepth 100000 in
set_option maxHeartbeats 3200000 in
theorem play8_gen (kind on r : Int) (hk : 4 ≤ kind ∧ kind ≤ 7) (ho : -9223372036854775808 ≤ on ∧ on ≤ 9223372036854775807) (s u : ByteArray) (B bb : Nat) (K : List Ent) (lv kv : Value) (T : List Twin) (w : World) (h : WAt w B bb K lv kv T) (hT : 1 ≤ T.length)
    (Q : World → Prop) (hQ : ∀ (j : Nat) (t : Twin), T[j]? = some t → ∀ w1, Below w.heap.size w w1 → Calls Tryz.prog 58 #[.pointer (some ⟨bb, 0, none⟩), twV t, opV kind on r s u] w1 fun e w' => e = .returned (.bool true) ∧ Q w' ∧ Kept w1 w' bb)
    (hL : ∀ w', Q w' → Calls Tryz.prog 60 #[.pointer (some ⟨bb, 1, none⟩)] w' fun e w'' => e = .returned (.bool true) ∧ Q w'') :
    Calls Tryz.prog 38 #[.pointer (some ⟨bb, 0, none⟩), opV kind on r s u] w fun e w' => e = .returned (.bool true) ∧ Q w' := by
  unfold opV
  obtain ⟨w0, hw0⟩ : ∃ w0, w0 = w.alloc (.cells #[.int .i64 kind, .int .i64 on, .int .i64 r, .string s, .string u] 76) := ⟨_, rfl⟩
  have HB : Hid (Below w.heap.size w w0) := by show Below _ _ _; rw [hw0]; exact (Below.refl _ _).alloc (Nat.le_refl _) _
  have hop : w0.heap[w.heap.size]? = some (.cells #[.int .i64 kind, .int .i64 on, .int .i64 r, .string s, .string u] 76 (0, 0)) := by rw [hw0]; exact op_made w kind on r s u
  have HOP : Hid (w0.heap[w.heap.size]? = some (.cells #[.int .i64 kind, .int .i64 on, .int .i64 r, .string s, .string u] 76 (0, 0))) := hop
  obtain ⟨d0, d1, d2, d3, d4⟩ := op_cells hop
  have hfew := h.few
  have hW0 := h.below HB.out
  have hc0 : w0.cell? ⟨bb, 0, none⟩ = some lv := (cell_of_two hW0.book.cell).1
  have hrow := hW0.row
  obtain ⟨g, lc, rfl, hcs⟩ := twin_cells hrow hT
  obtain ⟨k, hkn, hpick⟩ := pick18_det on T.length hT hfew ho.1 ho.2
  have hTk : T[k]? = some T[k] := List.getElem?_eq_getElem hkn
  obtain ⟨q1, q2⟩ := hcs k _ hTk
  have HG : Hid (Kind w0 (fun t => t = 76 ∨ t = 99) g) := own_kind (S := fun t => t = 76 ∨ t = 99) hrow (Or.inr rfl) rfl
  have HS : Hid (∀ w1, Below w.heap.size w w1 → Calls Tryz.prog 58 #[.pointer (some ⟨bb, 0, none⟩), twV T[k], opV kind on r s u] w1 fun e w' => e = .returned (.bool true) ∧ Q w' ∧ Kept w1 w' bb) := hQ k _ hTk
  have HP : Hid (∀ w, Calls Tryz.prog 59 #[.int .i64 on, .int .i64 T.length] w fun e w' => e = .returned (.int .i64 k) ∧ w' = w) := hpick
  have HL : Hid (∀ w', Q w' → Calls Tryz.prog 60 #[.pointer (some ⟨bb, 1, none⟩)] w' fun e w'' => e = .returned (.bool true) ∧ Q w'') := hL
  have HBD : Hid (Below w.heap.size w w0.drew) := HB.out.drew
  generalize T[k] = t at *
  clear h hW0 hrow hcs hTk hQ hL hpick hop
  have hk0 : (0 : Int) ≤ (k : Int) := Int.natCast_nonneg _
  have hk1 : (k : Int) < (T.length : Int) := Int.ofNat_lt.2 hkn
  have e1 : ¬ (kind = 1) := by omega
  have e2 : ¬ (kind = 2) := by omega
  have e3 : ¬ (kind = 3) := by omega
  have f1 : (kind == 1) = false := by simpa using e1
  have f2 : (kind == 2) = false := by simpa using e2
  have f3 : (kind == 3) = false := by simpa using e3
  generalize T.length = n at *
  go_enter Tryz.func38, Tryz.ntmps38
  go_wp2_with fail
  rw [← hw0]
  clear hw0
  go_region_held3 (fun w' => w'.cell? ⟨bb, 0, none⟩ = some (.slice (some ⟨g, 0, none⟩) n lc) ∧ w'.cell? ⟨g, k * 2, none⟩ = some (.pointer (some ⟨t.pb, 0, none⟩)) ∧ w'.cell? ⟨g, k * 2 + 1, none⟩ = some (.pointer (some ⟨t.rb, 0, none⟩)) ∧ w'.cell? ⟨w.heap.size, 0, none⟩ = some (.int .i64 kind) ∧ w'.cell? ⟨w.heap.size, 1, none⟩ = some (.int .i64 on) ∧ w'.cell? ⟨w.heap.size, 2, none⟩ = some (.int .i64 r) ∧ w'.cell? ⟨w.heap.size, 3, none⟩ = some (.string s) ∧ w'.cell? ⟨w.heap.size, 4, none⟩ = some (.string u))
    (first | exact KP.out | exact ⟨hc0, q1, q2, d0, d1, d2, d3, d4⟩ | go_keep)
    (first
      | (go_at_call 59; refine (HP.out _).mono ?_; rintro e w1 ⟨rfl, rfl⟩)
      | (go_at_call 58; refine (HS.out _ HBD.out).mono ?_; rintro e w1 ⟨rfl, hQ1, hK1⟩; have KP : Hid (w1.cell? ⟨bb, 0, none⟩ = some (.slice (some ⟨g, 0, none⟩) n lc) ∧ w1.cell? ⟨g, k * 2, none⟩ = some (.pointer (some ⟨t.pb, 0, none⟩)) ∧ w1.cell? ⟨g, k * 2 + 1, none⟩ = some (.pointer (some ⟨t.rb, 0, none⟩)) ∧ w1.cell? ⟨w.heap.size, 0, none⟩ = some (.int .i64 kind) ∧ w1.cell? ⟨w.heap.size, 1, none⟩ = some (.int .i64 on) ∧ w1.cell? ⟨w.heap.size, 2, none⟩ = some (.int .i64 r) ∧ w1.cell? ⟨w.heap.size, 3, none⟩ = some (.string s) ∧ w1.cell? ⟨w.heap.size, 4, none⟩ = some (.string u)) := ⟨hK1.2.trans hc0, (World.cell?_of_block (hK1.1 g HG.out)).trans q1, (World.cell?_of_block (hK1.1 g HG.out)).trans q2, op_cells ((hK1.1 w.heap.size ⟨_, 76, HOP.out, Or.inl rfl⟩).trans HOP.out)⟩))
  have HQ1 : Hid (Q w1) := hQ1
  clear hQ1 hK1 KP d0 d1 d2 d3 d4 q1 q2 hc0
  go_wp2_with fail
  refine (HL.out _ HQ1.out).mono ?_
  rintro e w2 ⟨rfl, hQ2⟩
  go_wp2
  go_ret
  exact ⟨ret_bool (by simp), hQ2⟩

theorem play8_world (kind on r : Int) (hk : 4 ≤ kind ∧ kind ≤ 7) (ho : -9223372036854775808 ≤ on ∧ on ≤ 9223372036854775807) (s u : ByteArray) (hs : s.size ≤ 10000000) (B bb : Nat) (K : List Ent) (lv kv : Value) (T : List Twin) (w : World) (h : WAt w B bb K lv kv T) (hT : 1 ≤ T.length) (hK : K.length + 1 ≤ 10000000) :
    Calls Tryz.prog 38 #[.pointer (some ⟨bb, 0, none⟩), opV kind on r s u] w fun e w' => e = .returned (.bool true) ∧ Stepped w B bb K T w' :=
  play8_gen kind on r hk ho s u B bb K lv kv T w h hT _ (fun _ _ hj w1 hb => world_step kind on r hk s u hs h hK hj w1 hb) (fun _ hS => looks_step hS)
end Go.Proofs.YtgdfipmdmgkidaaGreatDoor
