/- The contract of the statement's looks: every list of the book shows its mark. -/
import Derived.Test.YtgdfipmdmgkidaaGreatDoorBook
namespace Go.Proofs.YtgdfipmdmgkidaaGreatDoor
open Go.RowKit

theorem ent_cell {K : List Ent} {k : Nat} (hk : k < K.length) (j : Nat) (hj : j < 6) : (K.flatMap Ent.cells)[k * 6 + j]? = (K[k]).cells[j]? := by
  induction K generalizing k with
  | nil => simp at hk
  | cons a K ih =>
    rw [List.flatMap_cons]
    cases k with
    | zero =>
      rw [List.getElem?_append_left (by simp [Ent.cells]; omega)]
      simp
    | succ k =>
      rw [List.getElem?_append_right (by simp [Ent.cells]; omega)]
      have e : (k + 1) * 6 + j - a.cells.length = k * 6 + j := by simp [Ent.cells]; omega
      rw [e, ih (by simpa using hk)]
      simp

theorem shows16_z (n : Nat) (z : Int) (m : ByteArray) (ao : Option Addr) (ca A : Nat) (w : World) (ha : w.ownsRow A 9 1 (.slice ao n ca) n (strs (marks n m))) (hz : z = (n : Int)) (hlen : n ≤ 1000000000) :
    Calls Tryz.prog 101 #[.slice ao n ca, .int .i64 z, .string m] w fun e w' => e = .returned (.bool true) ∧ w' = w := by
  subst hz
  exact shows16_any n m ao ca A w ha hlen

set_option maxRecDepth 100000 in
set_option maxHeartbeats 1600000 in
theorem looks9_any (B bb : Nat) (S : Nat → Prop) (K : List Ent) (lv kv : Value) (w : World) (hbk : BookAt w B S bb K lv kv) (hS : ∀ g, S g → g < w.heap.size) :
    Calls Tryz.prog 60 #[.pointer (some ⟨bb, 1, none⟩)] w fun e w' => e = .returned (.bool true) ∧ Below w.heap.size w w' := by
  obtain ⟨ko, kc, hkv⟩ := own_shape hbk.row
  subst hkv
  have hfew := hbk.few
  go_enter Tryz.func60, Tryz.ntmps60
  go_wp2
  go_loopw [3] (fun i wr => ∃ k : Nat, k ≤ K.length ∧ i = .int .i64 k ∧ Below w.heap.size w wr) (fun i _ => K.length - (intOf i).toNat)
  case atStart => exact ⟨0, Nat.zero_le _, rfl, Below.refl _ _⟩
  case round =>
    obtain ⟨k, hk, rfl, hb⟩ := hrel
    have hbkr := hbk.same (Same.of_below hb hS)
    have hcell : wr.cell? ⟨bb, 1, none⟩ = some (.slice ko K.length kc) := (cell_of_two hbkr.cell).2
    by_cases hlt : k < K.length
    · obtain ⟨g, hko, hgB, hgs⟩ := own_at hbkr.row (by omega)
      subst hko
      obtain ⟨x, hx⟩ : ∃ x, K[k] = x := ⟨_, rfl⟩
      have hok : x.ok wr B S := by rw [← hx]; exact hbkr.ents _ (List.getElem_mem hlt)
      have hc0 : wr.cell? ⟨g, k * 6, none⟩ = some x.l := by rw [hbkr.row.cellAt (k * 6) (by omega)]; have := ent_cell hlt 0 (by omega); rw [hx] at this; exact this
      have hc1 : wr.cell? ⟨g, k * 6 + 1, none⟩ = some x.g1 := by rw [hbkr.row.cellAt (k * 6 + 1) (by omega)]; have := ent_cell hlt 1 (by omega); rw [hx] at this; exact this
      have hc2 : wr.cell? ⟨g, k * 6 + 2, none⟩ = some x.g2 := by rw [hbkr.row.cellAt (k * 6 + 2) (by omega)]; have := ent_cell hlt 2 (by omega); rw [hx] at this; exact this
      have hc3 : wr.cell? ⟨g, k * 6 + 3, none⟩ = some x.g3 := by rw [hbkr.row.cellAt (k * 6 + 3) (by omega)]; have := ent_cell hlt 3 (by omega); rw [hx] at this; exact this
      have hc4 : wr.cell? ⟨g, k * 6 + 4, none⟩ = some (.int .i64 x.n) := by rw [hbkr.row.cellAt (k * 6 + 4) (by omega)]; have := ent_cell hlt 4 (by omega); rw [hx] at this; exact this
      have hc5 : wr.cell? ⟨g, k * 6 + 5, none⟩ = some (.string x.mark) := by rw [hbkr.row.cellAt (k * 6 + 5) (by omega)]; have := ent_cell hlt 5 (by omega); rw [hx] at this; exact this
      clear hx
      obtain ⟨l, g1, g2, g3, n, m⟩ := x
      obtain ⟨a, b, c, d, hn⟩ := hok
      simp only at a b c d hn hc0 hc1 hc2 hc3 hc4 hc5
      obtain ⟨a0, p0, rfl⟩ := own_shape a.1
      obtain ⟨a1, p1, rfl⟩ := own_shape b.1
      obtain ⟨a2, p2, rfl⟩ := own_shape c.1
      obtain ⟨a3, p3, rfl⟩ := own_shape d.1
      have hszr := hb.size
      have HB : Hid (Below w.heap.size w wr) := hb
      have HK : Hid (BookAt w B S bb K lv (.slice (some ⟨g, 0, none⟩) K.length kc)) := hbk
      clear hb hbk hbkr
      go_wp2_with fail
      refine (shows16_z n n m a0 p0 B _ (a.1.alloc _) rfl (by omega)).mono ?_
      rintro e w' ⟨rfl, rfl⟩
      go_wp2_with fail
      refine (shows16_z (n + 1) _ m a1 p1 B _ (b.1.alloc _) (by omega) (by omega)).mono ?_
      rintro e w' ⟨rfl, rfl⟩
      go_wp2_with fail
      refine (shows16_z (n + 2) _ m a2 p2 B _ (c.1.alloc _) (by omega) (by omega)).mono ?_
      rintro e w' ⟨rfl, rfl⟩
      go_wp2_with fail
      refine (shows16_z (n + 3) _ m a3 p3 B _ (d.1.alloc _) (by omega) (by omega)).mono ?_
      rintro e w' ⟨rfl, rfl⟩
      go_wp2
      go_roundw
      case rel => exact ⟨k + 1, by omega, by go_num, HB.out.alloc hszr _⟩
      case measure => simp [intOf]; omega
    · go_wp2
      go_ret
      exact ⟨rfl, hb⟩
end Go.Proofs.YtgdfipmdmgkidaaGreatDoor
