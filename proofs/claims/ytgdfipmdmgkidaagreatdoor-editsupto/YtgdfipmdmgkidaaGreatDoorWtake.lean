/- The contract of the statement's take: a list that came out is written full of a mark and goes into the book. -/
import Derived.Test.YtgdfipmdmgkidaaGreatDoorBook
namespace Go.Proofs.YtgdfipmdmgkidaaGreatDoor
open Go.RowKit

theorem Tryz.info142 : (Tryz.prog.info? 142).map (fun i => (i.zero, i.size, i.bytes)) = some (some (.agg #[.slice none 0 0, .slice none 0 0, .slice none 0 0, .slice none 0 0, .int .i64 0, .string ⟨#[]⟩]), 6, 120) := by kernel_rfl

theorem marks_step (L : List ByteArray) (k : Nat) (m : ByteArray) (hk : k < L.length) : (strs (marks k m ++ L.drop k)).set k (.string m) = strs (marks (k + 1) m ++ L.drop (k + 1)) := by
  rw [List.drop_eq_getElem_cons hk]
  simp only [strs, List.map_append, List.map_cons, marks, List.replicate_succ', List.map_replicate]
  rw [List.set_append_right _ _ (by simp)]
  simp

theorem marks_end (L : List ByteArray) (m : ByteArray) : strs (marks L.length m ++ L.drop L.length) = strs (marks L.length m) := by simp

theorem new_two (w : World) (m : ByteArray) : ∀ j u, (strs (marks 2 m))[j]? = some u → (w.alloc (.cells #[.string m, .string m] 9)).cell? ((⟨w.heap.size, 0, none⟩ : Addr).add j) = some u := by
  intro j u hj
  match j, hj with
  | 0, hj => simp [marks] at hj; subst hj; simp [Addr.add]
  | 1, hj => simp [marks] at hj; subst hj; simp [Addr.add]
  | j + 2, hj => simp [marks] at hj
theorem new_three (w : World) (m : ByteArray) : ∀ j u, (strs (marks 3 m))[j]? = some u → (w.alloc (.cells #[.string m, .string m, .string m] 9)).cell? ((⟨w.heap.size, 0, none⟩ : Addr).add j) = some u := by
  intro j u hj
  match j, hj with
  | 0, hj => simp [marks] at hj; subst hj; simp [Addr.add]
  | 1, hj => simp [marks] at hj; subst hj; simp [Addr.add]
  | 2, hj => simp [marks] at hj; subst hj; simp [Addr.add]
  | j + 3, hj => simp [marks] at hj

theorem grown_trans {a b c : World} {row : Option Nat} (h : a.grownBy b row) (k : b.grownBy c row) : a.grownBy c row :=
  ⟨k.os.trans h.os, k.tape.trans h.tape, k.output.trans h.output, Nat.le_trans h.size k.size, fun i hi hr => (k.block i (Nat.lt_of_lt_of_le hi h.size) hr).trans (h.block i hi hr)⟩
theorem grown_below {a b : World} {row : Option Nat} (h : Below a.heap.size a b) : a.grownBy b row := ⟨h.os, h.tape, h.output, h.size, fun i hi _ => h.block i hi⟩

theorem marks_world {w w' : World} {o : Obj} {A n : Nat} {v : Value} {m : ByteArray} (h : w.ownsRow A 9 1 v n (strs (marks n m))) (hg : (w.alloc o).grownBy w' v.ownBlock) (hk : KeepsMarks m (w.alloc o) w') :
    w'.ownsRow A 9 1 v n (strs (marks n m)) ∧ w.grownBy w' v.ownBlock :=
  ⟨hk A v n (h.alloc o), grown_trans (World.grownBy_alloc w o _) hg⟩

theorem ShowsAt.kept {w w' : World} {o : Obj} {B n : Nat} {v v0 : Value} {m : ByteArray} (h : ShowsAt w B (Old w) v n m) (hk : KeepsMarks m (w.alloc o) w') (hg : (w.alloc o).grownBy w' v0.ownBlock) : ShowsAt w' B (Old w') v n m := by
  have hsz := hg.size
  simp at hsz
  exact ⟨hk B v n (h.1.alloc o), fun g hgg => by have := h.2 g hgg; unfold Old at *; omega⟩

theorem ShowsAt.lower {w : World} {B B' n : Nat} {S : Nat → Prop} {v : Value} {m : ByteArray} (h : ShowsAt w B' S v n m) (hB : B ≤ B') : ShowsAt w B S v n m := ⟨ownsRow_mono h.1 hB, h.2⟩

theorem new_six (w : World) (a b c d e f : Value) : ∀ j u, [a, b, c, d, e, f][j]? = some u → (w.alloc (.cells #[a, b, c, d, e, f] 142)).cell? ((⟨w.heap.size, 0, none⟩ : Addr).add j) = some u := by
  intro j u hj
  match j, hj with
  | 0, hj => simp at hj; subst hj; simp [Addr.add]
  | 1, hj => simp at hj; subst hj; simp [Addr.add]
  | 2, hj => simp at hj; subst hj; simp [Addr.add]
  | 3, hj => simp at hj; subst hj; simp [Addr.add]
  | 4, hj => simp at hj; subst hj; simp [Addr.add]
  | 5, hj => simp at hj; subst hj; simp [Addr.add]
  | j + 6, hj => simp at hj
theorem six_one (a b c d : Option Addr) (n p1 p2 p3 p4 : Nat) (m : ByteArray) : ∀ u ∈ [Value.slice a n p1, .slice b (n + 1) p2, .slice c (n + 2) p3, .slice d (n + 3) p4, .int .i64 n, .string m], u.oneCell' = true := by
  intro u hu
  simp at hu
  rcases hu with rfl | rfl | rfl | rfl | rfl | rfl <;> rfl

set_option maxRecDepth 100000 in
set_option maxHeartbeats 1600000 in
theorem take7_any (L : List ByteArray) (v : Value) (A B bb : Nat) (S : Nat → Prop) (K : List Ent) (lv kv : Value) (w : World) (hbk : BookAt w B S bb K lv kv) (hS : ∀ g, S g → g < w.heap.size) (hown : w.ownsRow A 9 1 v L.length (strs L)) (hA : B ≤ A) (hAw : A ≤ w.heap.size)
    (hfree : ∀ g, v.ownBlock = some g → ¬ S g) (hL : L.length ≤ 1000000) (hK : K.length + 1 ≤ 10000000) :
    Calls Tryz.prog 94 #[.pointer (some ⟨bb, 1, none⟩), v] w fun e w' => e = .returned (.tuple #[]) ∧ ∃ x kv', BookAt w' B (Old w') bb (K ++ [x]) lv kv' ∧ Below B w w' ∧ (∀ g, g < w.heap.size → g ≠ bb → some g ≠ kv.ownBlock → some g ≠ v.ownBlock → w'.heap[g]? = w.heap[g]?) := by
  obtain ⟨i0, hi, hz0, hz1, hz2⟩ := info_parts Tryz.info142
  obtain ⟨ao, cap, rfl⟩ := own_shape hown
  obtain ⟨ko, kc, hkv⟩ := own_shape hbk.row
  subst hkv
  have hcell : w.cell? ⟨bb, 1, none⟩ = some (.slice ko K.length kc) := (cell_of_two hbk.cell).2
  go_enter Tryz.func94, Tryz.ntmps94
  go_wp2_with fail
  refine (decimal13_any K.length w (by omega)).mono ?_
  rintro e w1 ⟨s, rfl, hs, hb1⟩
  have hown1 := own_below hown hb1 (Nat.le_refl _)
  have hsz1 := hb1.size
  go_wp2
  generalize (({ data := #[109, 97, 114, 107, 32] } : ByteArray) ++ s) = m
  go_loopw [5] (fun i wr => ∃ k : Nat, k ≤ L.length ∧ i = .int .i64 k ∧ wr.ownsRow A 9 1 (.slice ao L.length cap) L.length (strs (marks k m ++ L.drop k)) ∧ w1.grownBy wr (Value.slice ao L.length cap).ownBlock) (fun i _ => L.length - (intOf i).toNat)
  case atStart => exact ⟨0, Nat.zero_le _, rfl, by simpa [marks] using hown1, World.grownBy.refl _ _⟩
  case round =>
    clear hown1 hcell
    obtain ⟨k, hk, rfl, hownr, hb2⟩ := hrel
    by_cases hlt : k < L.length
    · obtain ⟨g, hao, hgB, hgs⟩ := own_at hownr (by omega)
      subst hao
      have hce := hownr.cellAt k (by omega)
      have hlen2 : (strs (marks k m ++ L.drop k)).length = L.length := by simp [marks]; omega
      obtain ⟨u, hu⟩ : ∃ u, (strs (marks k m ++ L.drop k))[k]? = some u := ⟨_, List.getElem?_eq_getElem (by omega)⟩
      rw [hu] at hce
      have hfz := hownr.frozenAt k
      have hst := hownr.stored k (.string m)
      rw [marks_step L k m hlt] at hst
      have hb3 := grown_trans hb2 hst.2
      have hst1 := hst.1
      clear hu hlen2 hownr hb2 hst hown
      go_wp2
      go_roundw
      case rel => exact ⟨k + 1, by omega, by go_num, hst1, hb3⟩
      case measure => simp [intOf]; omega
    · have hkk : k = L.length := by omega
      rw [hkk, marks_end] at hownr
      clear hkk
      have HG : Hid (w.grownBy wr (Value.slice ao L.length cap).ownBlock) := grown_trans (grown_below hb1) hb2
      have hszr := hb2.size
      have hAr : A ≤ wr.heap.size := by omega
      clear hb1 hb2
      go_wp2_with (at_builtin; refine wpList_append_marks _ rfl (.tmp 26) (.tmp 28) rfl A _ _ m rfl (hownr.alloc _) ⟨wr.heap.size, 0, none⟩ 1 1 rfl (new_one _ _ _) (by omega) (by simp; omega) ?_)
      intro v1 w3 hg1 hgr1 kp1
      obtain ⟨hl3, hb3⟩ := marks_world hownr hgr1 kp1
      have hs1 : ShowsAt w3 A (Old w3) v1 (L.length + 1) m := ⟨hg1, fun g hg => (hg1.lt g hg).2⟩
      have hA3 : A ≤ w3.heap.size := by have := hb3.size; omega
      have HG3 : Hid (w.grownBy w3 (Value.slice ao L.length cap).ownBlock) := grown_trans HG.out hb3
      clear hg1 hgr1 kp1 hb3 HG
      go_wp2_with (at_builtin; refine wpList_append_marks _ rfl (.tmp 30) (.tmp 33) rfl A _ _ m rfl (hl3.alloc _) ⟨w3.heap.size, 0, none⟩ 2 2 rfl (new_two _ _) (by omega) (by simp; omega) ?_)
      intro v2 w4 hg2 hgr2 kp2
      obtain ⟨hl4, hb4⟩ := marks_world hl3 hgr2 kp2
      have hs1' : ShowsAt w4 A (Old w4) v1 (L.length + 1) m := hs1.kept kp2 hgr2
      have hs2 : ShowsAt w4 A (Old w4) v2 (L.length + 2) m := ⟨hg2, fun g hg => (hg2.lt g hg).2⟩
      have hA4 : A ≤ w4.heap.size := by have := hb4.size; omega
      have HG4 : Hid (w.grownBy w4 (Value.slice ao L.length cap).ownBlock) := grown_trans HG3.out hb4
      clear hg2 hgr2 kp2 hs1 hl3 hb4 HG3
      go_wp2_with (at_builtin; refine wpList_append_marks _ rfl (.tmp 35) (.tmp 39) rfl A _ _ m rfl (hl4.alloc _) ⟨w4.heap.size, 0, none⟩ 3 3 rfl (new_three _ _) (by omega) (by simp; omega) ?_)
      intro v3 w5 hg3 hgr3 kp3
      obtain ⟨hl5, hb5⟩ := marks_world hl4 hgr3 kp3
      have hs1 : ShowsAt w5 A (Old w5) v1 (L.length + 1) m := hs1'.kept kp3 hgr3
      have hs2' : ShowsAt w5 A (Old w5) v2 (L.length + 2) m := hs2.kept kp3 hgr3
      have hs3 : ShowsAt w5 A (Old w5) v3 (L.length + 3) m := ⟨hg3, fun g hg => (hg3.lt g hg).2⟩
      have hs0 : ShowsAt w5 A (Old w5) (.slice ao L.length cap) L.length m := ⟨hl5, fun g hg => (hl5.lt g hg).2⟩
      have hG5 : w.grownBy w5 (Value.slice ao L.length cap).ownBlock := grown_trans HG4.out hb5
      have HG5 : Hid (w.grownBy w5 (Value.slice ao L.length cap).ownBlock) := hG5
      have hA5 : A ≤ w5.heap.size := by have := hb5.size; omega
      clear hg3 hgr3 kp3 hs1' hs2 hl4 hl5 hb5 hownr HG4
      obtain ⟨a1, p1, rfl⟩ := own_shape hs1.1
      obtain ⟨a2, p2, rfl⟩ := own_shape hs2'.1
      obtain ⟨a3, p3, rfl⟩ := own_shape hs3.1
      have hw5 : Below B w w5 := (Below.refl B w).grown hG5 (by omega) (fun g hg => by have := (hown.lt g hg).1; omega)
      have hS5 : Same S w w5 := Same.of_grown hG5 hS hfree
      have hbk5 := hbk.same hS5
      have hcell5 : w5.cell? ⟨bb, 1, none⟩ = some (.slice ko K.length kc) := (cell_of_two hbk5.cell).2
      have hent : Ent.ok w5 B (Old w5) ⟨.slice ao L.length cap, .slice a1 (L.length + 1) p1, .slice a2 (L.length + 2) p2, .slice a3 (L.length + 3) p3, L.length, m⟩ := ⟨hs0.lower hA, hs1.lower hA, hs2'.lower hA, hs3.lower hA, hL⟩
      clear hs0 hs1 hs2' hs3 hG5 hown
      go_wp2_with (at_builtin; refine wpList_append_own _ rfl (.tmp 45) (.tmp 54) 69 rfl B 142 i0 _ 6 120 Tryz.underlying69 hi hz0 hz1 hz2 rfl (by decide) _ _ _ rfl (hbk5.row.alloc _) ⟨w5.heap.size, 0, none⟩ 1 1 (Ent.cells ⟨.slice ao L.length cap, .slice a1 (L.length + 1) p1, .slice a2 (L.length + 2) p2, .slice a3 (L.length + 3) p3, L.length, m⟩) rfl rfl (new_six _ _ _ _ _ _ _) (six_one _ _ _ _ _ _ _ _ _ _) (by unfold maxLen; omega) (by omega) (by simp; omega) ?_)
      intro kv' w6 hrow6 hgr6 _
      obtain ⟨ko', kc', rfl⟩ := own_shape hrow6
      obtain ⟨hbb6, hbk7, hb7, hfr7⟩ := booked hbk hS hS5 hw5 hgr6 hrow6 rfl hK hent (by omega)
      have hcell6 : w6.cell? ⟨bb, 1, none⟩ = some (.slice ko K.length kc) := (cell_of_two hbb6).2
      have hfree6 : w6.frozen? ⟨bb, 1, none⟩ = false := free_of_two hbb6
      clear hrow6 hgr6 hent hbk5 hcell5 hbb6 hS5 hw5
      go_wp2
      go_end0
      refine ⟨rfl, _, _, hbk7, hb7, fun g h1 h2 h3 h4 => ?_⟩
      rw [hfr7 g (by have := HG5.out.size; omega) h2 h3]
      exact HG5.out.block g h1 h4
end Go.Proofs.YtgdfipmdmgkidaaGreatDoor
