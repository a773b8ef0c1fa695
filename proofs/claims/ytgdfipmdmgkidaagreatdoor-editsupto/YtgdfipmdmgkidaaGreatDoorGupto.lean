/- The whole script. -/
import Derived.Test.YtgdfipmdmgkidaaGreatDoorGawake
namespace Go.Proofs.YtgdfipmdmgkidaaGreatDoor
open Go.RowKit

structure Stp where
  kind : Int
  on : Int
  r : Int
  s : ByteArray
  u : ByteArray

/-- The script lies in memory that was there when the call began. -/
def Script (W : World) (so : Option Addr) (L : List Stp) : Prop :=
  L = [] ∨ ∃ b o, so = some ⟨b, o, none⟩ ∧ b < W.heap.size ∧ ∀ (i : Nat) (p : Stp), L[i]? = some p → W.cell? ⟨b, o + i * 5, none⟩ = some (.int .i64 p.kind) ∧ W.cell? ⟨b, o + i * 5 + 1, none⟩ = some (.int .i64 p.on) ∧ W.cell? ⟨b, o + i * 5 + 2, none⟩ = some (.int .i64 p.r) ∧ W.cell? ⟨b, o + i * 5 + 3, none⟩ = some (.string p.s) ∧ W.cell? ⟨b, o + i * 5 + 4, none⟩ = some (.string p.u)

theorem WAt.start (W : World) : WAt (W.alloc (.cells #[.slice none 0 0, .slice none 0 0] 73)) W.heap.size W.heap.size [] (.slice none 0 0) (.slice none 0 0) [] where
  book := ⟨Nat.le_refl _, by show W.heap.size < _; simp, (by show (W.heap.push _)[W.heap.size]? = _; rw [Array.getElem?_push, if_pos rfl]), World.ownsRow_nil _ _ _ _, (fun g hg => by cases hg), (fun e he => by simp at he), by simp⟩
  row := World.ownsRow_nil _ _ _ _
  x := by simp
  r := by simp
  apart := List.Pairwise.nil
  few := by simp
  lo := by simp

structure Inv (W wr : World) (k : Nat) (K : List Ent) (lv kv : Value) (T : List Twin) : Prop where
  at_ : WAt wr W.heap.size W.heap.size K lv kv T
  kl : K.length ≤ k
  t1 : 1 ≤ T.length
  t2 : T.length ≤ k + 1
  bel : Below W.heap.size W wr
theorem Inv.pass {W wr w' : World} {k : Nat} {K : List Ent} {lv kv : Value} {T : List Twin} (h : Inv W wr k K lv kv T) (hb : Below wr.heap.size wr w') : Inv W w' (k + 1) K lv kv T :=
  ⟨h.at_.below hb, Nat.le_succ_of_le h.kl, h.t1, Nat.le_succ_of_le h.t2, h.bel.trans (hb.mono h.bel.size)⟩
theorem Inv.step {W wr wb w' : World} {k : Nat} {K : List Ent} {lv kv : Value} {T : List Twin} (h : Inv W wr k K lv kv T) (hb : Below wr.heap.size wr wb) (hS : Stepped wb W.heap.size W.heap.size K T w') : ∃ K' lv' kv' T', Inv W w' (k + 1) K' lv' kv' T' := by
  obtain ⟨K', lv', kv', T', hW, a, b, c, d⟩ := hS
  have := h.kl
  have := h.t1
  have := h.t2
  exact ⟨K', lv', kv', T', hW, by omega, by omega, by omega, (h.bel.trans (hb.mono h.bel.size)).trans d⟩

set_option maxRecDepth 100000 in
set_option maxHeartbeats 3200000 in
theorem upTo4_any (W : World) (so : Option Addr) (cap : Nat) (L : List Stp) (hL : L.length ≤ 1048576) (hS : Script W so L) (hok : ∀ p ∈ L, OpOk p.kind p.on p.r p.s p.u) :
    Calls Tryz.prog 13 #[.slice so L.length cap, .int .i64 1] W fun e w' => e = .returned (.bool true) ∧ Below W.heap.size W w' := by
  obtain ⟨w0, hw0⟩ : ∃ w0, w0 = W.alloc (.cells #[.slice none 0 0, .slice none 0 0] 73) := ⟨_, rfl⟩
  have HW0 : Hid (WAt w0 W.heap.size W.heap.size [] (.slice none 0 0) (.slice none 0 0) []) := by show WAt _ _ _ _ _ _ _; rw [hw0]; exact WAt.start W
  have HB0 : Hid (Below W.heap.size W w0) := by show Below _ _ _; rw [hw0]; exact (Below.refl _ _).alloc (Nat.le_refl _) _
  have HOK : Hid (∀ p ∈ L, OpOk p.kind p.on p.r p.s p.u) := hok
  have HS : Hid (Script W so L) := hS
  clear hok hS
  go_enter Tryz.func13, Tryz.ntmps13
  go_wp2_with fail
  rw [← hw0]
  clear hw0
  refine (awake5_any W.heap.size W.heap.size _ _ w0 HW0.out).mono ?_
  rintro e w1 ⟨rfl, lv, kv, T, hW1, hT1, hb1⟩
  have HW1 : Hid (WAt w1 W.heap.size W.heap.size [] lv kv T) := hW1
  have HB1 : Hid (Below W.heap.size W w1) := HB0.out.trans hb1
  have HT1 : Hid (T.length = 1) := hT1
  clear hW1 hb1 hT1
  go_wp2
  go_loopw [6, 7] (fun ok i wr => ∃ k : Nat, k ≤ L.length ∧ ok = .bool true ∧ i = .int .i64 k ∧ Hid (∃ K lv kv T, Inv W wr k K lv kv T)) (fun _ i _ => L.length - (intOf i).toNat)
  case atStart => exact ⟨0, Nat.zero_le _, rfl, rfl, [], lv, kv, T, HW1.out, Nat.le_refl _, by have := HT1.out; omega, by have := HT1.out; omega, HB1.out⟩
  case round =>
    obtain ⟨k, hk, rfl, rfl, HI⟩ := hrel
    obtain ⟨K', lv', kv', T', hI⟩ := HI.out
    have HV : Hid (Inv W wr k K' lv' kv' T') := hI
    clear hI
    by_cases hlt : k < L.length
    · obtain ⟨p, hp⟩ : ∃ p, L[k]? = some p := ⟨_, List.getElem?_eq_getElem hlt⟩
      have HPO : Hid (OpOk p.kind p.on p.r p.s p.u) := HOK.out p (List.mem_of_getElem? hp)
      rcases HS.out with hnil | ⟨b, o, rfl, hbW, hcs⟩
      · rw [hnil] at hlt; simp at hlt
      obtain ⟨c0, c1, c2, c3, c4⟩ := hcs k p hp
      have HBW := HV.out.bel
      have d0 := (HBW.cell (p := ⟨b, o + k * 5, none⟩) hbW).trans c0
      have d1 := (HBW.cell (p := ⟨b, o + k * 5 + 1, none⟩) hbW).trans c1
      have d2 := (HBW.cell (p := ⟨b, o + k * 5 + 2, none⟩) hbW).trans c2
      have d3 := (HBW.cell (p := ⟨b, o + k * 5 + 3, none⟩) hbW).trans c3
      have d4 := (HBW.cell (p := ⟨b, o + k * 5 + 4, none⟩) hbW).trans c4
      clear c0 c1 c2 c3 c4 hcs HBW hp
      obtain ⟨kind, on, r, s, u⟩ := p
      simp only at d0 d1 d2 d3 d4
      by_cases h9 : kind = 9
      · subst h9
        have HPS : Hid (s.size ≤ 10000000) := HPO.out.s1
        have HBB : Hid (Below wr.heap.size wr (wr.alloc (.cells #[.int .i64 9, .int .i64 on, .int .i64 r, .string s, .string u] 76))) := (Below.refl _ _).alloc (Nat.le_refl _) _
        go_wp2_with fail
        refine (late7_any s HPS.out _).mono ?_
        rintro e w2 ⟨l, rfl, rfl⟩
        clear d0 d1 d2 d3 d4
        cases l
        · go_wp2
          go_roundw
          case rel => exact ⟨k + 1, by omega, rfl, by go_num, _, _, _, _, HV.out.pass HBB.out⟩
          case measure => simp [intOf]; omega
        · go_wp2
          go_roundw
          case rel => exact ⟨k + 1, by omega, rfl, by go_num, _, _, _, _, HV.out.pass HBB.out⟩
          case measure => simp [intOf]; omega
      · have h9' : (kind == 9) = false := by simpa using h9
        obtain ⟨wb, hwb⟩ : ∃ wb, wb = wr.alloc (.cells #[.int .i64 kind, .int .i64 on, .int .i64 r, .string s, .string u] 76) := ⟨_, rfl⟩
        have HBB : Hid (Below wr.heap.size wr wb) := by show Below _ _ _; rw [hwb]; exact (Below.refl _ _).alloc (Nat.le_refl _) _
        by_cases hin : 1 ≤ kind ∧ kind ≤ 7
        · have g1 : ¬ (kind < 1) := by omega
          have g2 : ¬ (9 < kind) := by omega
          have g3 : ¬ (7 < kind) := by omega
          have HIN : Hid (1 ≤ kind ∧ kind ≤ 7) := hin
          clear hin h9
          go_wp2_with fail
          rw [← hwb]
          clear hwb d0 d1 d2 d3 d4
          refine (play8_any kind on r HIN.out s u HPO.out _ _ K' lv' kv' T' wb (HV.out.at_.below HBB.out) HV.out.t1 (by have := HV.out.t2; omega) (by have := HV.out.kl; omega)).mono ?_
          rintro e w2 ⟨rfl, hS2⟩
          have HE : Hid (∃ K lv kv T, Inv W w2 (k + 1) K lv kv T) := HV.out.step HBB.out hS2
          clear hS2
          go_wp2
          go_roundw
          case rel => exact ⟨k + 1, by omega, rfl, by go_num, HE⟩
          case measure => simp [intOf]; omega
        · by_cases g1 : kind < 1
          · go_wp2
            rw [← hwb]
            go_roundw
            case rel => exact ⟨k + 1, by omega, rfl, by go_num, _, _, _, _, HV.out.pass HBB.out⟩
            case measure => simp [intOf]; omega
          · have g3 : 7 < kind := by omega
            clear hin
            by_cases g2 : 9 < kind
            · go_wp2
              rw [← hwb]
              go_roundw
              case rel => exact ⟨k + 1, by omega, rfl, by go_num, _, _, _, _, HV.out.pass HBB.out⟩
              case measure => simp [intOf]; omega
            · go_wp2
              rw [← hwb]
              go_roundw
              case rel => exact ⟨k + 1, by omega, rfl, by go_num, _, _, _, _, HV.out.pass HBB.out⟩
              case measure => simp [intOf]; omega
    · have hkL : k = L.length := by omega
      have HB : Hid (Below W.heap.size W wr) := HV.out.bel
      go_wp2
      go_ret
      exact ⟨rfl, HB.out⟩
end Go.Proofs.YtgdfipmdmgkidaaGreatDoor
