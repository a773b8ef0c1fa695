/- The walk of the statement Worded: for every command the call returns true, and writes nothing that was there. -/
import Derived.Test.YtgdfipmdmgkidaaGreatDoorWcomm
import Derived.Test.YtgdfipmdmgkidaaGreatDoorWlined
namespace Go.Proofs.YtgdfipmdmgkidaaGreatDoor
open Go.RowKit

def wordsOk (s : ByteArray) : Bool := decide (rcf s 0 ≤ 120) && cmdB (splitAll s)
def wordsOf (s : ByteArray) : List ByteArray := if wordsOk s = true then splitAll s else []
def wordsErr (s : ByteArray) : Int := if wordsOk s = true then 0 else 6

theorem words_no {s : ByteArray} (h : wordsOk s = false) : wordsOf s = [] ∧ wordsErr s = 6 := by unfold wordsOf wordsErr; rw [h]; simp
theorem words_yes {s : ByteArray} (h : wordsOk s = true) : wordsOf s = splitAll s ∧ wordsErr s = 0 := by unfold wordsOf wordsErr; rw [h]; simp
theorem words_long {s : ByteArray} (h : 120 < rcf s 0) : wordsOk s = false := by
  unfold wordsOk
  have : decide (rcf s 0 ≤ 120) = false := by simpa using h
  rw [this]; rfl
theorem words_short {s : ByteArray} (h : ¬ 120 < rcf s 0) : wordsOk s = cmdB (splitAll s) := by
  unfold wordsOk
  have : decide (rcf s 0 ≤ 120) = true := by simpa using h
  rw [this]; rfl
theorem small_of {s : ByteArray} (h : ¬ 120 < rcf s 0) : s.size ≤ 480 := by
  have := size_runes s s.size 0 (by omega)
  omega
theorem own_cap {w : World} {B n size cap : Nat} {e : TypeId} {ao : Option Addr} {xs : List Value} (h : w.ownsRow B e size (.slice ao n cap) n xs) : n ≤ cap := by
  rcases h.2 with ⟨h1, rfl⟩ | ⟨g, cap', cur, h1, _, _, h3, _⟩
  · omega
  · cases h1
    exact h3

set_option maxRecDepth 100000 in
set_option maxHeartbeats 800000 in
theorem words17_any (s : ByteArray) (w : World) :
    Calls Tryz.prog 44 #[.string s] w fun e w' => ∃ v, e = .returned (.tuple #[v, .bool (wordsOk s)]) ∧ w'.ownsRow w.heap.size 9 1 v (wordsOf s).length (strs (wordsOf s)) ∧ Below w.heap.size w w' := by
  by_cases h120 : 120 < rcf s 0
  · have hno := words_long h120
    have HO : Hid (decide (120 < rcf s 0) = true) := by show _ = _; simpa using h120
    rw [(words_no hno).1, hno]
    clear hno h120
    go_enter Tryz.func44, Tryz.ntmps44
    go_wp2_with (go_at_call 63; refine (over_any _ 120 _ (by omega)).mono ?_; rw [HO.out]; rintro e w' ⟨rfl, q, rfl⟩)
    go_ret2
    exact ⟨_, rfl, World.ownsRow_nil _ _ _ _, (Below.refl _ _).alloc (Nat.le_refl _) _⟩
  · have HO : Hid (decide (120 < rcf s 0) = false) := by show _ = _; simpa using h120
    have hsm := small_of h120
    have hlen := splitAll_len s
    have HW := words_short h120
    clear h120
    cases hk : cmdB (splitAll s)
    · rw [hk] at HW
      rw [(words_no HW).1, HW]
      have HK : Hid (cmdB (splitAll s) = false) := hk
      clear hk HW
      go_enter Tryz.func44, Tryz.ntmps44
      go_wp2_with fail
      refine (over_any _ 120 _ (by omega)).mono ?_
      rw [HO.out]
      rintro e w' ⟨rfl, q, rfl⟩
      have hw1 : Below w.heap.size w (w.iter s q) := (Below.refl _ _).alloc (Nat.le_refl _) _
      generalize w.iter s q = w1 at *
      go_wp2_with fail
      refine (split25_any s w1 (by omega)).mono ?_
      rintro e w2 ⟨v, rfl, hown, hb2⟩
      obtain ⟨ao, cap, rfl⟩ := own_shape hown
      have hcap := own_cap hown
      have hv := View.own hown
      go_wp2_with fail
      refine (cmd26_any _ ao cap w2 hv hcap (by omega)).mono ?_
      rw [HK.out]
      rintro e w3 ⟨rfl, hb3⟩
      go_wp2
      go_ret2
      have hs1 := hw1.size
      have hs2 := hb2.size
      exact ⟨_, rfl, World.ownsRow_nil _ _ _ _, hw1.trans ((hb2.mono hs1).trans (hb3.mono (by omega)))⟩
    · rw [hk] at HW
      rw [(words_yes HW).1, HW]
      have HK : Hid (cmdB (splitAll s) = true) := hk
      clear hk HW
      go_enter Tryz.func44, Tryz.ntmps44
      go_wp2_with fail
      refine (over_any _ 120 _ (by omega)).mono ?_
      rw [HO.out]
      rintro e w' ⟨rfl, q, rfl⟩
      have hw1 : Below w.heap.size w (w.iter s q) := (Below.refl _ _).alloc (Nat.le_refl _) _
      generalize w.iter s q = w1 at *
      go_wp2_with fail
      refine (split25_any s w1 (by omega)).mono ?_
      rintro e w2 ⟨v, rfl, hown, hb2⟩
      obtain ⟨ao, cap, rfl⟩ := own_shape hown
      have hcap := own_cap hown
      have hv := View.own hown
      go_wp2_with fail
      refine (cmd26_any _ ao cap w2 hv hcap (by omega)).mono ?_
      rw [HK.out]
      rintro e w3 ⟨rfl, hb3⟩
      go_wp2
      go_ret2
      have hs1 := hw1.size
      have hs2 := hb2.size
      exact ⟨_, rfl, ownsRow_mono (own_below hown hb3 (Nat.le_refl _)) hs1, hw1.trans ((hb2.mono hs1).trans (hb3.mono (by omega)))⟩

set_option maxRecDepth 100000 in
set_option maxHeartbeats 800000 in
theorem words10_any (s : ByteArray) (w : World) :
    Calls Tryz.prog 95 #[.string s] w fun e w' => ∃ v, e = .returned (.tuple #[v, .int .i64 (wordsErr s)]) ∧ w'.ownsRow w.heap.size 9 1 v (wordsOf s).length (strs (wordsOf s)) ∧ Below w.heap.size w w' := by
  cases hl : wordsOk s
  · rw [(words_no hl).1, (words_no hl).2]
    go_enter Tryz.func95, Tryz.ntmps95
    go_wp2_with fail
    refine (words17_any s w).mono ?_
    rw [(words_no hl).1, hl]
    rintro e w1 ⟨v, rfl, hown, hbw⟩
    go_wp2
    go_ret2
    exact ⟨_, rfl, World.ownsRow_nil _ _ _ _, hbw⟩
  · rw [(words_yes hl).1, (words_yes hl).2]
    go_enter Tryz.func95, Tryz.ntmps95
    go_wp2_with fail
    refine (words17_any s w).mono ?_
    rw [(words_yes hl).1, hl]
    rintro e w1 ⟨v, rfl, hown, hbw⟩
    go_wp2
    go_ret2
    exact ⟨_, rfl, hown, hbw⟩

set_option maxRecDepth 100000 in
set_option maxHeartbeats 800000 in
theorem words18_any (s : ByteArray) (w : World) (hs : s.size ≤ maxLen) :
    Calls Tryz.prog 83 #[.string s] w fun e w' => ∃ v, e = .returned (.tuple #[v, .int .i64 (wordsErr s)]) ∧ w'.ownsRow w.heap.size 9 1 v (wordsOf s).length (strs (wordsOf s)) ∧ Below w.heap.size w w' := by
  have hrun := runes_any s w hs
  by_cases h120 : 120 < rcf s 0
  · have hno := words_long h120
    rw [(words_no hno).1, (words_no hno).2]
    clear hno
    generalize rcf s 0 = m at *
    have HR := hrun
    clear hrun
    go_enter Tryz.func83, Tryz.ntmps83
    go_wp2_with (go_at_call 137; refine HR.mono ?_; rintro e w' ⟨rfl, rfl⟩)
    go_ret2
    exact ⟨_, rfl, World.ownsRow_nil _ _ _ _, Below.refl _ _⟩
  · have hsm := small_of h120
    have hlen := splitAll_len s
    have hsz : ∀ l ∈ splitAll s, l.size ≤ 100000 := fun l hl => by have := splitAll_each s l hl; omega
    have HW := words_short h120
    generalize rcf s 0 = m at *
    have HR := hrun
    clear hrun
    cases hk : cmdB (splitAll s)
    · rw [hk] at HW
      rw [(words_no HW).1, (words_no HW).2]
      have HK : Hid (cmdB (splitAll s) = false) := hk
      clear hk HW
      go_enter Tryz.func83, Tryz.ntmps83
      go_wp2_with fail
      refine HR.mono ?_
      rintro e w' ⟨rfl, rfl⟩
      go_wp2_with fail
      refine (parted27_any s _ (by omega)).mono ?_
      rintro e w2 ⟨v, rfl, hown, hb2⟩
      obtain ⟨ao, cap, rfl⟩ := own_shape hown
      have hv := View.own hown
      go_wp2_with fail
      refine (cmd28_any _ ao cap w2 hv (by omega) hsz).mono ?_
      rw [HK.out]
      rintro e w3 ⟨rfl, hb3⟩
      go_wp2
      go_ret2
      exact ⟨_, rfl, World.ownsRow_nil _ _ _ _, hb2.trans (hb3.mono hb2.size)⟩
    · rw [hk] at HW
      rw [(words_yes HW).1, (words_yes HW).2]
      have HK : Hid (cmdB (splitAll s) = true) := hk
      clear hk HW
      go_enter Tryz.func83, Tryz.ntmps83
      go_wp2_with fail
      refine HR.mono ?_
      rintro e w' ⟨rfl, rfl⟩
      go_wp2_with fail
      refine (parted27_any s _ (by omega)).mono ?_
      rintro e w2 ⟨v, rfl, hown, hb2⟩
      obtain ⟨ao, cap, rfl⟩ := own_shape hown
      have hv := View.own hown
      go_wp2_with fail
      refine (cmd28_any _ ao cap w2 hv (by omega) hsz).mono ?_
      rw [HK.out]
      rintro e w3 ⟨rfl, hb3⟩
      go_wp2
      go_ret2
      exact ⟨_, rfl, own_below hown hb3 (Nat.le_refl _), hb2.trans (hb3.mono hb2.size)⟩

theorem wordsErr_bd (s : ByteArray) : 0 ≤ wordsErr s ∧ wordsErr s ≤ 1000 := by unfold wordsErr; split <;> omega
theorem wordsOf_len (s : ByteArray) : (wordsOf s).length ≤ 1000 := by
  unfold wordsOf wordsOk
  split
  · rename_i h
    simp at h
    have h1 := small_of (s := s) (by omega)
    have := splitAll_len s
    omega
  · simp

set_option maxRecDepth 100000 in
set_option maxHeartbeats 1600000 in
theorem worded11_any (s : ByteArray) (hsl : s.size ≤ maxLen) (B bb : Nat) (S : Nat → Prop) (K : List Ent) (lv kv : Value) (w : World) (hbk : BookAt w B S bb K lv kv) (hS : ∀ g, S g → g < w.heap.size) (hB : B ≤ w.heap.size) (hK : K.length + 1 ≤ 10000000) :
    Calls Tryz.prog 57 #[.pointer (some ⟨bb, 1, none⟩), .string s] w fun e w' => e = .returned (.bool true) ∧ ∃ x kv', BookAt w' B (Old w') bb (K ++ [x]) lv kv' ∧ Below B w w' ∧ (∀ g, g < w.heap.size → g ≠ bb → some g ≠ kv.ownBlock → w'.heap[g]? = w.heap[g]?) := by
  have hbd := wordsErr_bd s
  have hlen := wordsOf_len s
  have h5 := words10_any s w
  have h14 := fun w1 => words18_any s w1 hsl
  generalize wordsErr s = z at *
  generalize wordsOf s = L at *
  obtain ⟨hz0, hz1⟩ := hbd
  have hzz : (z == z) = true := by simp
  have H14 : Hid (∀ w1, Calls Tryz.prog 83 #[.string s] w1 fun e w' => ∃ v, e = .returned (.tuple #[v, .int .i64 z]) ∧ w'.ownsRow w1.heap.size 9 1 v L.length (strs L) ∧ Below w1.heap.size w1 w') := h14
  have H5 : Hid (Calls Tryz.prog 95 #[.string s] w fun e w' => ∃ v, e = .returned (.tuple #[v, .int .i64 z]) ∧ w'.ownsRow w.heap.size 9 1 v L.length (strs L) ∧ Below w.heap.size w w') := h5
  clear h14 h5
  go_enter Tryz.func57, Tryz.ntmps57
  go_wp2_with fail
  refine H5.out.mono ?_
  rintro e w1 ⟨v, rfl, hown1, hb1⟩
  obtain ⟨ao, ca, rfl⟩ := own_shape hown1
  go_wp2_with fail
  refine (H14.out w1).mono ?_
  rintro e w2 ⟨v2, rfl, hown2, hb2⟩
  obtain ⟨bo, cb, rfl⟩ := own_shape hown2
  have hown1' := own_below hown1 hb2 (Nat.le_refl _)
  go_wp2_with fail
  refine (same15_any L ao bo ca cb _ _ w2 hown1' hown2 (by omega)).mono ?_
  rintro e w3 ⟨rfl, q, rfl⟩
  have hb3 : Below w2.heap.size w2 (w2.drewN q) := below_drewN (Below.refl _ _) q
  have hs1 := hb1.size
  have hs2 := hb2.size
  have hs3 := hb3.size
  have hbw : Below w.heap.size w (w2.drewN q) := hb1.trans ((hb2.mono (by omega)).trans (hb3.mono (by omega)))
  have HBW : Hid (Below w.heap.size w (w2.drewN q)) := hbw
  have hbk3 := hbk.same (Same.of_below hbw hS)
  have hown3 := own_below hown1' hb3 (Nat.le_refl _)
  have HLT : Hid (∀ g, (Value.slice ao L.length ca).ownBlock = some g → w.heap.size ≤ g) := fun g hg => (hown3.lt g hg).1
  have hbB : Below B w (w2.drewN q) := hbw.mono hB
  have hS3 : ∀ g, S g → g < (w2.drewN q).heap.size := fun g hg => by have := hS g hg; have := hbw.size; omega
  have hfree : ∀ g, (Value.slice ao L.length ca).ownBlock = some g → ¬ S g := fun g hg hs => by have := (hown3.lt g hg).1; have := hS g hs; omega
  clear hown1 hown2 hown1' hb1 hb2 hb3 hbk
  go_wp2_with fail
  refine (take7_any L _ w.heap.size B bb S K lv kv _ hbk3 hS3 hown3 hB (by omega) hfree (by omega) hK).mono ?_
  rintro e w4 ⟨rfl, x, kv', hbk4, hb4, hf4⟩
  go_wp2_with (go_at_call 53; refine (num6_any _ _ hz0 hz1).mono ?_; rintro e w' ⟨rfl, rfl⟩)
  go_ret
  refine ⟨rfl, x, kv', hbk4, hbB.trans hb4, fun g h1 h2 h3 => ?_⟩
  rw [hf4 g (by have := HBW.out.size; omega) h2 h3 (fun e => by have := HLT.out g e.symm; omega)]
  exact HBW.out.block g h1

end Go.Proofs.YtgdfipmdmgkidaaGreatDoor
