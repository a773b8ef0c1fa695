/- The walk of the statement Worded: for every command the call returns true, and writes nothing that was there. -/
import Derived.Test.YtgdfipmdmgkidaaWcomm
import Derived.Test.YtgdfipmdmgkidaaWlined
namespace Go.Proofs.Ytgdfipmdmgkidaa
open Go.RowKit

def wordsOk (s : ByteArray) : Bool := decide (rcf s 0 ≤ 120) && cmdB (splitAll s)
def wordsOf (s : ByteArray) : List ByteArray := if wordsOk s = true then splitAll s else []
def wordsErr (s : ByteArray) : Int := if wordsOk s = true then 0 else 6

theorem words_no {s : ByteArray} (h : wordsOk s = false) : wordsOf s = [] ∧ wordsErr s = 6 := by unfold wordsOf wordsErr; rw [h]; simp
theorem words_yes {s : ByteArray} (h : wordsOk s = true) : wordsOf s = splitAll s ∧ wordsErr s = 0 := by unfold wordsOf wordsErr; rw [h]; simp
theorem words_long {s : ByteArray} (h : 120 < rcf s 0) : wordsOk s = false := by
  unfold wordsOk
  have : decide (rcf s 0 ≤ 120) = false := by simpa using h
  rw [this]; rfl
theorem words_short {s : ByteArray} (h : ¬ 120 < rcf s 0) : wordsOk s = cmdB (splitAll s) := by
  unfold wordsOk
  have : decide (rcf s 0 ≤ 120) = true := by simpa using h
  rw [this]; rfl
theorem small_of {s : ByteArray} (h : ¬ 120 < rcf s 0) : s.size ≤ 480 := by
  have := size_runes s s.size 0 (by omega)
  omega
theorem own_cap {w : World} {B n size cap : Nat} {e : TypeId} {ao : Option Addr} {xs : List Value} (h : w.ownsRow B e size (.slice ao n cap) n xs) : n ≤ cap := by
  rcases h.2 with ⟨h1, rfl⟩ | ⟨g, cap', cur, h1, _, _, h3, _⟩
  · omega
  · cases h1
    exact h3

set_option maxHeartbeats 800000 in
theorem words17_any (s : ByteArray) (w : World) :
    Calls Try.prog 17 #[.string s] w fun e w' => ∃ v, e = .returned (.tuple #[v, .bool (wordsOk s)]) ∧ w'.ownsRow w.heap.size 9 1 v (wordsOf s).length (strs (wordsOf s)) ∧ Below w.heap.size w w' := by
  by_cases h120 : 120 < rcf s 0
  · have hno := words_long h120
    have HO : Hid (decide (120 < rcf s 0) = true) := by show _ = _; simpa using h120
    rw [(words_no hno).1, hno]
    clear hno h120
    go_enter Try.func17, Try.ntmps17
    go_wp2_with (go_at_call 24; refine (over_any _ 120 _ (by omega)).mono ?_; rw [HO.out]; rintro e w' ⟨rfl, q, rfl⟩)
    go_ret2
    exact ⟨_, rfl, World.ownsRow_nil _ _ _ _, (Below.refl _ _).alloc (Nat.le_refl _) _⟩
  · have HO : Hid (decide (120 < rcf s 0) = false) := by show _ = _; simpa using h120
    have hsm := small_of h120
    have hlen := splitAll_len s
    have HW := words_short h120
    clear h120
    cases hk : cmdB (splitAll s)
    · rw [hk] at HW
      rw [(words_no HW).1, HW]
      have HK : Hid (cmdB (splitAll s) = false) := hk
      clear hk HW
      go_enter Try.func17, Try.ntmps17
      go_wp2_with fail
      refine (over_any _ 120 _ (by omega)).mono ?_
      rw [HO.out]
      rintro e w' ⟨rfl, q, rfl⟩
      have hw1 : Below w.heap.size w (w.iter s q) := (Below.refl _ _).alloc (Nat.le_refl _) _
      generalize w.iter s q = w1 at *
      go_wp2_with fail
      refine (split25_any s w1 (by omega)).mono ?_
      rintro e w2 ⟨v, rfl, hown, hb2⟩
      obtain ⟨ao, cap, rfl⟩ := own_shape hown
      have hcap := own_cap hown
      have hv := View.own hown
      go_wp2_with fail
      refine (cmd26_any _ ao cap w2 hv hcap (by omega)).mono ?_
      rw [HK.out]
      rintro e w3 ⟨rfl, hb3⟩
      go_wp2
      go_ret2
      have hs1 := hw1.size
      have hs2 := hb2.size
      exact ⟨_, rfl, World.ownsRow_nil _ _ _ _, hw1.trans ((hb2.mono hs1).trans (hb3.mono (by omega)))⟩
    · rw [hk] at HW
      rw [(words_yes HW).1, HW]
      have HK : Hid (cmdB (splitAll s) = true) := hk
      clear hk HW
      go_enter Try.func17, Try.ntmps17
      go_wp2_with fail
      refine (over_any _ 120 _ (by omega)).mono ?_
      rw [HO.out]
      rintro e w' ⟨rfl, q, rfl⟩
      have hw1 : Below w.heap.size w (w.iter s q) := (Below.refl _ _).alloc (Nat.le_refl _) _
      generalize w.iter s q = w1 at *
      go_wp2_with fail
      refine (split25_any s w1 (by omega)).mono ?_
      rintro e w2 ⟨v, rfl, hown, hb2⟩
      obtain ⟨ao, cap, rfl⟩ := own_shape hown
      have hcap := own_cap hown
      have hv := View.own hown
      go_wp2_with fail
      refine (cmd26_any _ ao cap w2 hv hcap (by omega)).mono ?_
      rw [HK.out]
      rintro e w3 ⟨rfl, hb3⟩
      go_wp2
      go_ret2
      have hs1 := hw1.size
      have hs2 := hb2.size
      exact ⟨_, rfl, ownsRow_mono (own_below hown hb3 (Nat.le_refl _)) hs1, hw1.trans ((hb2.mono hs1).trans (hb3.mono (by omega)))⟩

set_option maxHeartbeats 800000 in
theorem words10_any (s : ByteArray) (w : World) :
    Calls Try.prog 10 #[.string s] w fun e w' => ∃ v, e = .returned (.tuple #[v, .int .i64 (wordsErr s)]) ∧ w'.ownsRow w.heap.size 9 1 v (wordsOf s).length (strs (wordsOf s)) ∧ Below w.heap.size w w' := by
  cases hl : wordsOk s
  · rw [(words_no hl).1, (words_no hl).2]
    go_enter Try.func10, Try.ntmps10
    go_wp2_with fail
    refine (words17_any s w).mono ?_
    rw [(words_no hl).1, hl]
    rintro e w1 ⟨v, rfl, hown, hbw⟩
    go_wp2
    go_ret2
    exact ⟨_, rfl, World.ownsRow_nil _ _ _ _, hbw⟩
  · rw [(words_yes hl).1, (words_yes hl).2]
    go_enter Try.func10, Try.ntmps10
    go_wp2_with fail
    refine (words17_any s w).mono ?_
    rw [(words_yes hl).1, hl]
    rintro e w1 ⟨v, rfl, hown, hbw⟩
    go_wp2
    go_ret2
    exact ⟨_, rfl, hown, hbw⟩

set_option maxHeartbeats 800000 in
theorem words18_any (s : ByteArray) (w : World) (hs : s.size ≤ maxLen) :
    Calls Try.prog 18 #[.string s] w fun e w' => ∃ v, e = .returned (.tuple #[v, .int .i64 (wordsErr s)]) ∧ w'.ownsRow w.heap.size 9 1 v (wordsOf s).length (strs (wordsOf s)) ∧ Below w.heap.size w w' := by
  have hrun := runes_any s w hs
  by_cases h120 : 120 < rcf s 0
  · have hno := words_long h120
    rw [(words_no hno).1, (words_no hno).2]
    clear hno
    generalize rcf s 0 = m at *
    have HR := hrun
    clear hrun
    go_enter Try.func18, Try.ntmps18
    go_wp2_with (go_at_call 23; refine HR.mono ?_; rintro e w' ⟨rfl, rfl⟩)
    go_ret2
    exact ⟨_, rfl, World.ownsRow_nil _ _ _ _, Below.refl _ _⟩
  · have hsm := small_of h120
    have hlen := splitAll_len s
    have hsz : ∀ l ∈ splitAll s, l.size ≤ 100000 := fun l hl => by have := splitAll_each s l hl; omega
    have HW := words_short h120
    generalize rcf s 0 = m at *
    have HR := hrun
    clear hrun
    cases hk : cmdB (splitAll s)
    · rw [hk] at HW
      rw [(words_no HW).1, (words_no HW).2]
      have HK : Hid (cmdB (splitAll s) = false) := hk
      clear hk HW
      go_enter Try.func18, Try.ntmps18
      go_wp2_with fail
      refine HR.mono ?_
      rintro e w' ⟨rfl, rfl⟩
      go_wp2_with fail
      refine (parted27_any s _ (by omega)).mono ?_
      rintro e w2 ⟨v, rfl, hown, hb2⟩
      obtain ⟨ao, cap, rfl⟩ := own_shape hown
      have hv := View.own hown
      go_wp2_with fail
      refine (cmd28_any _ ao cap w2 hv (by omega) hsz).mono ?_
      rw [HK.out]
      rintro e w3 ⟨rfl, hb3⟩
      go_wp2
      go_ret2
      exact ⟨_, rfl, World.ownsRow_nil _ _ _ _, hb2.trans (hb3.mono hb2.size)⟩
    · rw [hk] at HW
      rw [(words_yes HW).1, (words_yes HW).2]
      have HK : Hid (cmdB (splitAll s) = true) := hk
      clear hk HW
      go_enter Try.func18, Try.ntmps18
      go_wp2_with fail
      refine HR.mono ?_
      rintro e w' ⟨rfl, rfl⟩
      go_wp2_with fail
      refine (parted27_any s _ (by omega)).mono ?_
      rintro e w2 ⟨v, rfl, hown, hb2⟩
      obtain ⟨ao, cap, rfl⟩ := own_shape hown
      have hv := View.own hown
      go_wp2_with fail
      refine (cmd28_any _ ao cap w2 hv (by omega) hsz).mono ?_
      rw [HK.out]
      rintro e w3 ⟨rfl, hb3⟩
      go_wp2
      go_ret2
      exact ⟨_, rfl, own_below hown hb3 (Nat.le_refl _), hb2.trans (hb3.mono hb2.size)⟩

theorem wordsErr_bd (s : ByteArray) : 0 ≤ wordsErr s ∧ wordsErr s ≤ 1000 := by unfold wordsErr; split <;> omega
theorem wordsOf_len (s : ByteArray) : (wordsOf s).length ≤ 1000 := by
  unfold wordsOf wordsOk
  split
  · rename_i h
    simp at h
    have h1 := small_of (s := s) (by omega)
    have := splitAll_len s
    omega
  · simp

set_option maxHeartbeats 1600000 in
theorem worded11_any (s : ByteArray) (hsl : s.size ≤ maxLen) (B bb : Nat) (S : Nat → Prop) (K : List Ent) (kv : Value) (w : World) (hbk : BookAt w B S bb K kv) (hS : ∀ g, S g → g < w.heap.size) (hB : B ≤ w.heap.size) (hK : K.length + 1 ≤ 10000000) :
    Calls Try.prog 11 #[.pointer (some ⟨bb, 0, none⟩), .string s] w fun e w' => e = .returned (.bool true) ∧ ∃ x kv', BookAt w' B (Old w') bb (K ++ [x]) kv' ∧ Below B w w' := by
  have hbd := wordsErr_bd s
  have hlen := wordsOf_len s
  have h5 := words10_any s w
  have h14 := fun w1 => words18_any s w1 hsl
  generalize wordsErr s = z at *
  generalize wordsOf s = L at *
  obtain ⟨hz0, hz1⟩ := hbd
  have hzz : (z == z) = true := by simp
  have H14 : Hid (∀ w1, Calls Try.prog 18 #[.string s] w1 fun e w' => ∃ v, e = .returned (.tuple #[v, .int .i64 z]) ∧ w'.ownsRow w1.heap.size 9 1 v L.length (strs L) ∧ Below w1.heap.size w1 w') := h14
  have H5 : Hid (Calls Try.prog 10 #[.string s] w fun e w' => ∃ v, e = .returned (.tuple #[v, .int .i64 z]) ∧ w'.ownsRow w.heap.size 9 1 v L.length (strs L) ∧ Below w.heap.size w w') := h5
  clear h14 h5
  go_enter Try.func11, Try.ntmps11
  go_wp2_with fail
  refine H5.out.mono ?_
  rintro e w1 ⟨v, rfl, hown1, hb1⟩
  obtain ⟨ao, ca, rfl⟩ := own_shape hown1
  go_wp2_with fail
  refine (H14.out w1).mono ?_
  rintro e w2 ⟨v2, rfl, hown2, hb2⟩
  obtain ⟨bo, cb, rfl⟩ := own_shape hown2
  have hown1' := own_below hown1 hb2 (Nat.le_refl _)
  go_wp2_with fail
  refine (same15_any L ao bo ca cb _ _ w2 hown1' hown2 (by omega)).mono ?_
  rintro e w3 ⟨rfl, q, rfl⟩
  have hb3 : Below w2.heap.size w2 (w2.drewN q) := below_drewN (Below.refl _ _) q
  have hs1 := hb1.size
  have hs2 := hb2.size
  have hs3 := hb3.size
  have hbw : Below w.heap.size w (w2.drewN q) := hb1.trans ((hb2.mono (by omega)).trans (hb3.mono (by omega)))
  have hbk3 := hbk.same (Same.of_below hbw hS)
  have hown3 := own_below hown1' hb3 (Nat.le_refl _)
  have hbB : Below B w (w2.drewN q) := hbw.mono hB
  have hS3 : ∀ g, S g → g < (w2.drewN q).heap.size := fun g hg => by have := hS g hg; have := hbw.size; omega
  have hfree : ∀ g, (Value.slice ao L.length ca).ownBlock = some g → ¬ S g := fun g hg hs => by have := (hown3.lt g hg).1; have := hS g hs; omega
  clear hown1 hown2 hown1' hb1 hb2 hb3 hbk
  go_wp2_with fail
  refine (take7_any L _ w.heap.size B bb S K kv _ hbk3 hS3 hown3 hB (by omega) hfree (by omega) hK).mono ?_
  rintro e w4 ⟨rfl, x, kv', hbk4, hb4⟩
  go_wp2_with (go_at_call 6; refine (num6_any _ _ hz0 hz1).mono ?_; rintro e w' ⟨rfl, rfl⟩)
  go_ret
  exact ⟨rfl, x, kv', hbk4, hbB.trans hb4⟩

theorem words_ab : wordsOf ⟨#[32, 32, 114, 101, 99, 111, 114, 100, 32, 48, 48, 102, 102, 32, 32, 97, 32]⟩ = [⟨#[114, 101, 99, 111, 114, 100]⟩, ⟨#[48, 48, 102, 102]⟩, ⟨#[97]⟩] ∧ wordsErr ⟨#[32, 32, 114, 101, 99, 111, 114, 100, 32, 48, 48, 102, 102, 32, 32, 97, 32]⟩ = 0 := by decide +kernel

set_option maxHeartbeats 1600000 in
theorem worded4_any (s : ByteArray) (hsl : s.size ≤ maxLen) (w : World) :
    Calls Try.prog 4 #[.string s] w fun e w' => e = .returned (.bool true) ∧ Below w.heap.size w w' := by
  have h5 := words10_any ⟨#[32, 32, 114, 101, 99, 111, 114, 100, 32, 48, 48, 102, 102, 32, 32, 97, 32]⟩ w
  rw [words_ab.1, words_ab.2] at h5
  have H5 : Hid (Calls Try.prog 10 #[.string ⟨#[32, 32, 114, 101, 99, 111, 114, 100, 32, 48, 48, 102, 102, 32, 32, 97, 32]⟩] w fun e w' => ∃ v, e = .returned (.tuple #[v, .int .i64 0]) ∧ w'.ownsRow w.heap.size 9 1 v 3 (strs [⟨#[114, 101, 99, 111, 114, 100]⟩, ⟨#[48, 48, 102, 102]⟩, ⟨#[97]⟩]) ∧ Below w.heap.size w w') := h5
  clear h5
  go_enter Try.func4, Try.ntmps4
  go_wp2_with fail
  refine H5.out.mono ?_
  rintro e w1 ⟨v, rfl, hown1, hb1⟩
  obtain ⟨ao, ca, rfl⟩ := own_shape hown1
  obtain ⟨g, hao, hgB, hgs⟩ := own_at hown1 (by omega)
  subst hao
  have hc0 : w1.cell? ⟨g, 0, none⟩ = some (.string ⟨#[114, 101, 99, 111, 114, 100]⟩) := hown1.cellAt 0 (by omega)
  have hc1 : w1.cell? ⟨g, 1, none⟩ = some (.string ⟨#[48, 48, 102, 102]⟩) := hown1.cellAt 1 (by omega)
  have hc2 : w1.cell? ⟨g, 2, none⟩ = some (.string ⟨#[97]⟩) := hown1.cellAt 2 (by omega)
  have hs1 := hb1.size
  go_wp2_with (go_at_call 6; refine (num6_any _ _ (by omega) (by omega)).mono ?_; rintro e w' ⟨rfl, rfl⟩)
  refine (take7_any [⟨#[114, 101, 99, 111, 114, 100]⟩, ⟨#[48, 48, 102, 102]⟩, ⟨#[97]⟩] _ w.heap.size w.heap.size _ _ [] _ _ (book_new _ _ hs1) (fun g hg => by subst hg; simp) (hown1.alloc _) (Nat.le_refl _) (by simp; omega) (fun g' hg' hs => by simp [Value.ownBlock] at hg'; omega) (by simp) (by simp)).mono ?_
  rintro e w2 ⟨rfl, x, kv', hbk2, hb2⟩
  have hs2 := hb2.size
  simp at hs2
  go_wp2_with fail
  refine (worded11_any s hsl w.heap.size _ _ _ _ _ hbk2 (fun g hg => hg) (by omega) (by simp)).mono ?_
  rintro e w3 ⟨rfl, x', kv3, hbk3, hb3⟩
  have hs3 := hb3.size
  go_wp2_with fail
  refine (looks9_any w.heap.size _ _ _ _ _ hbk3 (fun g hg => hg)).mono ?_
  rintro e w4 ⟨rfl, hb4⟩
  go_wp2
  go_ret
  exact ⟨rfl, ((hb1.alloc hs1 _).trans hb2).trans (hb3.trans (hb4.mono (by omega)))⟩
end Go.Proofs.Ytgdfipmdmgkidaa
