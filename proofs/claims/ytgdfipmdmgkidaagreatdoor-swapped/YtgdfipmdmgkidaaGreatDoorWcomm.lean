/- The contract of the document's own test whether words are a command. -/
import Derived.Test.YtgdfipmdmgkidaaGreatDoorWids
import Derived.Test.YtgdfipmdmgkidaaGreatDoorPstand
import Derived.Test.YtgdfipmdmgkidaaGreatDoorWsize
import Derived.Deep.QuietTactic
import Derived.BigQuiet
import Derived.Test.YtgdfipmdmgkidaaGreatDoorPgapw
import Derived.Test.YtgdfipmdmgkidaaGreatDoorPgiven
namespace Go.Proofs.YtgdfipmdmgkidaaGreatDoor
open Go.RowKit

/-- Which words are a command. -/
def cmdB : List ByteArray → Bool
  | [] => false
  | t :: R => if t = wRecord then recB R else if t = wUnrecord ∨ t = wObliterate ∨ t = wShow ∨ t = wSwap then oneB R else if t = wPull then pullB R else if t = wRevert ∨ t = wNew ∨ t = wLog ∨ t = wOrder then R.isEmpty else false

theorem cmdB_record (R : List ByteArray) : cmdB (wRecord :: R) = recB R := by rw [cmdB, if_pos rfl]
theorem cmdB_one {t : ByteArray} (h : oneW t) (R : List ByteArray) : cmdB (t :: R) = oneB R := by
  rw [cmdB]
  rw [if_neg (by rcases h with rfl | rfl | rfl | rfl <;> decide)]
  exact if_pos h
theorem cmdB_pull (R : List ByteArray) : cmdB (wPull :: R) = pullB R := by
  rw [cmdB]
  rw [if_neg (by decide), if_neg (by decide), if_pos rfl]
theorem cmdB_none {t : ByteArray} (h : noneW t) (R : List ByteArray) : cmdB (t :: R) = R.isEmpty := by
  rw [cmdB]
  rw [if_neg (by rcases h with rfl | rfl | rfl | rfl <;> decide), if_neg (by rcases h with rfl | rfl | rfl | rfl <;> decide), if_neg (by rcases h with rfl | rfl | rfl | rfl <;> decide)]
  exact if_pos h
theorem other_ne {t : ByteArray} {l : List UInt8} (h : (t.toList == l) = false) : t ≠ ⟨l.toArray⟩ := by
  intro e
  rw [e, toList_data] at h
  simp at h
theorem cmdB_other {t : ByteArray} (h : otherW t) (R : List ByteArray) : cmdB (t :: R) = false := by
  have n : ∀ {l : List UInt8}, (t.toList == l) = false → t ≠ ⟨l.toArray⟩ := fun h => other_ne h
  rw [cmdB]
  rw [if_neg (n h.a), if_neg, if_neg (n h.f), if_neg]
  · rintro (e | e | e | e)
    · exact n h.g e
    · exact n h.h e
    · exact n h.i e
    · exact n h.j e
  · rintro (e | e | e | e)
    · exact n h.b e
    · exact n h.c e
    · exact n h.d e
    · exact n h.e e

theorem view_parts {w : World} {ao : Option Addr} {t : ByteArray} {R : List ByteArray} (h : View w ao (t :: R)) :
    ∃ b o, ao = some ⟨b, o, none⟩ ∧ b < w.heap.size ∧ w.cell? ⟨b, o, none⟩ = some (.string t) ∧ ∀ k, k < R.length → w.cell? ⟨b, o + 1 + k, none⟩ = some (.string (R.getD k ByteArray.empty)) := by
  rcases h with h | ⟨b, o, rfl, hb, hc⟩
  · simp at h
  · refine ⟨b, o, rfl, hb, hc 0 (by simp), fun k hk => ?_⟩
    have := hc (k + 1) (by simpa using hk)
    rw [show o + 1 + k = o + (k + 1) by omega]
    simpa using this

theorem cmd26_any (L : List ByteArray) (ao : Option Addr) (cap : Nat) (w : World) (hv : View w ao L) (hcap : L.length ≤ cap) (hlen : L.length ≤ 1000000) :
    Calls Tryz.prog 65 #[.slice ao L.length cap] w fun e w' => e = .returned (.bool (cmdB L)) ∧ Below w.heap.size w w' := by
  match L, hv, hcap, hlen with
  | [], _, _, _ => exact cmd26_empty ao cap w
  | t :: R, hv, hcap, hlen =>
    obtain ⟨b, o, rfl, hb, hc0, hcR⟩ := view_parts hv
    simp only [List.length_cons] at hcap hlen ⊢
    rcases words_all t with h | h | h | h | h
    · subst h; rw [cmdB_record]; exact cmd26_record R b o cap w hb hc0 hcR hcap (by omega)
    · rw [cmdB_one h]; exact cmd26_one t h R b o cap w hc0 hcR hcap (by omega)
    · subst h; rw [cmdB_pull]; exact cmd26_pull R b o cap w hb hc0 hcR hcap (by omega)
    · rw [cmdB_none h]; exact cmd26_none t h R b o cap w hc0 hcap (by omega)
    · rw [cmdB_other h]; exact cmd26_other t h R.length b o cap w hc0 hcap (by omega)

end Go.Proofs.YtgdfipmdmgkidaaGreatDoor

/- The contract of parse.Words. -/
namespace Go.Proofs.YtgdfipmdmgkidaaGreatDoor
open Go.RowKit

def wordsOk (s : ByteArray) : Bool := decide (rcf s 0 ≤ 120) && cmdB (splitAll s)
def wordsOf (s : ByteArray) : List ByteArray := if wordsOk s = true then splitAll s else []
def wordsErr (s : ByteArray) : Int := if wordsOk s = true then 0 else 6

theorem words_no {s : ByteArray} (h : wordsOk s = false) : wordsOf s = [] ∧ wordsErr s = 6 := by unfold wordsOf wordsErr; rw [h]; simp
theorem words_yes {s : ByteArray} (h : wordsOk s = true) : wordsOf s = splitAll s ∧ wordsErr s = 0 := by unfold wordsOf wordsErr; rw [h]; simp
theorem words_long {s : ByteArray} (h : 120 < rcf s 0) : wordsOk s = false := by
  unfold wordsOk
  have : decide (rcf s 0 ≤ 120) = false := by simpa using h
  rw [this]; rfl
theorem words_short {s : ByteArray} (h : ¬ 120 < rcf s 0) : wordsOk s = cmdB (splitAll s) := by
  unfold wordsOk
  have : decide (rcf s 0 ≤ 120) = true := by simpa using h
  rw [this]; rfl
theorem small_of {s : ByteArray} (h : ¬ 120 < rcf s 0) : s.size ≤ 480 := by
  have := size_runes s s.size 0 (by omega)
  omega
theorem own_cap {w : World} {B n size cap : Nat} {e : TypeId} {ao : Option Addr} {xs : List Value} (h : w.ownsRow B e size (.slice ao n cap) n xs) : n ≤ cap := by
  rcases h.2 with ⟨h1, rfl⟩ | ⟨g, cap', cur, h1, _, _, h3, _⟩
  · omega
  · cases h1
    exact h3

set_option maxRecDepth 100000 in
set_option maxHeartbeats 800000 in
theorem words17_any (s : ByteArray) (w : World) :
    Calls Tryz.prog 44 #[.string s] w fun e w' => ∃ v, e = .returned (.tuple #[v, .bool (wordsOk s)]) ∧ w'.ownsRow w.heap.size 9 1 v (wordsOf s).length (strs (wordsOf s)) ∧ Below w.heap.size w w' := by
  by_cases h120 : 120 < rcf s 0
  · have hno := words_long h120
    have HO : Hid (decide (120 < rcf s 0) = true) := by show _ = _; simpa using h120
    rw [(words_no hno).1, hno]
    clear hno h120
    go_enter Tryz.func44, Tryz.ntmps44
    go_wp2_with (go_at_call 63; refine (over_any _ 120 _ (by omega)).mono ?_; rw [HO.out]; rintro e w' ⟨rfl, q, rfl⟩)
    go_ret2
    exact ⟨_, rfl, World.ownsRow_nil _ _ _ _, (Below.refl _ _).alloc (Nat.le_refl _) _⟩
  · have HO : Hid (decide (120 < rcf s 0) = false) := by show _ = _; simpa using h120
    have hsm := small_of h120
    have hlen := splitAll_len s
    have HW := words_short h120
    clear h120
    cases hk : cmdB (splitAll s)
    · rw [hk] at HW
      rw [(words_no HW).1, HW]
      have HK : Hid (cmdB (splitAll s) = false) := hk
      clear hk HW
      go_enter Tryz.func44, Tryz.ntmps44
      go_wp2_with fail
      refine (over_any _ 120 _ (by omega)).mono ?_
      rw [HO.out]
      rintro e w' ⟨rfl, q, rfl⟩
      have hw1 : Below w.heap.size w (w.iter s q) := (Below.refl _ _).alloc (Nat.le_refl _) _
      generalize w.iter s q = w1 at *
      go_wp2_with fail
      refine (split25_any s w1 (by omega)).mono ?_
      rintro e w2 ⟨v, rfl, hown, hb2⟩
      obtain ⟨ao, cap, rfl⟩ := own_shape hown
      have hcap := own_cap hown
      have hv := View.own hown
      go_wp2_with fail
      refine (cmd26_any _ ao cap w2 hv hcap (by omega)).mono ?_
      rw [HK.out]
      rintro e w3 ⟨rfl, hb3⟩
      go_wp2
      go_ret2
      have hs1 := hw1.size
      have hs2 := hb2.size
      exact ⟨_, rfl, World.ownsRow_nil _ _ _ _, hw1.trans ((hb2.mono hs1).trans (hb3.mono (by omega)))⟩
    · rw [hk] at HW
      rw [(words_yes HW).1, HW]
      have HK : Hid (cmdB (splitAll s) = true) := hk
      clear hk HW
      go_enter Tryz.func44, Tryz.ntmps44
      go_wp2_with fail
      refine (over_any _ 120 _ (by omega)).mono ?_
      rw [HO.out]
      rintro e w' ⟨rfl, q, rfl⟩
      have hw1 : Below w.heap.size w (w.iter s q) := (Below.refl _ _).alloc (Nat.le_refl _) _
      generalize w.iter s q = w1 at *
      go_wp2_with fail
      refine (split25_any s w1 (by omega)).mono ?_
      rintro e w2 ⟨v, rfl, hown, hb2⟩
      obtain ⟨ao, cap, rfl⟩ := own_shape hown
      have hcap := own_cap hown
      have hv := View.own hown
      go_wp2_with fail
      refine (cmd26_any _ ao cap w2 hv hcap (by omega)).mono ?_
      rw [HK.out]
      rintro e w3 ⟨rfl, hb3⟩
      go_wp2
      go_ret2
      have hs1 := hw1.size
      have hs2 := hb2.size
      exact ⟨_, rfl, ownsRow_mono (own_below hown hb3 (Nat.le_refl _)) hs1, hw1.trans ((hb2.mono hs1).trans (hb3.mono (by omega)))⟩
end Go.Proofs.YtgdfipmdmgkidaaGreatDoor

/- A command is carried out: record of all, new. -/
namespace Go.Proofs.YtgdfipmdmgkidaaGreatDoor
open Go.RowKit

abbrev wdRecord : ByteArray := ⟨#[114, 101, 99, 111, 114, 100]⟩
abbrev wdNew : ByteArray := ⟨#[110, 101, 119]⟩

set_option maxRecDepth 100000 in
set_option maxHeartbeats 3200000 in
theorem carry29_new (pb rg wb wo wn wc : Nat) (w : World) (Q : ByteArray → World → Prop) (hw : w.cell? ⟨wb, wo, none⟩ = some (.string wdNew)) (hwn : 1 ≤ wn)
    (hN : Calls Tryz.prog 66 #[.pointer (some ⟨rg, 0, none⟩)] w fun e w' => ∃ x, e = .returned (.string x) ∧ Q x w') :
    Calls Tryz.prog 45 #[.pointer (some ⟨pb, 0, none⟩), .pointer (some ⟨rg, 0, none⟩), .slice (some ⟨wb, wo, none⟩) wn wc] w fun e w' => ∃ x, e = .returned (.tuple #[.string x, .int .i64 0]) ∧ Q x w' := by
  have HN : Hid (Calls Tryz.prog 66 #[.pointer (some ⟨rg, 0, none⟩)] w fun e w' => ∃ x, e = .returned (.string x) ∧ Q x w') := hN
  clear hN
  have h0 : (0 : Int) < (wn : Int) := by omega
  go_enter Tryz.func45, Tryz.ntmps45
  go_wp2_with fail
  refine HN.out.mono ?_
  rintro e w' ⟨x, rfl, hq⟩
  clear HN
  go_wp2
  go_ret2
  exact ⟨x, rfl, hq⟩

set_option maxRecDepth 100000 in
set_option maxHeartbeats 3200000 in
theorem carry29_record (pb rg wb wo wc : Nat) (a b c d : UInt8) (w : World) (cd : Int) (Q : ByteArray → World → Prop) (hw : w.cell? ⟨wb, wo, none⟩ = some (.string wdRecord)) (hw1 : w.cell? ⟨wb, wo + 1, none⟩ = some (.string ⟨#[a, b, c, d]⟩)) (hwb : TB w wb 9) (hwc : 2 ≤ wc)
    (hN : ∀ u na nc, Below w.heap.size w u → Calls Tryz.prog 72 #[.pointer (some ⟨pb, 0, none⟩), .pointer (some ⟨rg, 0, none⟩), .agg #[.int .u8 a.toNat, .int .u8 b.toNat, .int .u8 c.toNat, .int .u8 d.toNat], .slice na 0 nc] u fun e w' => ∃ x, e = .returned (.tuple #[.string x, .int .i64 cd]) ∧ Q x w' ∧ HeldT (· = 9) u w') :
    Calls Tryz.prog 45 #[.pointer (some ⟨pb, 0, none⟩), .pointer (some ⟨rg, 0, none⟩), .slice (some ⟨wb, wo, none⟩) 2 wc] w fun e w' => ∃ x, e = .returned (.tuple #[.string x, .int .i64 cd]) ∧ Q x w' := by
  have HN : Hid (∀ u na nc, Below w.heap.size w u → Calls Tryz.prog 72 #[.pointer (some ⟨pb, 0, none⟩), .pointer (some ⟨rg, 0, none⟩), .agg #[.int .u8 a.toNat, .int .u8 b.toNat, .int .u8 c.toNat, .int .u8 d.toNat], .slice na 0 nc] u fun e w' => ∃ x, e = .returned (.tuple #[.string x, .int .i64 cd]) ∧ Q x w' ∧ HeldT (· = 9) u w') := hN
  have HI : Hid (Calls Tryz.prog 70 #[.string ⟨#[a, b, c, d]⟩] w.drew fun e w' => e = .returned (.agg #[.int .u8 a.toNat, .int .u8 b.toNat, .int .u8 c.toNat, .int .u8 d.toNat]) ∧ Below w.heap.size w w') := (idOf51_any a b c d w.drew).mono fun e w' h => ⟨h.1, (Below.refl _ w).drew.trans h.2⟩
  have HS0 : Hid (w.drew.cell? ⟨wb, wo + 1, none⟩ = some (.string ⟨#[a, b, c, d]⟩)) := hw1
  clear hN
  have j1 : (2 : Int) ≤ (wc : Int) := by omega
  have j2 : (wc : Int) ≤ (wc : Int) := Int.le_refl _
  go_enter Tryz.func45, Tryz.ntmps45
  go_wp2_with fail
  refine wp_region_Z (fun w' => w'.cell? ⟨wb, wo + 1, none⟩ = some (.string ⟨#[a, b, c, d]⟩)) 99 (by kernel_rfl) ?_
  refine wpZ_take 0 _ (v := ?v0) rfl (by kernel_rfl) (by kernel_rfl) (by kernel_rfl) (fun _ _ _ h => h) (by kernel_rfl) (by decide) HS0.out rfl (fun w0 hS0 => ?hy) ?_
  case hy =>
    go_simp
    with_reducible rfl
  simp only [Act.put, List.setIfInBounds_toArray]
  refine wpZ_take 1 _ (v := ?v1) rfl (by kernel_rfl) (by kernel_rfl) (by kernel_rfl) (fun _ _ _ h => h) (by kernel_rfl) (by decide) HS0.out rfl (fun w0 hS0 => ?hy) ?_
  case hy =>
    go_simp
    with_reducible rfl
  simp only [Act.put]
  refine wpZ_take 2 _ (v := ?v2) rfl (by kernel_rfl) (by kernel_rfl) (by kernel_rfl) (fun _ _ _ h => h) (by kernel_rfl) (by decide) HS0.out rfl (fun w0 hS0 => ?hy) ?_
  case hy =>
    go_simp
    with_reducible rfl
  simp only [Act.put]
  refine wpZ_take 3 _ (v := ?v3) rfl (by kernel_rfl) (by kernel_rfl) (by kernel_rfl) (fun _ _ _ h => h) (by kernel_rfl) (by decide) HS0.out rfl (fun w0 hS0 => ?hy) ?_
  case hy =>
    go_simp
    with_reducible rfl
  simp only [Act.put]
  refine wpZ_take 4 _ (v := ?v4) rfl (by kernel_rfl) (by kernel_rfl) (by kernel_rfl) (fun _ _ _ h => h) (by kernel_rfl) (by decide) HS0.out rfl (fun w0 hS0 => ?hy) ?_
  case hy =>
    go_simp
    with_reducible rfl
  simp only [Act.put]
  refine wpZ_take 6 _ (v := ?v6) rfl (by kernel_rfl) (by kernel_rfl) (by kernel_rfl) (fun _ _ _ h => h) (by kernel_rfl) (by decide) HS0.out rfl (fun w0 hS0 => ?hy) ?_
  case hy =>
    go_simp
    with_reducible rfl
  simp only [Act.put]
  refine wpZ_take 7 _ (v := ?v7) rfl (by kernel_rfl) (by kernel_rfl) (by kernel_rfl) (fun _ _ _ h => h) (by kernel_rfl) (by decide) HS0.out rfl (fun w0 hS0 => ?hy) ?_
  case hy =>
    go_simp
    with_reducible rfl
  simp only [Act.put]
  refine wpZ_one 5 _ rfl (by kernel_rfl) (fun KK hK => ?_)
  go_simp
  refine HI.out.mono ?_
  rintro e w1 ⟨rfl, hb1⟩
  clear HI
  dsimp only
  have c1 : w1.cell? ⟨wb, wo + 1, none⟩ = some (.string ⟨#[a, b, c, d]⟩) := (hb1.cell (p := ⟨wb, wo + 1, none⟩) hwb.lt).trans hw1
  refine hK.out _ _ (fun _ => c1) ?_
  clear hK
  have hwb1 := hwb.below hb1 (Nat.le_refl _)
  refine wpZ_one 8 _ rfl (by kernel_rfl) (fun KK hK => ?_)
  go_simp
  refine (HN.out _ _ _ hb1).mono ?_
  rintro e w2 ⟨x, rfl, hq, hh⟩
  clear HN
  have c2 : w2.cell? ⟨wb, wo + 1, none⟩ = some (.string ⟨#[a, b, c, d]⟩) := (cell_same (hh.keep wb 9 hwb1 rfl) _).trans c1
  dsimp only
  refine hK.out _ _ (fun _ => c2) ?_
  clear hK
  refine wpZ_take 9 _ (v := ?v9) rfl (by kernel_rfl) (by kernel_rfl) (by kernel_rfl) (fun _ _ _ h => h) (by kernel_rfl) (by decide) c2 rfl (fun w0 hS0 => ?hy) ?_
  case hy =>
    go_simp
    with_reducible rfl
  simp only [Act.put, List.setIfInBounds_toArray]
  refine wpZ_take 10 _ (v := ?v10) rfl (by kernel_rfl) (by kernel_rfl) (by kernel_rfl) (fun _ _ _ h => h) (by kernel_rfl) (by decide) c2 rfl (fun w0 hS0 => ?hy) ?_
  case hy =>
    go_simp
    with_reducible rfl
  simp only [Act.put]
  refine wpZ_take 11 _ (v := ?v11) rfl (by kernel_rfl) (by kernel_rfl) (by kernel_rfl) (fun _ _ _ h => h) (by kernel_rfl) (by decide) c2 rfl (fun w0 hS0 => ?hy) ?_
  case hy =>
    go_simp
    with_reducible rfl
  simp only [Act.put]
  refine wpZ_one 12 _ rfl (by kernel_rfl) (fun KK hK => ?_)
  go_simp
  refine hK.out _ _ (fun _ => c2) ?_
  clear hK
  refine wpZ_done (by kernel_rfl) ?_ _
  go_wp2
  all_goals
    go_ret2
    exact ⟨x, rfl, hq⟩
end Go.Proofs.YtgdfipmdmgkidaaGreatDoor

/- The calls of a world of one repository. -/
namespace Go.Proofs.YtgdfipmdmgkidaaGreatDoor
open Go.RowKit

section
variable {B pb rg cap gb : Nat} {pv : Value} {Ps : List PM} {fb fn : Nat} {f : ByteArray → Option ByteArray} {G : List Pid}

set_option maxRecDepth 100000 in
set_option maxHeartbeats 800000 in
theorem has26_zero {w : World} (h : OneAt w B pb rg cap gb pv Ps fb fn f G) : Calls Tryz.prog 42 #[.pointer (some ⟨pb, 0, none⟩), .int .i64 0] w fun e w' => e = .returned (.bool true) ∧ w' = w := by
  have c0 := h.c0
  clear h
  go_enter Tryz.func42, Tryz.ntmps42
  go_wp2
  go_ret
  exact ⟨rfl, rfl⟩

set_option maxRecDepth 100000 in
set_option maxHeartbeats 1600000 in
theorem do12_any {w : World} (h : OneAt w B pb rg cap gb pv Ps fb fn f G) (s : ByteArray) (hs : wordsOk s = true) (Q : ByteArray → Int → World → Prop)
    (hC : ∀ u va vc, Below w.heap.size w u → u.ownsRow w.heap.size 9 1 (.slice va (splitAll s).length vc) (splitAll s).length (strs (splitAll s)) → Calls Tryz.prog 45 #[.pointer (some ⟨pb, 0, none⟩), .pointer (some ⟨rg, 0, none⟩), .slice va (splitAll s).length vc] u fun e w' => ∃ x c, e = .returned (.tuple #[.string x, .int .i64 c]) ∧ Q x c w') :
    Calls Tryz.prog 17 #[.pointer (some ⟨pb, 0, none⟩), .int .i64 0, .string s] w fun e w' => ∃ x c, e = .returned (.tuple #[.string x, .int .i64 c]) ∧ Q x c w' := by
  have HH := has26_zero h
  have HA : Hid (Calls Tryz.prog 42 #[.pointer (some ⟨pb, 0, none⟩), .int .i64 0] w fun e w' => e = .returned (.bool true) ∧ w' = w) := HH
  have HW : Hid (Calls Tryz.prog 44 #[.string s] w fun e w' => ∃ va vc, e = .returned (.tuple #[.slice va (splitAll s).length vc, .bool true]) ∧ w'.ownsRow w.heap.size 9 1 (.slice va (splitAll s).length vc) (splitAll s).length (strs (splitAll s)) ∧ Below w.heap.size w w') := by
    have := words17_any s w
    rw [hs, (words_yes hs).1] at this
    refine this.mono ?_
    rintro e w' ⟨v, rfl, h1, h2⟩
    obtain ⟨va, vc, rfl⟩ := own_shape h1
    exact ⟨va, vc, rfl, h1, h2⟩
  have HO : Hid (OneAt w B pb rg cap gb pv Ps fb fn f G) := h
  have HC : Hid (∀ u va vc, Below w.heap.size w u → u.ownsRow w.heap.size 9 1 (.slice va (splitAll s).length vc) (splitAll s).length (strs (splitAll s)) → Calls Tryz.prog 45 #[.pointer (some ⟨pb, 0, none⟩), .pointer (some ⟨rg, 0, none⟩), .slice va (splitAll s).length vc] u fun e w' => ∃ x c, e = .returned (.tuple #[.string x, .int .i64 c]) ∧ Q x c w') := hC
  have hcap := h.cap1
  obtain ⟨n, hn⟩ : ∃ n, (splitAll s).length = n := ⟨_, rfl⟩
  rw [hn] at HW HC
  clear h HH hC hs hn
  go_enter Tryz.func17, Tryz.ntmps17
  go_wp2_with fail
  refine HA.out.mono ?_
  rintro e w0 ⟨rfl, rfl⟩
  clear HA
  go_wp2_with fail
  refine HW.out.mono ?_
  rintro e w1 ⟨va, vc, rfl, h1, h2⟩
  clear HW
  have hc := HC.out w1 va vc h2 h1
  have HC1 : Hid (Calls Tryz.prog 45 #[.pointer (some ⟨pb, 0, none⟩), .pointer (some ⟨rg, 0, none⟩), .slice va n vc] w1 fun e w' => ∃ x c, e = .returned (.tuple #[.string x, .int .i64 c]) ∧ Q x c w') := hc
  have c0 := (HO.out.below h2).c0
  clear HC hc h1 h2
  go_wp2_with fail
  refine HC1.out.mono ?_
  rintro e w2 ⟨x, c, rfl, hq⟩
  clear HC1
  go_wp2
  go_ret2
  exact ⟨x, c, rfl, hq⟩

set_option maxRecDepth 100000 in
set_option maxHeartbeats 1600000 in
theorem kept13_alive {w : World} (h : OneAt w B pb rg cap gb pv Ps fb fn f G) {st : Nat → Nat → ByteArray → PL} {cnt : Nat → Nat} (hs : Stands Ps st cnt) (hPs : Ps.length ≤ 1000) (x : ByteArray) (hx : x.size ≤ 1000) (hnm : nameB x = true) (hal : (st Ps.length 0 x).alive = true) (hS : (st Ps.length 0 x).S.length ≤ 1000000) (hT : (rowText (st Ps.length 0 x).S).size ≤ 1000000000) :
    Calls Tryz.prog 18 #[.pointer (some ⟨pb, 0, none⟩), .int .i64 0, .string x] w fun e w' => e = .returned (.tuple #[.string (rowText (st Ps.length 0 x).S), .int .i64 0]) ∧ Below w.heap.size w w' := by
  have HA : Hid (Calls Tryz.prog 42 #[.pointer (some ⟨pb, 0, none⟩), .int .i64 0] w fun e w' => e = .returned (.bool true) ∧ w' = w) := has26_zero h
  have HK : Hid (Calls Tryz.prog 46 #[.pointer (some ⟨rg, 0, none⟩), .string x] w fun e w' => e = .returned (.tuple #[.string (rowText (st Ps.length 0 x).S), .int .i64 0]) ∧ Below w.heap.size w w') :=
    keptText30_alive Ps pv st cnt rg 0 x w h.view (fun u hu v hv => hs.grows ((h.view.below hu (Nat.le_refl _)).below hv (Nat.le_refl _))) (by omega) h.r0 h.lts.2.1 (by omega) hnm hal hS hT
  have c0 := h.c0
  have hcap := h.cap1
  obtain ⟨T, hTe⟩ : ∃ T, rowText (st Ps.length 0 x).S = T := ⟨_, rfl⟩
  rw [hTe] at HK ⊢
  clear h hs hal hS hT hTe
  go_enter Tryz.func18, Tryz.ntmps18
  go_wp2_with fail
  refine HA.out.mono ?_
  rintro e w0 ⟨rfl, rfl⟩
  clear HA
  go_wp2_with fail
  refine HK.out.mono ?_
  rintro e w1 ⟨rfl, h2⟩
  clear HK
  go_wp2
  go_ret2
  exact ⟨rfl, h2⟩
end
end Go.Proofs.YtgdfipmdmgkidaaGreatDoor

/- A file is written. -/
namespace Go.Proofs.YtgdfipmdmgkidaaGreatDoor
open Go.RowKit

set_option maxRecDepth 100000 in
set_option maxHeartbeats 3200000 in
theorem write27_yes (f : ByteArray → Option ByteArray) (fb fn rb ro : Nat) (name text : ByteArray) (w : World) (h : FK w fb f fn) (hfn : fn ≤ 1000) (hr : w.cell? ⟨rb, ro + 1, none⟩ = some (.map (some fb))) (hrb : rb < w.heap.size) (hs : name.size ≤ 1000) (hn : nameB name = true) (hl : linesOk text = true) (hf : (f name).isSome = true ∨ fn < 5) :
    Calls Tryz.prog 43 #[.pointer (some ⟨rb, ro, none⟩), .string name, .string text] w fun e w' => e = .returned (.int .i64 0) ∧ ∃ u, Below w.heap.size w u ∧ FK w' fb (fun x => if x = name then some text else f x) (fn + 1) ∧ u.grownBy w' (some fb) := by
  have HN : Hid (Calls Tryz.prog 61 #[.string name] w fun e w' => e = .returned (.bool true) ∧ Below w.heap.size w w') := by
    have := isName42_any name w
    rw [hn] at this
    exact this
  have HL : Hid (∀ u, Calls Tryz.prog 62 #[.string text] u fun e w' => ∃ va vn vc, e = .returned (.tuple #[.slice va vn vc, .bool true]) ∧ Below u.heap.size u w') := fun u => by
    have := lines12_any text u
    rw [hl] at this
    refine this.mono ?_
    rintro e w' ⟨v, rfl, h1, h2⟩
    obtain ⟨va, vc, rfl⟩ := own_shape h1
    exact ⟨va, _, vc, rfl, h2⟩
  have HF : Hid (FK w fb f fn) := h
  have hfb := h.lt
  clear hn hl h
  go_enter Tryz.func43, Tryz.ntmps43
  go_wp2_with fail
  refine HN.out.mono ?_
  rintro e w1 ⟨rfl, hb1⟩
  clear HN
  have hs1 := hb1.size
  go_wp2_with fail
  refine (HL.out w1).mono ?_
  rintro e w2 ⟨va, vn, vc, rfl, hb2⟩
  clear HL
  have hb02 : Below w.heap.size w w2 := hb1.trans (hb2.mono hs1)
  have hs2 := hb02.size
  have c2 : w2.cell? ⟨rb, ro + 1, none⟩ = some (.map (some fb)) := (hb02.cell (p := ⟨rb, ro + 1, none⟩) hrb).trans hr
  have hF2 : FK w2 fb f fn := HF.out.same (hb02.block fb hfb)
  have hlk := hF2.look name (by omega)
  obtain ⟨t, ht⟩ : ∃ t, (f name).getD ⟨#[]⟩ = t := ⟨_, rfl⟩
  obtain ⟨w3, hw3⟩ : ∃ w3, w3 = w2.alloc (.cells #[.string t] 105) := ⟨_, rfl⟩
  have hb23 : Below w2.heap.size w2 w3 := by rw [hw3]; exact (Below.refl _ _).alloc (Nat.le_refl _) _
  have hF3 : FK w3 fb f fn := hF2.same (hb23.block fb (by omega))
  have c3 : w3.cell? ⟨rb, ro + 1, none⟩ = some (.map (some fb)) := (hb23.cell (p := ⟨rb, ro + 1, none⟩) (by show rb < _; omega)).trans c2
  obtain ⟨w4, hup, hF4, hg4⟩ := hF3.put (by omega) name text (by omega)
  have HB3 : Hid (Below w.heap.size w w3) := hb02.trans (hb23.mono hs2)
  rw [ht] at hlk
  unfold fileS at hlk hup
  have HF4 : Hid (FK w4 fb (fun x => if x = name then some text else f x) (fn + 1)) := hF4
  have HG4 : Hid (w3.grownBy w4 (some fb)) := hg4
  have hlen : ∃ m : Nat, m ≤ fn ∧ ∀ ty, (Builtin.len_ #[85] ty #[.map (some fb)]).run Tryz.prog w3 = .ok (.int .i64 (m : Nat)) w3 := by
    obtain ⟨D, h1, _⟩ := hF3
    exact ⟨Maps.size D, h1.size_le, fun ty => h1.len Tryz.underlying85 ty⟩
  obtain ⟨m, hm, hlen⟩ := hlen
  have hlen3 := hlen 3
  rw [hw3] at c3 hlen3 hup
  clear hF2 hF3 hF4 hg4 hb23 hb02 hb2 hb1 ht hlen
  cases hth : (f name).isSome
  · rw [hth] at hlk hf
    have h5 : fn < 5 := hf.resolve_left (by simp)
    have h5b : decide ((5 : Int) ≤ (m : Int)) = false := by simp; omega
    clear hf hth
    go_wp2
    go_ret
    exact ⟨rfl, w3, HB3.out, HF4.out, HG4.out⟩
  · rw [hth] at hlk
    clear hf hth
    go_wp2
    go_ret
    exact ⟨rfl, w3, HB3.out, HF4.out, HG4.out⟩

end Go.Proofs.YtgdfipmdmgkidaaGreatDoor

/- A new world of one repository. -/
namespace Go.Proofs.YtgdfipmdmgkidaaGreatDoor
open Go.RowKit

theorem Tryz.info87 : (Tryz.prog.info? 87).map (fun i => (i.zero, i.size, i.bytes)) = some (some (.agg #[.slice none 0 0, .map none]), 2, 32) := by kernel_rfl
set_option maxRecDepth 100000 in
set_option maxHeartbeats 1600000 in
theorem newRepo25_any (w : World) :
    Calls Tryz.prog 41 #[] w fun e w' => ∃ fb, e = .returned (.agg #[.slice none 0 0, .map (some fb)]) ∧ w.heap.size ≤ fb ∧ FK w' fb (fun _ => none) 0 ∧ Below w.heap.size w w' := by
  have hmm : ∀ w, (Instr.makeMap 85 none).run Tryz.prog w = .ok (.map (some w.heap.size)) (w.alloc (.map #[] 0)) := fun _ => by kernel_rfl
  obtain ⟨w2, hw2⟩ : ∃ w2, w2 = (w.alloc (.cells #[.slice none 0 0, .map (some (w.heap.size + 1))] 87)).alloc (.map #[] 0) := ⟨_, rfl⟩
  obtain ⟨hb2, hs2, hk2, hf2⟩ := two_blocks' w _ _ hw2
  have hF : FK w2 (w.heap.size + 1) (fun _ => none) 0 := by
    have := FK.made (w.alloc (.cells #[.slice none 0 0, .map (some (w.heap.size + 1))] 87))
    simp only [World.size_alloc] at this
    rw [hw2]
    exact this
  have HF : Hid (FK w2 (w.heap.size + 1) (fun _ => none) 0) := hF
  clear hs2 hf2 hF
  go_enter Tryz.func41, Tryz.ntmps41
  go_wp2
  rw [← hw2]
  refine bodyPost_ret (results_cell_row (p := 0) (ty := 87) (by kernel_rfl) _ _ w.heap.size 87 _ (0, 0) _ rfl hk2 Tryz.underlying87 rfl (by kernel_rfl)) rfl ?_
  exact ⟨w.heap.size + 1, rfl, by omega, HF.out, hb2⟩

set_option maxRecDepth 100000 in
set_option maxHeartbeats 6400000 in
theorem new10_one (w : World) :
    Calls Tryz.prog 15 #[.int .i64 1] w fun e w' => ∃ pb rg cap gb fb, e = .returned (.tuple #[.pointer (some ⟨pb, 0, none⟩), .int .i64 0]) ∧ OneAt w' w.heap.size pb rg cap gb (.slice none 0 0) [] fb 0 (fun _ => none) [] ∧ Below w.heap.size w w' := by
  obtain ⟨i0, hi0, hz0, hz1, hz2⟩ := info_parts Tryz.info87
  have hmm : ∀ w, (Instr.makeMap 80 none).run Tryz.prog w = .ok (.map (some w.heap.size)) (w.alloc (.map #[] 0)) := fun _ => by kernel_rfl
  obtain ⟨w1, hw1⟩ : ∃ w1, w1 = (w.alloc (.map #[] 0)).alloc (.cells #[.slice none 0 0, .map (some w.heap.size)] 83) := ⟨_, rfl⟩
  obtain ⟨hb1, hs1, hm1, hk1⟩ := two_blocks' w _ _ hw1
  have hG1 : GAt w1 w.heap.size [] := by
    have := GAt.made w
    refine this.same ?_
    rw [hw1, Below.heap_alloc _ _ _ (by simp)]
  have HG1 : Hid (GAt w1 w.heap.size []) := hG1
  have HK1 : Hid (w1.heap[w.heap.size + 1]? = some (.cells #[.slice none 0 0, .map (some w.heap.size)] 83 (0, 0))) := hk1
  have HB1 : Hid (Below w.heap.size w w1) := hb1
  have hs1' : w.heap.size + 1 < w1.heap.size := by omega
  have hs1'' : w1.heap.size ≤ w.heap.size + 2 := by omega
  clear hG1 hk1 hb1 hm1 hs1
  go_enter Tryz.func15, Tryz.ntmps15
  go_wp2
  rw [← hw1]
  clear hw1
  go_loopw [15] (fun x wr => (x = .int .i64 0 ∧ wr = w1) ∨ (x = .int .i64 1 ∧ Hid (∃ rg cap fb, OneAt wr w.heap.size (w.heap.size + 1) rg cap w.heap.size (.slice none 0 0) [] fb 0 (fun _ => none) [] ∧ Below w.heap.size w wr))) (fun x _ => 1 - (intOf x).toNat)
  case atStart => exact .inl ⟨rfl, rfl⟩
  case round =>
    rcases hrel with ⟨rfl, rfl⟩ | ⟨rfl, HO⟩
    · have HS1 : Hid (wr.drew.cell? ⟨w.heap.size + 1, 0, none⟩ = some (.slice none 0 0)) := by show wr.cell? _ = _; simp [World.cell?, HK1.out]
      have HN : Hid (Calls Tryz.prog 41 #[] wr.drew fun e w' => ∃ fb, e = .returned (.agg #[.slice none 0 0, .map (some fb)]) ∧ wr.heap.size ≤ fb ∧ FK w' fb (fun _ => none) 0 ∧ Below wr.heap.size wr w') := (newRepo25_any wr.drew).mono fun e w' ⟨fb, h1, h2, h3, h4⟩ => ⟨fb, h1, h2, h3, (Below.refl _ _).drew.trans h4⟩
      go_wp2_with fail
      refine wp_region_Z (fun w' => w'.cell? ⟨w.heap.size + 1, 0, none⟩ = some (.slice none 0 0)) 10 (by kernel_rfl) ?_
      refine wpZ_take 0 _ (v := ?v0) rfl (by kernel_rfl) (by kernel_rfl) (by kernel_rfl) (fun _ _ _ h => h) (by kernel_rfl) (by decide) HS1.out rfl (fun w0 hS0 => ?hy) ?_
      case hy =>
        go_simp
        with_reducible rfl
      simp only [Act.put, List.setIfInBounds_toArray]
      refine wpZ_take 1 _ (v := ?v1) rfl (by kernel_rfl) (by kernel_rfl) (by kernel_rfl) (fun _ _ _ h => h) (by kernel_rfl) (by decide) HS1.out rfl (fun w0 hS0 => ?hy) ?_
      case hy =>
        go_simp
        with_reducible rfl
      simp only [Act.put]
      refine wpZ_take 2 _ (v := ?v2) rfl (by kernel_rfl) (by kernel_rfl) (by kernel_rfl) (fun _ _ _ h => h) (by kernel_rfl) (by decide) HS1.out rfl (fun w0 hS0 => ?hy) ?_
      case hy =>
        go_simp
        with_reducible rfl
      simp only [Act.put]
      refine wpZ_take 3 _ (v := ?v3) rfl (by kernel_rfl) (by kernel_rfl) (by kernel_rfl) (fun _ _ _ h => h) (by kernel_rfl) (by decide) HS1.out rfl (fun w0 hS0 => ?hy) ?_
      case hy =>
        go_simp
        with_reducible rfl
      simp only [Act.put]
      refine wpZ_take 4 _ (v := ?v4) rfl (by kernel_rfl) (by kernel_rfl) (by kernel_rfl) (fun _ _ _ h => h) (by kernel_rfl) (by decide) HS1.out rfl (fun w0 hS0 => ?hy) ?_
      case hy =>
        go_simp
        with_reducible rfl
      simp only [Act.put]
      refine wpZ_one 5 _ rfl (by kernel_rfl) (fun KK hK => ?_)
      go_simp
      refine HN.out.mono ?_
      rintro e w2 ⟨fb, rfl, hfb, hF2, hb2⟩
      clear HN
      have hk2 := (hb2.block _ hs1').trans HK1.out
      have hs2 := hb2.size
      dsimp only
      refine hK.out _ _ (fun _ => by simp [World.cell?, hk2]) ?_
      clear hK
      refine wpZ_one 6 _ rfl (by kernel_rfl) (fun KK hK => ?_)
      go_simp
      have hb23 : Below w2.heap.size w2 (w2.alloc (.cells #[.slice none 0 0, .map (some fb)] 87)) := (Below.refl _ _).alloc (Nat.le_refl _) _
      have hk3 := (hb23.block _ (by omega)).trans hk2
      refine hK.out _ _ (fun _ => by simp [World.cell?, hk3]) ?_
      clear hK
      refine wpZ_one 7 _ rfl (by kernel_rfl) (fun KK hK => ?_)
      refine step_append_lies _ (by rfl) _ _ _ (by rfl) w.heap.size 87 i0 _ 2 32 Tryz.underlying81 hi0 hz0 hz1 hz2 rfl (by omega) (.slice none 0 0) 0 [] (by rfl) (World.ownsRow_nil _ _ _ _) ⟨w2.heap.size, 0, none⟩ 1 1 [.slice none 0 0, .map (some fb)] (by rfl) (by rfl) (World.news_of_block (cs := #[.slice none 0 0, .map (some fb)]) (t := 87) (fr := (0, 0)) (heap_alloc_new w2 _)) (by simp [Value.oneCell']) (by omega) (by unfold maxLen; omega) (by omega) (by simp; omega) (w2.heap.size + 1) (by simp) ?_
      intro g cp wa hownA hgrA hatA hltA
      have farA : ∀ k, k < w2.heap.size → wa.heap[k]? = w2.heap[k]? := fun k hk => (hgrA.block k (by simp; omega) (by simp [Value.ownBlock])).trans (hb23.block k hk)
      have hkA := (farA _ (by omega)).trans hk2
      have rA : wa.cell? ⟨w.heap.size + 1, 0, none⟩ = some (.slice none 0 0) := by simp [World.cell?, hkA]
      have zA := free3 hkA 0
      refine hK.out _ _ (fun _ => rA) ?_
      clear hK
      simp only [Act.put, List.setIfInBounds_toArray]
      refine wpZ_one 8 _ rfl (by kernel_rfl) (fun KK hK => ?_)
      go_simp
      refine hK.out _ _ (fun _ => rA) ?_
      clear hK
      refine wpZ_one 9 _ rfl (by kernel_rfl) (fun KK hK => ?_)
      go_simp
      refine hK.out _ _ (fun _ => rA) ?_
      clear hK
      refine wpZ_one 10 _ rfl (by kernel_rfl) (fun KK hK => ?_)
      go_simp
      refine hK.out _ _ (fun h => absurd rfl h) ?_
      clear hK
      refine wpZ_done (by kernel_rfl) ?_ _
      have HO : Hid (∃ rg cap fb, OneAt (wa.setCell ⟨w.heap.size + 1, 0, none⟩ (.slice (some ⟨g, 0, none⟩) (0 + 1) cp)) w.heap.size (w.heap.size + 1) rg cap w.heap.size (.slice none 0 0) [] fb 0 (fun _ => none) [] ∧ Below w.heap.size w (wa.setCell ⟨w.heap.size + 1, 0, none⟩ (.slice (some ⟨g, 0, none⟩) (0 + 1) cp))) := by
        have hg : w2.heap.size ≤ g := by
          rcases hatA with h | h
          · simp [Value.ownBlock] at h
          · omega
        have hset : ∀ k, k ≠ w.heap.size + 1 → (wa.setCell ⟨w.heap.size + 1, 0, none⟩ (.slice (some ⟨g, 0, none⟩) (0 + 1) cp)).heap[k]? = wa.heap[k]? := fun k hk => Below.heap_setCell _ _ _ _ hk
        rcases hownA.2 with ⟨h1, _⟩ | ⟨g', cp', cur, h1, hbase, hgc, hn1, hcm, hcs, htk⟩
        · cases h1
        · cases h1
          have hlt := HG1.out.lt
          refine ⟨g, cp, fb, ⟨⟨by omega, by omega, by omega, by omega⟩, heap_setCell_same wa _ 0 _ 83 _ hkA, ⟨cur, (hset g (by omega)).trans hgc, ?_, ?_⟩, HG1.out.same ((hset _ (by omega)).trans ((farA _ (by omega)).trans (hb2.block _ (by omega)))), World.ownsRow_nil _ _ _ _, by simp, hF2.same ((hset fb (by omega)).trans (farA fb hF2.lt)), by omega, by omega⟩, ?_⟩
          · have : cur.toList[0]? = some (.slice none 0 0) := by
              have h0 : (cur.toList.take ((0 + 1) * 2))[0]? = some (.slice none 0 0) := by rw [htk]; rfl
              rwa [List.getElem?_take_of_lt (by omega)] at h0
            simpa using this
          · have : cur.toList[1]? = some (.map (some fb)) := by
              have h0 : (cur.toList.take ((0 + 1) * 2))[1]? = some (.map (some fb)) := by rw [htk]; rfl
              rwa [List.getElem?_take_of_lt (by omega)] at h0
            simpa using this
          · have hsA := hgrA.size
            simp at hsA
            refine ⟨hgrA.os.trans (hb2.os.trans HB1.out.os), hgrA.tape.trans (hb2.tape.trans HB1.out.tape), hgrA.output.trans (hb2.output.trans HB1.out.output), by simp [World.setCell]; omega, fun k hk => ?_⟩
            exact (hset k (by omega)).trans ((farA k (by omega)).trans ((hb2.block k (by omega)).trans (HB1.out.block k hk)))
      clear hownA hgrA hatA hltA farA hkA rA zA hk2 hk3 hb23 hb2 hF2 HS1
      go_wp2
      go_roundw
      case rel => exact .inr ⟨by go_num, HO⟩
      case measure => simp [intOf]
    · obtain ⟨rg, cap, fb, hO, hB⟩ := HO.out
      have HO2 : Hid (OneAt wr w.heap.size (w.heap.size + 1) rg cap w.heap.size (.slice none 0 0) [] fb 0 (fun _ => none) []) := hO
      clear HO hO
      go_wp2
      go_ret2
      exact ⟨_, rg, cap, _, fb, rfl, HO2.out, hB⟩
end Go.Proofs.YtgdfipmdmgkidaaGreatDoor

/- Told's own reckoning of what two lists of lines have in common. -/
namespace Go.Proofs.YtgdfipmdmgkidaaGreatDoor
open Go.RowKit

/-- Two rows of the table: the one that is done and the next. -/
structure Two (w wr : World) (m a b : Nat) (f g : Nat → Nat) : Prop where
  la : w.heap.size ≤ a
  lb : a < b
  ls : b < wr.heap.size
  ra : wr.heap[a]? = some (.cells (fnA (m + 1) (fun j => .int .i64 (f j : Nat))) 3 (0, 0))
  rb : wr.heap[b]? = some (.cells (fnA (m + 1) (fun j => .int .i64 (g j : Nat))) 3 (0, 0))
  bel : Below w.heap.size w wr
structure One (w wr : World) (m a : Nat) (f : Nat → Nat) : Prop where
  la : w.heap.size ≤ a
  ls : a < wr.heap.size
  ra : wr.heap[a]? = some (.cells (fnA (m + 1) (fun j => .int .i64 (f j : Nat))) 3 (0, 0))
  bel : Below w.heap.size w wr
theorem Two.put {w wr : World} {m a b : Nat} {f g g' : Nat → Nat} (h : Two w wr m a b f g) (j v : Nat) (hj : j ≤ m) (hg : ∀ c, c ≤ m → g' c = if c = j then v else g c) (u : Int) (hu : u = (v : Int)) : Two w (wr.setCell ⟨b, j, none⟩ (.int .i64 u)) m a b f g' := by
  subst hu
  have hla := h.la
  have hlb := h.lb
  refine ⟨hla, hlb, by simpa [World.setCell] using h.ls, (Below.heap_setCell _ _ _ _ (by simp; omega)).trans h.ra, ?_, h.bel.setCell (p := ⟨b, j, none⟩) (by simp; omega) _⟩
  rw [heap_setCell_same wr b j _ 3 _ h.rb, fnA_set (m + 1) _ (fun j => .int .i64 (g' j : Nat)) j _ (by omega) (fun c hc => by
    rw [hg c (by omega)]
    by_cases e : c = j <;> simp [e])]
theorem Two.drew {w wr : World} {m a b : Nat} {f g : Nat → Nat} (h : Two w wr m a b f g) : Two w wr.drew m a b f g := ⟨h.la, h.lb, h.ls, h.ra, h.rb, h.bel.drew⟩
theorem Two.drewN {w wr : World} {m a b : Nat} {f g : Nat → Nat} (h : Two w wr m a b f g) (q : Nat) : Two w (wr.drewN q) m a b f g := ⟨h.la, h.lb, h.ls, h.ra, h.rb, below_drewN h.bel q⟩
theorem One.start {w : World} {m : Nat} : One w (w.alloc (.cells (fnA (m + 1) (fun _ => .int .i64 0)) 3)) m w.heap.size (fun _ => 0) :=
  ⟨Nat.le_refl _, by simp, by rw [(MapKept.heap_alloc w _).1]; rfl, (Below.refl _ _).alloc (Nat.le_refl _) _⟩
theorem One.more {w wr : World} {m a : Nat} {f : Nat → Nat} (h : One w wr m a f) : Two w (wr.alloc (.cells (fnA (m + 1) (fun _ => .int .i64 0)) 3)) m a wr.heap.size f (fun _ => 0) :=
  ⟨h.la, h.ls, by simp, (Below.heap_alloc wr _ _ h.ls).trans h.ra, by rw [(MapKept.heap_alloc wr _).1]; rfl, h.bel.alloc (by have := h.la; have := h.ls; omega) _⟩
theorem Two.one {w wr : World} {m a b : Nat} {f g f' : Nat → Nat} (h : Two w wr m a b f g) (hf : ∀ c, c ≤ m → g c = f' c) : One w wr m b f' :=
  ⟨by have := h.la; have := h.lb; omega, h.ls, by rw [h.rb]; congr 2; exact fnA_congr _ _ _ fun c hc => by rw [hf c (by omega)], h.bel⟩
theorem One.congr {w wr : World} {m a : Nat} {f f' : Nat → Nat} (h : One w wr m a f) (hf : ∀ c, c ≤ m → f c = f' c) : One w wr m a f' :=
  ⟨h.la, h.ls, by rw [h.ra]; congr 2; exact fnA_congr _ _ _ fun c hc => by rw [hf c (by omega)], h.bel⟩
theorem Two.congr {w wr : World} {m a b : Nat} {f g g' : Nat → Nat} (h : Two w wr m a b f g) (hf : ∀ c, c ≤ m → g c = g' c) : Two w wr m a b f g' :=
  ⟨h.la, h.lb, h.ls, h.ra, by rw [h.rb]; congr 2; exact fnA_congr _ _ _ fun c hc => by rw [hf c (by omega)], h.bel⟩
end Go.Proofs.YtgdfipmdmgkidaaGreatDoor
