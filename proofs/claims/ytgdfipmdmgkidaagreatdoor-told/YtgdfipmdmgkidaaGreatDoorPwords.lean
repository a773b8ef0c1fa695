/- The contract of parse.Words. -/
import Derived.Test.YtgdfipmdmgkidaaGreatDoorPnew
import Derived.Test.YtgdfipmdmgkidaaGreatDoorWcomm
import Derived.Test.YtgdfipmdmgkidaaGreatDoorWref
namespace Go.Proofs.YtgdfipmdmgkidaaGreatDoor
open Go.RowKit

def wordsOk (s : ByteArray) : Bool := decide (rcf s 0 ≤ 120) && cmdB (splitAll s)
def wordsOf (s : ByteArray) : List ByteArray := if wordsOk s = true then splitAll s else []
def wordsErr (s : ByteArray) : Int := if wordsOk s = true then 0 else 6

theorem words_no {s : ByteArray} (h : wordsOk s = false) : wordsOf s = [] ∧ wordsErr s = 6 := by unfold wordsOf wordsErr; rw [h]; simp
theorem words_yes {s : ByteArray} (h : wordsOk s = true) : wordsOf s = splitAll s ∧ wordsErr s = 0 := by unfold wordsOf wordsErr; rw [h]; simp
theorem words_long {s : ByteArray} (h : 120 < rcf s 0) : wordsOk s = false := by
  unfold wordsOk
  have : decide (rcf s 0 ≤ 120) = false := by simpa using h
  rw [this]; rfl
theorem words_short {s : ByteArray} (h : ¬ 120 < rcf s 0) : wordsOk s = cmdB (splitAll s) := by
  unfold wordsOk
  have : decide (rcf s 0 ≤ 120) = true := by simpa using h
  rw [this]; rfl
theorem small_of {s : ByteArray} (h : ¬ 120 < rcf s 0) : s.size ≤ 480 := by
  have := size_runes s s.size 0 (by omega)
  omega
theorem own_cap {w : World} {B n size cap : Nat} {e : TypeId} {ao : Option Addr} {xs : List Value} (h : w.ownsRow B e size (.slice ao n cap) n xs) : n ≤ cap := by
  rcases h.2 with ⟨h1, rfl⟩ | ⟨g, cap', cur, h1, _, _, h3, _⟩
  · omega
  · cases h1
    exact h3

set_option maxRecDepth 100000 in
set_option maxHeartbeats 800000 in
theorem words17_any (s : ByteArray) (w : World) :
    Calls Tryz.prog 44 #[.string s] w fun e w' => ∃ v, e = .returned (.tuple #[v, .bool (wordsOk s)]) ∧ w'.ownsRow w.heap.size 9 1 v (wordsOf s).length (strs (wordsOf s)) ∧ Below w.heap.size w w' := by
  by_cases h120 : 120 < rcf s 0
  · have hno := words_long h120
    have HO : Hid (decide (120 < rcf s 0) = true) := by show _ = _; simpa using h120
    rw [(words_no hno).1, hno]
    clear hno h120
    go_enter Tryz.func44, Tryz.ntmps44
    go_wp2_with (go_at_call 63; refine (over_any _ 120 _ (by omega)).mono ?_; rw [HO.out]; rintro e w' ⟨rfl, q, rfl⟩)
    go_ret2
    exact ⟨_, rfl, World.ownsRow_nil _ _ _ _, (Below.refl _ _).alloc (Nat.le_refl _) _⟩
  · have HO : Hid (decide (120 < rcf s 0) = false) := by show _ = _; simpa using h120
    have hsm := small_of h120
    have hlen := splitAll_len s
    have HW := words_short h120
    clear h120
    cases hk : cmdB (splitAll s)
    · rw [hk] at HW
      rw [(words_no HW).1, HW]
      have HK : Hid (cmdB (splitAll s) = false) := hk
      clear hk HW
      go_enter Tryz.func44, Tryz.ntmps44
      go_wp2_with fail
      refine (over_any _ 120 _ (by omega)).mono ?_
      rw [HO.out]
      rintro e w' ⟨rfl, q, rfl⟩
      have hw1 : Below w.heap.size w (w.iter s q) := (Below.refl _ _).alloc (Nat.le_refl _) _
      generalize w.iter s q = w1 at *
      go_wp2_with fail
      refine (split25_any s w1 (by omega)).mono ?_
      rintro e w2 ⟨v, rfl, hown, hb2⟩
      obtain ⟨ao, cap, rfl⟩ := own_shape hown
      have hcap := own_cap hown
      have hv := View.own hown
      go_wp2_with fail
      refine (cmd26_any _ ao cap w2 hv hcap (by omega)).mono ?_
      rw [HK.out]
      rintro e w3 ⟨rfl, hb3⟩
      go_wp2
      go_ret2
      have hs1 := hw1.size
      have hs2 := hb2.size
      exact ⟨_, rfl, World.ownsRow_nil _ _ _ _, hw1.trans ((hb2.mono hs1).trans (hb3.mono (by omega)))⟩
    · rw [hk] at HW
      rw [(words_yes HW).1, HW]
      have HK : Hid (cmdB (splitAll s) = true) := hk
      clear hk HW
      go_enter Tryz.func44, Tryz.ntmps44
      go_wp2_with fail
      refine (over_any _ 120 _ (by omega)).mono ?_
      rw [HO.out]
      rintro e w' ⟨rfl, q, rfl⟩
      have hw1 : Below w.heap.size w (w.iter s q) := (Below.refl _ _).alloc (Nat.le_refl _) _
      generalize w.iter s q = w1 at *
      go_wp2_with fail
      refine (split25_any s w1 (by omega)).mono ?_
      rintro e w2 ⟨v, rfl, hown, hb2⟩
      obtain ⟨ao, cap, rfl⟩ := own_shape hown
      have hcap := own_cap hown
      have hv := View.own hown
      go_wp2_with fail
      refine (cmd26_any _ ao cap w2 hv hcap (by omega)).mono ?_
      rw [HK.out]
      rintro e w3 ⟨rfl, hb3⟩
      go_wp2
      go_ret2
      have hs1 := hw1.size
      have hs2 := hb2.size
      exact ⟨_, rfl, ownsRow_mono (own_below hown hb3 (Nat.le_refl _)) hs1, hw1.trans ((hb2.mono hs1).trans (hb3.mono (by omega)))⟩
end Go.Proofs.YtgdfipmdmgkidaaGreatDoor

/- A command is carried out: record of all, new. -/
namespace Go.Proofs.YtgdfipmdmgkidaaGreatDoor
open Go.RowKit

abbrev wdRecord : ByteArray := ⟨#[114, 101, 99, 111, 114, 100]⟩
abbrev wdNew : ByteArray := ⟨#[110, 101, 119]⟩

set_option maxRecDepth 100000 in
set_option maxHeartbeats 3200000 in
theorem carry29_new (pb rg wb wo wn wc : Nat) (w : World) (Q : ByteArray → World → Prop) (hw : w.cell? ⟨wb, wo, none⟩ = some (.string wdNew)) (hwn : 1 ≤ wn)
    (hN : Calls Tryz.prog 66 #[.pointer (some ⟨rg, 0, none⟩)] w fun e w' => ∃ x, e = .returned (.string x) ∧ Q x w') :
    Calls Tryz.prog 45 #[.pointer (some ⟨pb, 0, none⟩), .pointer (some ⟨rg, 0, none⟩), .slice (some ⟨wb, wo, none⟩) wn wc] w fun e w' => ∃ x, e = .returned (.tuple #[.string x, .int .i64 0]) ∧ Q x w' := by
  have HN : Hid (Calls Tryz.prog 66 #[.pointer (some ⟨rg, 0, none⟩)] w fun e w' => ∃ x, e = .returned (.string x) ∧ Q x w') := hN
  clear hN
  have h0 : (0 : Int) < (wn : Int) := by omega
  go_enter Tryz.func45, Tryz.ntmps45
  go_wp2_with fail
  refine HN.out.mono ?_
  rintro e w' ⟨x, rfl, hq⟩
  clear HN
  go_wp2
  go_ret2
  exact ⟨x, rfl, hq⟩

set_option maxRecDepth 100000 in
set_option maxHeartbeats 3200000 in
theorem carry29_record (pb rg wb wo wc : Nat) (a b c d : UInt8) (w : World) (cd : Int) (Q : ByteArray → World → Prop) (hw : w.cell? ⟨wb, wo, none⟩ = some (.string wdRecord)) (hw1 : w.cell? ⟨wb, wo + 1, none⟩ = some (.string ⟨#[a, b, c, d]⟩)) (hwb : TB w wb 9) (hwc : 2 ≤ wc)
    (hN : ∀ u na nc, Below w.heap.size w u → Calls Tryz.prog 72 #[.pointer (some ⟨pb, 0, none⟩), .pointer (some ⟨rg, 0, none⟩), .agg #[.int .u8 a.toNat, .int .u8 b.toNat, .int .u8 c.toNat, .int .u8 d.toNat], .slice na 0 nc] u fun e w' => ∃ x, e = .returned (.tuple #[.string x, .int .i64 cd]) ∧ Q x w' ∧ HeldT (· = 9) u w') :
    Calls Tryz.prog 45 #[.pointer (some ⟨pb, 0, none⟩), .pointer (some ⟨rg, 0, none⟩), .slice (some ⟨wb, wo, none⟩) 2 wc] w fun e w' => ∃ x, e = .returned (.tuple #[.string x, .int .i64 cd]) ∧ Q x w' := by
  have HN : Hid (∀ u na nc, Below w.heap.size w u → Calls Tryz.prog 72 #[.pointer (some ⟨pb, 0, none⟩), .pointer (some ⟨rg, 0, none⟩), .agg #[.int .u8 a.toNat, .int .u8 b.toNat, .int .u8 c.toNat, .int .u8 d.toNat], .slice na 0 nc] u fun e w' => ∃ x, e = .returned (.tuple #[.string x, .int .i64 cd]) ∧ Q x w' ∧ HeldT (· = 9) u w') := hN
  have HI : Hid (Calls Tryz.prog 70 #[.string ⟨#[a, b, c, d]⟩] w.drew fun e w' => e = .returned (.agg #[.int .u8 a.toNat, .int .u8 b.toNat, .int .u8 c.toNat, .int .u8 d.toNat]) ∧ Below w.heap.size w w') := (idOf51_any a b c d w.drew).mono fun e w' h => ⟨h.1, (Below.refl _ w).drew.trans h.2⟩
  have HS0 : Hid (w.drew.cell? ⟨wb, wo + 1, none⟩ = some (.string ⟨#[a, b, c, d]⟩)) := hw1
  clear hN
  have j1 : (2 : Int) ≤ (wc : Int) := by omega
  have j2 : (wc : Int) ≤ (wc : Int) := Int.le_refl _
  go_enter Tryz.func45, Tryz.ntmps45
  go_wp2_with fail
  refine wp_region_Z (fun w' => w'.cell? ⟨wb, wo + 1, none⟩ = some (.string ⟨#[a, b, c, d]⟩)) 99 (by kernel_rfl) ?_
  refine wpZ_take 0 _ (v := ?v0) rfl (by kernel_rfl) (by kernel_rfl) (by kernel_rfl) (fun _ _ _ h => h) (by kernel_rfl) (by decide) HS0.out rfl (fun w0 hS0 => ?hy) ?_
  case hy =>
    go_simp
    with_reducible rfl
  simp only [Act.put, List.setIfInBounds_toArray]
  refine wpZ_take 1 _ (v := ?v1) rfl (by kernel_rfl) (by kernel_rfl) (by kernel_rfl) (fun _ _ _ h => h) (by kernel_rfl) (by decide) HS0.out rfl (fun w0 hS0 => ?hy) ?_
  case hy =>
    go_simp
    with_reducible rfl
  simp only [Act.put]
  refine wpZ_take 2 _ (v := ?v2) rfl (by kernel_rfl) (by kernel_rfl) (by kernel_rfl) (fun _ _ _ h => h) (by kernel_rfl) (by decide) HS0.out rfl (fun w0 hS0 => ?hy) ?_
  case hy =>
    go_simp
    with_reducible rfl
  simp only [Act.put]
  refine wpZ_take 3 _ (v := ?v3) rfl (by kernel_rfl) (by kernel_rfl) (by kernel_rfl) (fun _ _ _ h => h) (by kernel_rfl) (by decide) HS0.out rfl (fun w0 hS0 => ?hy) ?_
  case hy =>
    go_simp
    with_reducible rfl
  simp only [Act.put]
  refine wpZ_take 4 _ (v := ?v4) rfl (by kernel_rfl) (by kernel_rfl) (by kernel_rfl) (fun _ _ _ h => h) (by kernel_rfl) (by decide) HS0.out rfl (fun w0 hS0 => ?hy) ?_
  case hy =>
    go_simp
    with_reducible rfl
  simp only [Act.put]
  refine wpZ_take 6 _ (v := ?v6) rfl (by kernel_rfl) (by kernel_rfl) (by kernel_rfl) (fun _ _ _ h => h) (by kernel_rfl) (by decide) HS0.out rfl (fun w0 hS0 => ?hy) ?_
  case hy =>
    go_simp
    with_reducible rfl
  simp only [Act.put]
  refine wpZ_take 7 _ (v := ?v7) rfl (by kernel_rfl) (by kernel_rfl) (by kernel_rfl) (fun _ _ _ h => h) (by kernel_rfl) (by decide) HS0.out rfl (fun w0 hS0 => ?hy) ?_
  case hy =>
    go_simp
    with_reducible rfl
  simp only [Act.put]
  refine wpZ_one 5 _ rfl (by kernel_rfl) (fun KK hK => ?_)
  go_simp
  refine HI.out.mono ?_
  rintro e w1 ⟨rfl, hb1⟩
  clear HI
  dsimp only
  have c1 : w1.cell? ⟨wb, wo + 1, none⟩ = some (.string ⟨#[a, b, c, d]⟩) := (hb1.cell (p := ⟨wb, wo + 1, none⟩) hwb.lt).trans hw1
  refine hK.out _ _ (fun _ => c1) ?_
  clear hK
  have hwb1 := hwb.below hb1 (Nat.le_refl _)
  refine wpZ_one 8 _ rfl (by kernel_rfl) (fun KK hK => ?_)
  go_simp
  refine (HN.out _ _ _ hb1).mono ?_
  rintro e w2 ⟨x, rfl, hq, hh⟩
  clear HN
  have c2 : w2.cell? ⟨wb, wo + 1, none⟩ = some (.string ⟨#[a, b, c, d]⟩) := (cell_same (hh.keep wb 9 hwb1 rfl) _).trans c1
  dsimp only
  refine hK.out _ _ (fun _ => c2) ?_
  clear hK
  refine wpZ_take 9 _ (v := ?v9) rfl (by kernel_rfl) (by kernel_rfl) (by kernel_rfl) (fun _ _ _ h => h) (by kernel_rfl) (by decide) c2 rfl (fun w0 hS0 => ?hy) ?_
  case hy =>
    go_simp
    with_reducible rfl
  simp only [Act.put, List.setIfInBounds_toArray]
  refine wpZ_take 10 _ (v := ?v10) rfl (by kernel_rfl) (by kernel_rfl) (by kernel_rfl) (fun _ _ _ h => h) (by kernel_rfl) (by decide) c2 rfl (fun w0 hS0 => ?hy) ?_
  case hy =>
    go_simp
    with_reducible rfl
  simp only [Act.put]
  refine wpZ_take 11 _ (v := ?v11) rfl (by kernel_rfl) (by kernel_rfl) (by kernel_rfl) (fun _ _ _ h => h) (by kernel_rfl) (by decide) c2 rfl (fun w0 hS0 => ?hy) ?_
  case hy =>
    go_simp
    with_reducible rfl
  simp only [Act.put]
  refine wpZ_one 12 _ rfl (by kernel_rfl) (fun KK hK => ?_)
  go_simp
  refine hK.out _ _ (fun _ => c2) ?_
  clear hK
  refine wpZ_done (by kernel_rfl) ?_ _
  go_wp2
  all_goals
    go_ret2
    exact ⟨x, rfl, hq⟩
end Go.Proofs.YtgdfipmdmgkidaaGreatDoor

/- The calls of a world of one repository. -/
namespace Go.Proofs.YtgdfipmdmgkidaaGreatDoor
open Go.RowKit

section
variable {B pb rg cap gb : Nat} {pv : Value} {Ps : List PM} {fb fn : Nat} {f : ByteArray → Option ByteArray} {G : List Pid}

set_option maxRecDepth 100000 in
set_option maxHeartbeats 800000 in
theorem has26_zero {w : World} (h : OneAt w B pb rg cap gb pv Ps fb fn f G) : Calls Tryz.prog 42 #[.pointer (some ⟨pb, 0, none⟩), .int .i64 0] w fun e w' => e = .returned (.bool true) ∧ w' = w := by
  have c0 := h.c0
  clear h
  go_enter Tryz.func42, Tryz.ntmps42
  go_wp2
  go_ret
  exact ⟨rfl, rfl⟩

set_option maxRecDepth 100000 in
set_option maxHeartbeats 1600000 in
theorem do12_any {w : World} (h : OneAt w B pb rg cap gb pv Ps fb fn f G) (s : ByteArray) (hs : wordsOk s = true) (Q : ByteArray → Int → World → Prop)
    (hC : ∀ u va vc, Below w.heap.size w u → u.ownsRow w.heap.size 9 1 (.slice va (splitAll s).length vc) (splitAll s).length (strs (splitAll s)) → Calls Tryz.prog 45 #[.pointer (some ⟨pb, 0, none⟩), .pointer (some ⟨rg, 0, none⟩), .slice va (splitAll s).length vc] u fun e w' => ∃ x c, e = .returned (.tuple #[.string x, .int .i64 c]) ∧ Q x c w') :
    Calls Tryz.prog 17 #[.pointer (some ⟨pb, 0, none⟩), .int .i64 0, .string s] w fun e w' => ∃ x c, e = .returned (.tuple #[.string x, .int .i64 c]) ∧ Q x c w' := by
  have HH := has26_zero h
  have HA : Hid (Calls Tryz.prog 42 #[.pointer (some ⟨pb, 0, none⟩), .int .i64 0] w fun e w' => e = .returned (.bool true) ∧ w' = w) := HH
  have HW : Hid (Calls Tryz.prog 44 #[.string s] w fun e w' => ∃ va vc, e = .returned (.tuple #[.slice va (splitAll s).length vc, .bool true]) ∧ w'.ownsRow w.heap.size 9 1 (.slice va (splitAll s).length vc) (splitAll s).length (strs (splitAll s)) ∧ Below w.heap.size w w') := by
    have := words17_any s w
    rw [hs, (words_yes hs).1] at this
    refine this.mono ?_
    rintro e w' ⟨v, rfl, h1, h2⟩
    obtain ⟨va, vc, rfl⟩ := own_shape h1
    exact ⟨va, vc, rfl, h1, h2⟩
  have HO : Hid (OneAt w B pb rg cap gb pv Ps fb fn f G) := h
  have HC : Hid (∀ u va vc, Below w.heap.size w u → u.ownsRow w.heap.size 9 1 (.slice va (splitAll s).length vc) (splitAll s).length (strs (splitAll s)) → Calls Tryz.prog 45 #[.pointer (some ⟨pb, 0, none⟩), .pointer (some ⟨rg, 0, none⟩), .slice va (splitAll s).length vc] u fun e w' => ∃ x c, e = .returned (.tuple #[.string x, .int .i64 c]) ∧ Q x c w') := hC
  have hcap := h.cap1
  obtain ⟨n, hn⟩ : ∃ n, (splitAll s).length = n := ⟨_, rfl⟩
  rw [hn] at HW HC
  clear h HH hC hs hn
  go_enter Tryz.func17, Tryz.ntmps17
  go_wp2_with fail
  refine HA.out.mono ?_
  rintro e w0 ⟨rfl, rfl⟩
  clear HA
  go_wp2_with fail
  refine HW.out.mono ?_
  rintro e w1 ⟨va, vc, rfl, h1, h2⟩
  clear HW
  have hc := HC.out w1 va vc h2 h1
  have HC1 : Hid (Calls Tryz.prog 45 #[.pointer (some ⟨pb, 0, none⟩), .pointer (some ⟨rg, 0, none⟩), .slice va n vc] w1 fun e w' => ∃ x c, e = .returned (.tuple #[.string x, .int .i64 c]) ∧ Q x c w') := hc
  have c0 := (HO.out.below h2).c0
  clear HC hc h1 h2
  go_wp2_with fail
  refine HC1.out.mono ?_
  rintro e w2 ⟨x, c, rfl, hq⟩
  clear HC1
  go_wp2
  go_ret2
  exact ⟨x, c, rfl, hq⟩

set_option maxRecDepth 100000 in
set_option maxHeartbeats 1600000 in
theorem kept13_alive {w : World} (h : OneAt w B pb rg cap gb pv Ps fb fn f G) {st : Nat → Nat → ByteArray → PL} {cnt : Nat → Nat} (hs : Stands Ps st cnt) (hPs : Ps.length ≤ 1000) (x : ByteArray) (hx : x.size ≤ 1000) (hnm : nameB x = true) (hal : (st Ps.length 0 x).alive = true) (hS : (st Ps.length 0 x).S.length ≤ 1000000) (hT : (rowText (st Ps.length 0 x).S).size ≤ 1000000000) :
    Calls Tryz.prog 18 #[.pointer (some ⟨pb, 0, none⟩), .int .i64 0, .string x] w fun e w' => e = .returned (.tuple #[.string (rowText (st Ps.length 0 x).S), .int .i64 0]) ∧ Below w.heap.size w w' := by
  have HA : Hid (Calls Tryz.prog 42 #[.pointer (some ⟨pb, 0, none⟩), .int .i64 0] w fun e w' => e = .returned (.bool true) ∧ w' = w) := has26_zero h
  have HK : Hid (Calls Tryz.prog 46 #[.pointer (some ⟨rg, 0, none⟩), .string x] w fun e w' => e = .returned (.tuple #[.string (rowText (st Ps.length 0 x).S), .int .i64 0]) ∧ Below w.heap.size w w') :=
    keptText30_alive Ps pv st cnt rg 0 x w h.view (fun u hu v hv => hs.grows ((h.view.below hu (Nat.le_refl _)).below hv (Nat.le_refl _))) (by omega) h.r0 h.lts.2.1 (by omega) hnm hal hS hT
  have c0 := h.c0
  have hcap := h.cap1
  obtain ⟨T, hTe⟩ : ∃ T, rowText (st Ps.length 0 x).S = T := ⟨_, rfl⟩
  rw [hTe] at HK ⊢
  clear h hs hal hS hT hTe
  go_enter Tryz.func18, Tryz.ntmps18
  go_wp2_with fail
  refine HA.out.mono ?_
  rintro e w0 ⟨rfl, rfl⟩
  clear HA
  go_wp2_with fail
  refine HK.out.mono ?_
  rintro e w1 ⟨rfl, h2⟩
  clear HK
  go_wp2
  go_ret2
  exact ⟨rfl, h2⟩
end
end Go.Proofs.YtgdfipmdmgkidaaGreatDoor
