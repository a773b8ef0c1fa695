/- The contract of parse.Words. -/
import Derived.Test.YtgdfipmdmgkidaaGreatDoorPstand
import Derived.Test.YtgdfipmdmgkidaaGreatDoorRunes
import Derived.Deep.QuietTactic
import Derived.BigQuiet
import Derived.Test.YtgdfipmdmgkidaaGreatDoorPgaps
import Derived.Test.YtgdfipmdmgkidaaGreatDoorPgiven
import Derived.Test.YtgdfipmdmgkidaaGreatDoorPmrow
import Derived.Test.YtgdfipmdmgkidaaGreatDoorPheld
set_option maxHeartbeats 3200000
set_option maxRecDepth 100000
namespace Go.Proofs.YtgdfipmdmgkidaaGreatDoor
open Go.RowKit
def wordsOk (s : ByteArray) : Bool := decide (rcf s 0 ≤ 120) && cmdB (splitAll s)
def wordsOf (s : ByteArray) : List ByteArray := if wordsOk s = true then splitAll s else []
def wordsErr (s : ByteArray) : Int := if wordsOk s = true then 0 else 6
theorem words_no {s : ByteArray} (h : wordsOk s = false) : wordsOf s = [] ∧ wordsErr s = 6 := by unfold wordsOf wordsErr; rw [h]; simp
theorem words_yes {s : ByteArray} (h : wordsOk s = true) : wordsOf s = splitAll s ∧ wordsErr s = 0 := by unfold wordsOf wordsErr; rw [h]; simp
theorem words_long {s : ByteArray} (h : 120 < rcf s 0) : wordsOk s = false := by
  unfold wordsOk
  have : decide (rcf s 0 ≤ 120) = false := by simpa using h
  rw [this]; rfl
theorem words_short {s : ByteArray} (h : ¬ 120 < rcf s 0) : wordsOk s = cmdB (splitAll s) := by
  unfold wordsOk
  have : decide (rcf s 0 ≤ 120) = true := by simpa using h
  rw [this]; rfl
theorem small_of {s : ByteArray} (h : ¬ 120 < rcf s 0) : s.size ≤ 480 := by
  have := size_runes s s.size 0 (by omega)
  omega
theorem own_cap {w : World} {B n size cap : Nat} {e : TypeId} {ao : Option Addr} {xs : List Value} (h : w.ownsRow B e size (.slice ao n cap) n xs) : n ≤ cap := by
  rcases h.2 with ⟨h1, rfl⟩ | ⟨g, cap', cur, h1, _, _, h3, _⟩
  · omega
  · cases h1
    exact h3
theorem words17_any (s : ByteArray) (w : World) :
    Calls Tryz.prog 44 #[.string s] w fun e w' => ∃ v, e = .returned (.tuple #[v, .bool (wordsOk s)]) ∧ w'.ownsRow w.heap.size 9 1 v (wordsOf s).length (strs (wordsOf s)) ∧ Below w.heap.size w w' := by
  by_cases h120 : 120 < rcf s 0
  · have hno := words_long h120
    have HO : Hid (decide (120 < rcf s 0) = true) := by show _ = _; simpa using h120
    rw [(words_no hno).1, hno]
    clear hno h120
    go_enter Tryz.func44, Tryz.ntmps44
    go_wp2_with (go_at_call 63; refine (over_any _ 120 _ (by omega)).mono ?_; rw [HO.out]; rintro e w' ⟨rfl, q, rfl⟩)
    go_ret2
    exact ⟨_, rfl, World.ownsRow_nil _ _ _ _, (Below.refl _ _).alloc (Nat.le_refl _) _⟩
  · have HO : Hid (decide (120 < rcf s 0) = false) := by show _ = _; simpa using h120
    have hsm := small_of h120
    have hlen := splitAll_len s
    have HW := words_short h120
    clear h120
    cases hk : cmdB (splitAll s)
    · rw [hk] at HW
      rw [(words_no HW).1, HW]
      have HK := hid hk
      clear hk HW
      go_enter Tryz.func44, Tryz.ntmps44
      go_wp2_with fail
      refine (over_any _ 120 _ (by omega)).mono ?_
      rw [HO.out]
      rintro e w' ⟨rfl, q, rfl⟩
      have hw1 : Below w.heap.size w (w.iter s q) := (Below.refl _ _).alloc (Nat.le_refl _) _
      generalize w.iter s q = w1 at *
      go_wp2_with fail
      refine (split25_any s w1 (by omega)).mono ?_
      rintro e w2 ⟨v, rfl, hown, hb2⟩
      obtain ⟨ao, cap, rfl⟩ := own_shape hown
      have hcap := own_cap hown
      have hv := View.own hown
      go_wp2_with fail
      refine (cmd26_any _ ao cap w2 hv hcap (by omega)).mono ?_
      rw [HK.out]
      rintro e w3 ⟨rfl, hb3⟩
      go_wp2
      go_ret2
      have hs1 := hw1.size
      have hs2 := hb2.size
      exact ⟨_, rfl, World.ownsRow_nil _ _ _ _, hw1.trans ((hb2.mono hs1).trans (hb3.mono (by omega)))⟩
    · rw [hk] at HW
      rw [(words_yes HW).1, HW]
      have HK := hid hk
      clear hk HW
      go_enter Tryz.func44, Tryz.ntmps44
      go_wp2_with fail
      refine (over_any _ 120 _ (by omega)).mono ?_
      rw [HO.out]
      rintro e w' ⟨rfl, q, rfl⟩
      have hw1 : Below w.heap.size w (w.iter s q) := (Below.refl _ _).alloc (Nat.le_refl _) _
      generalize w.iter s q = w1 at *
      go_wp2_with fail
      refine (split25_any s w1 (by omega)).mono ?_
      rintro e w2 ⟨v, rfl, hown, hb2⟩
      obtain ⟨ao, cap, rfl⟩ := own_shape hown
      have hcap := own_cap hown
      have hv := View.own hown
      go_wp2_with fail
      refine (cmd26_any _ ao cap w2 hv hcap (by omega)).mono ?_
      rw [HK.out]
      rintro e w3 ⟨rfl, hb3⟩
      go_wp2
      go_ret2
      have hs1 := hw1.size
      have hs2 := hb2.size
      exact ⟨_, rfl, ownsRow_mono (own_below hown hb3 (Nat.le_refl _)) hs1, hw1.trans ((hb2.mono hs1).trans (hb3.mono (by omega)))⟩
end Go.Proofs.YtgdfipmdmgkidaaGreatDoor
/- A command is carried out: record of all, new. -/
namespace Go.Proofs.YtgdfipmdmgkidaaGreatDoor
open Go.RowKit
abbrev wdRecord : ByteArray := ⟨#[114, 101, 99, 111, 114, 100]⟩
theorem carry29_record (pb rg ro wb wo wc : Nat) (a b c d : UInt8) (w : World) (cd : Int) (Q : ByteArray → World → Prop) (hw : w.cell? ⟨wb, wo, none⟩ = some (.string wdRecord)) (hw1 : w.cell? ⟨wb, wo + 1, none⟩ = some (.string ⟨#[a, b, c, d]⟩)) (hwb : TB w wb 9) (hwc : 2 ≤ wc)
    (hN : ∀ u na nc, Below w.heap.size w u → Calls Tryz.prog 72 #[.pointer (some ⟨pb, 0, none⟩), .pointer (some ⟨rg, ro, none⟩), .agg #[.int .u8 a.toNat, .int .u8 b.toNat, .int .u8 c.toNat, .int .u8 d.toNat], .slice na 0 nc] u fun e w' => ∃ x, e = .returned (.tuple #[.string x, .int .i64 cd]) ∧ Q x w' ∧ HeldT (· = 9) u w') :
    Calls Tryz.prog 45 #[.pointer (some ⟨pb, 0, none⟩), .pointer (some ⟨rg, ro, none⟩), .slice (some ⟨wb, wo, none⟩) 2 wc] w fun e w' => ∃ x, e = .returned (.tuple #[.string x, .int .i64 cd]) ∧ Q x w' := by
  have HN := hid hN
  have HI : Hid (Calls Tryz.prog 70 #[.string ⟨#[a, b, c, d]⟩] w.drew fun e w' => e = .returned (.agg #[.int .u8 a.toNat, .int .u8 b.toNat, .int .u8 c.toNat, .int .u8 d.toNat]) ∧ Below w.heap.size w w') := (idOf51_any a b c d w.drew).mono fun e w' h => ⟨h.1, (Below.refl _ w).drew.trans h.2⟩
  have HS0 := hid hw1
  clear hN
  have j1 : (2 : Int) ≤ (wc : Int) := by omega
  have j2 : (wc : Int) ≤ (wc : Int) := Int.le_refl _
  go_enter Tryz.func45, Tryz.ntmps45
  go_wp2_with fail
  refine wp_region_Z (fun w' => w'.cell? ⟨wb, wo + 1, none⟩ = some (.string ⟨#[a, b, c, d]⟩)) 99 (by kernel_rfl) ?_
  refine zt 0 (v := ?v0) HS0.out (fun w0 hS0 => ?hy) ?_
  case hy =>
    go_simp
    with_reducible rfl
  simp only [Act.put, List.setIfInBounds_toArray]
  refine zt 1 (v := ?v1) HS0.out (fun w0 hS0 => ?hy) ?_
  case hy =>
    go_simp
    with_reducible rfl
  simp only [Act.put]
  refine zt 2 (v := ?v2) HS0.out (fun w0 hS0 => ?hy) ?_
  case hy =>
    go_simp
    with_reducible rfl
  simp only [Act.put]
  refine zt 3 (v := ?v3) HS0.out (fun w0 hS0 => ?hy) ?_
  case hy =>
    go_simp
    with_reducible rfl
  simp only [Act.put]
  refine zt 4 (v := ?v4) HS0.out (fun w0 hS0 => ?hy) ?_
  case hy =>
    go_simp
    with_reducible rfl
  simp only [Act.put]
  refine zt 6 (v := ?v6) HS0.out (fun w0 hS0 => ?hy) ?_
  case hy =>
    go_simp
    with_reducible rfl
  simp only [Act.put]
  refine zt 7 (v := ?v7) HS0.out (fun w0 hS0 => ?hy) ?_
  case hy =>
    go_simp
    with_reducible rfl
  simp only [Act.put]
  refine wpZ_one 5 _ rfl (by kernel_rfl) (fun KK hK => ?_)
  go_simp
  refine HI.out.mono ?_
  rintro e w1 ⟨rfl, hb1⟩
  clear HI
  dsimp only
  have c1 : w1.cell? ⟨wb, wo + 1, none⟩ = some (.string ⟨#[a, b, c, d]⟩) := (hb1.cell (p := ⟨wb, wo + 1, none⟩) hwb.lt).trans hw1
  refine hK.out _ _ (fun _ => c1) ?_
  clear hK
  have hwb1 := hwb.below hb1 (Nat.le_refl _)
  refine wpZ_one 8 _ rfl (by kernel_rfl) (fun KK hK => ?_)
  go_simp
  refine (HN.out _ _ _ hb1).mono ?_
  rintro e w2 ⟨x, rfl, hq, hh⟩
  clear HN
  have c2 : w2.cell? ⟨wb, wo + 1, none⟩ = some (.string ⟨#[a, b, c, d]⟩) := (cell_same (hh.keep wb 9 hwb1 rfl) _).trans c1
  dsimp only
  refine hK.out _ _ (fun _ => c2) ?_
  clear hK
  refine zt 9 (v := ?v9) c2 (fun w0 hS0 => ?hy) ?_
  case hy =>
    go_simp
    with_reducible rfl
  simp only [Act.put, List.setIfInBounds_toArray]
  refine zt 10 (v := ?v10) c2 (fun w0 hS0 => ?hy) ?_
  case hy =>
    go_simp
    with_reducible rfl
  simp only [Act.put]
  refine zt 11 (v := ?v11) c2 (fun w0 hS0 => ?hy) ?_
  case hy =>
    go_simp
    with_reducible rfl
  simp only [Act.put]
  refine wpZ_one 12 _ rfl (by kernel_rfl) (fun KK hK => ?_)
  go_simp
  refine hK.out _ _ (fun _ => c2) ?_
  clear hK
  refine wpZ_done (by kernel_rfl) ?_ _
  go_wp2
  all_goals
    go_ret2
    exact ⟨x, rfl, hq⟩
end Go.Proofs.YtgdfipmdmgkidaaGreatDoor
/- The calls of a world of one repository. -/
namespace Go.Proofs.YtgdfipmdmgkidaaGreatDoor
open Go.RowKit
section
variable {B pb rg : Nat} {cap : Cfg} {gb : Nat} {pv : Value} {Ps : List PM} {fb fn : Nat} {f : ByteArray → Option ByteArray} {G : List Pid}
theorem has26_zero {w : World} (h : OneAt w B pb rg cap gb pv Ps fb fn f G) : Calls Tryz.prog 42 #[.pointer (some ⟨pb, 0, none⟩), .int .i64 cap.r] w fun e w' => e = .returned (.bool true) ∧ w' = w := by
  have c0 := h.c0
  have hcap := h.cap1.1
  have g1 : (cap.r : Int) < (cap.nr : Int) := by omega
  clear h
  go_enter Tryz.func42, Tryz.ntmps42
  go_wp2
  go_ret
  exact ⟨rfl, rfl⟩
theorem do12_any {w : World} (h : OneAt w B pb rg cap gb pv Ps fb fn f G) (s : ByteArray) (hs : wordsOk s = true) (Q : ByteArray → Int → World → Prop)
    (hC : ∀ u va vc, Below w.heap.size w u → u.ownsRow w.heap.size 9 1 (.slice va (splitAll s).length vc) (splitAll s).length (strs (splitAll s)) → Calls Tryz.prog 45 #[.pointer (some ⟨pb, 0, none⟩), .pointer (some ⟨rg, cap.r * 2, none⟩), .slice va (splitAll s).length vc] u fun e w' => ∃ x c, e = .returned (.tuple #[.string x, .int .i64 c]) ∧ Q x c w') :
    Calls Tryz.prog 17 #[.pointer (some ⟨pb, 0, none⟩), .int .i64 cap.r, .string s] w fun e w' => ∃ x c, e = .returned (.tuple #[.string x, .int .i64 c]) ∧ Q x c w' := by
  have HH := has26_zero h
  have HA := hid HH
  have HW : Hid (Calls Tryz.prog 44 #[.string s] w fun e w' => ∃ va vc, e = .returned (.tuple #[.slice va (splitAll s).length vc, .bool true]) ∧ w'.ownsRow w.heap.size 9 1 (.slice va (splitAll s).length vc) (splitAll s).length (strs (splitAll s)) ∧ Below w.heap.size w w') := by
    have := words17_any s w
    rw [hs, (words_yes hs).1] at this
    refine this.mono ?_
    rintro e w' ⟨v, rfl, h1, h2⟩
    obtain ⟨va, vc, rfl⟩ := own_shape h1
    exact ⟨va, vc, rfl, h1, h2⟩
  have HO := hid h
  have HC := hid hC
  have hcap := h.cap1.1
  have hcap2 := h.cap1.2.1
  have g1 : (cap.r : Int) < (cap.nr : Int) := by omega
  obtain ⟨n, hn⟩ : ∃ n, (splitAll s).length = n := ⟨_, rfl⟩
  rw [hn] at HW HC
  clear h HH hC hs hn
  go_enter Tryz.func17, Tryz.ntmps17
  go_wp2_with fail
  refine HA.out.mono ?_
  rintro e w0 ⟨rfl, rfl⟩
  clear HA
  go_wp2_with fail
  refine HW.out.mono ?_
  rintro e w1 ⟨va, vc, rfl, h1, h2⟩
  clear HW
  have hc := HC.out w1 va vc h2 h1
  have HC1 := hid hc
  have c0 := (HO.out.below h2).c0
  clear HC hc h1 h2
  go_wp2_with fail
  refine HC1.out.mono ?_
  rintro e w2 ⟨x, c, rfl, hq⟩
  clear HC1
  go_wp2
  go_ret2
  exact ⟨x, c, rfl, hq⟩
theorem kept13_alive {w : World} (h : OneAt w B pb rg cap gb pv Ps fb fn f G) {st : Nat → Nat → ByteArray → PL} {cnt : Nat → Nat} (hs : Stands Ps st cnt) (hPs : Ps.length ≤ 1000) (x : ByteArray) (hx : x.size ≤ 1000) (hnm : nameB x = true) (hal : (st Ps.length 0 x).alive = true) (hS : (st Ps.length 0 x).S.length ≤ 1000000) (hT : (rowText (st Ps.length 0 x).S).size ≤ 1000000000) :
    Calls Tryz.prog 18 #[.pointer (some ⟨pb, 0, none⟩), .int .i64 cap.r, .string x] w fun e w' => e = .returned (.tuple #[.string (rowText (st Ps.length 0 x).S), .int .i64 0]) ∧ Below w.heap.size w w' := by
  have HA := hid (has26_zero h)
  have HK : Hid (Calls Tryz.prog 46 #[.pointer (some ⟨rg, cap.r * 2, none⟩), .string x] w fun e w' => e = .returned (.tuple #[.string (rowText (st Ps.length 0 x).S), .int .i64 0]) ∧ Below w.heap.size w w') :=
    keptText30_alive Ps pv st cnt rg (cap.r * 2) x w h.view (fun u hu v hv => hs.grows ((h.view.below hu (Nat.le_refl _)).below hv (Nat.le_refl _))) (by omega) h.r0 h.lts.2.1 (by omega) hnm hal hS hT
  have c0 := h.c0
  have hcap := h.cap1.1
  have hcap2 := h.cap1.2.1
  have g1 : (cap.r : Int) < (cap.nr : Int) := by omega
  obtain ⟨T, hTe⟩ : ∃ T, rowText (st Ps.length 0 x).S = T := ⟨_, rfl⟩
  rw [hTe] at HK ⊢
  clear h hs hal hS hT hTe
  go_enter Tryz.func18, Tryz.ntmps18
  go_wp2_with fail
  refine HA.out.mono ?_
  rintro e w0 ⟨rfl, rfl⟩
  clear HA
  go_wp2_with fail
  refine HK.out.mono ?_
  rintro e w1 ⟨rfl, h2⟩
  clear HK
  go_wp2
  go_ret2
  exact ⟨rfl, h2⟩
end
end Go.Proofs.YtgdfipmdmgkidaaGreatDoor

/- A file is written. -/
set_option maxHeartbeats 6400000
set_option maxRecDepth 100000
namespace Go.Proofs.YtgdfipmdmgkidaaGreatDoor
open Go.RowKit
theorem write27_yes (f : ByteArray → Option ByteArray) (fb fn rb ro : Nat) (name text : ByteArray) (w : World) (h : FK w fb f fn) (hfn : fn ≤ 1000) (hr : w.cell? ⟨rb, ro + 1, none⟩ = some (.map (some fb))) (hrb : rb < w.heap.size) (hs : name.size ≤ 1000) (hn : nameB name = true) (hl : linesOk text = true) (hf : (f name).isSome = true ∨ fn < 5) :
    Calls Tryz.prog 43 #[.pointer (some ⟨rb, ro, none⟩), .string name, .string text] w fun e w' => e = .returned (.int .i64 0) ∧ ∃ u, Below w.heap.size w u ∧ FK w' fb (fun x => if x = name then some text else f x) (fn + 1) ∧ u.grownBy w' (some fb) := by
  have HN : Hid (Calls Tryz.prog 61 #[.string name] w fun e w' => e = .returned (.bool true) ∧ Below w.heap.size w w') := by
    have := isName42_any name w
    rw [hn] at this
    exact this
  have HL : Hid (∀ u, Calls Tryz.prog 62 #[.string text] u fun e w' => ∃ va vn vc, e = .returned (.tuple #[.slice va vn vc, .bool true]) ∧ Below u.heap.size u w') := fun u => by
    have := lines12_any text u
    rw [hl] at this
    refine this.mono ?_
    rintro e w' ⟨v, rfl, h1, h2⟩
    obtain ⟨va, vc, rfl⟩ := own_shape h1
    exact ⟨va, _, vc, rfl, h2⟩
  have HF := hid h
  have hfb := h.lt
  clear hn hl h
  go_enter Tryz.func43, Tryz.ntmps43
  go_wp2_with fail
  refine HN.out.mono ?_
  rintro e w1 ⟨rfl, hb1⟩
  clear HN
  have hs1 := hb1.size
  go_wp2_with fail
  refine (HL.out w1).mono ?_
  rintro e w2 ⟨va, vn, vc, rfl, hb2⟩
  clear HL
  have hb02 : Below w.heap.size w w2 := hb1.trans (hb2.mono hs1)
  have hs2 := hb02.size
  have c2 : w2.cell? ⟨rb, ro + 1, none⟩ = some (.map (some fb)) := (hb02.cell (p := ⟨rb, ro + 1, none⟩) hrb).trans hr
  have hF2 : FK w2 fb f fn := HF.out.same (hb02.block fb hfb)
  have hlk := hF2.look name (by omega)
  obtain ⟨t, ht⟩ : ∃ t, (f name).getD ⟨#[]⟩ = t := ⟨_, rfl⟩
  obtain ⟨w3, hw3⟩ : ∃ w3, w3 = w2.alloc (.cells #[.string t] 105) := ⟨_, rfl⟩
  have hb23 : Below w2.heap.size w2 w3 := by rw [hw3]; exact (Below.refl _ _).alloc (Nat.le_refl _) _
  have hF3 : FK w3 fb f fn := hF2.same (hb23.block fb (by omega))
  have c3 : w3.cell? ⟨rb, ro + 1, none⟩ = some (.map (some fb)) := (hb23.cell (p := ⟨rb, ro + 1, none⟩) (by show rb < _; omega)).trans c2
  obtain ⟨w4, hup, hF4, hg4⟩ := hF3.put (by omega) name text (by omega)
  have HB3 : Hid (Below w.heap.size w w3) := hb02.trans (hb23.mono hs2)
  rw [ht] at hlk
  unfold fileS at hlk hup
  have HF4 := hid hF4
  have HG4 := hid hg4
  have hlen : ∃ m : Nat, m ≤ fn ∧ ∀ ty, (Builtin.len_ #[85] ty #[.map (some fb)]).run Tryz.prog w3 = .ok (.int .i64 (m : Nat)) w3 := by
    obtain ⟨D, h1, _⟩ := hF3
    exact ⟨Maps.size D, h1.size_le, fun ty => h1.len Tryz.underlying85 ty⟩
  obtain ⟨m, hm, hlen⟩ := hlen
  have hlen3 := hlen 3
  rw [hw3] at c3 hlen3 hup
  clear hF2 hF3 hF4 hg4 hb23 hb02 hb2 hb1 ht hlen
  cases hth : (f name).isSome
  · rw [hth] at hlk hf
    have h5 : fn < 5 := hf.resolve_left (by simp)
    have h5b : decide ((5 : Int) ≤ (m : Int)) = false := by simp; omega
    clear hf hth
    go_wp2
    go_ret
    exact ⟨rfl, w3, HB3.out, HF4.out, HG4.out⟩
  · rw [hth] at hlk
    clear hf hth
    go_wp2
    go_ret
    exact ⟨rfl, w3, HB3.out, HF4.out, HG4.out⟩
end Go.Proofs.YtgdfipmdmgkidaaGreatDoor
/- A new world of one repository. -/
namespace Go.Proofs.YtgdfipmdmgkidaaGreatDoor
open Go.RowKit
theorem Tryz.info87 : (Tryz.prog.info? 87).map (fun i => (i.zero, i.size, i.bytes)) = some (some (.agg #[.slice none 0 0, .map none]), 2, 32) := by kernel_rfl
theorem newRepo25_any (w : World) :
    Calls Tryz.prog 41 #[] w fun e w' => ∃ fb, e = .returned (.agg #[.slice none 0 0, .map (some fb)]) ∧ w.heap.size ≤ fb ∧ FK w' fb (fun _ => none) 0 ∧ Below w.heap.size w w' := by
  have hmm : ∀ w, (Instr.makeMap 85 none).run Tryz.prog w = .ok (.map (some w.heap.size)) (w.alloc (.map #[] 0)) := fun _ => by kernel_rfl
  obtain ⟨w2, hw2⟩ : ∃ w2, w2 = (w.alloc (.cells #[.slice none 0 0, .map (some (w.heap.size + 1))] 87)).alloc (.map #[] 0) := ⟨_, rfl⟩
  obtain ⟨hb2, hs2, hk2, hf2⟩ := two_blocks' w _ _ hw2
  have hF : FK w2 (w.heap.size + 1) (fun _ => none) 0 := by
    have := FK.made (w.alloc (.cells #[.slice none 0 0, .map (some (w.heap.size + 1))] 87))
    simp only [World.size_alloc] at this
    rw [hw2]
    exact this
  have HF := hid hF
  clear hs2 hf2 hF
  go_enter Tryz.func41, Tryz.ntmps41
  go_wp2
  rw [← hw2]
  refine bodyPost_ret (results_cell_row (p := 0) (ty := 87) (by kernel_rfl) _ _ w.heap.size 87 _ (0, 0) _ rfl hk2 Tryz.underlying87 rfl (by kernel_rfl)) rfl ?_
  exact ⟨w.heap.size + 1, rfl, by omega, HF.out, hb2⟩
def emptyRep (b : Nat) : Rep := ⟨.slice none 0 0, [], b, 0, fun _ => none⟩
def repoCells (F : List Nat) : List Value := F.flatMap fun b => [.slice none 0 0, .map (some b)]
theorem repoCells_at (F : List Nat) : ∀ i b, F[i]? = some b → (repoCells F)[i * 2]? = some (.slice none 0 0) ∧ (repoCells F)[i * 2 + 1]? = some (.map (some b)) := by
  induction F with
  | nil => intro i b h; simp at h
  | cons x F ih =>
    intro i b h
    cases i with
    | zero =>
      simp at h
      subst h
      exact ⟨rfl, rfl⟩
    | succ i =>
      have := ih i b (by simpa using h)
      have e1 : (i + 1) * 2 = i * 2 + 1 + 1 := by omega
      have e2 : repoCells (x :: F) = .slice none 0 0 :: .map (some x) :: repoCells F := rfl
      rw [e1, e2]
      simpa using this
structure NewI (w wr : World) (k : Nat) (v : Value) (F : List Nat) : Prop where
  wb : wr.heap[w.heap.size + 1]? = some (.cells #[v, .map (some w.heap.size)] 83 (0, 0))
  given : GAt wr w.heap.size []
  own : wr.ownsRow w.heap.size 87 2 v k (repoCells F)
  len : F.length = k
  nd : F.Nodup
  files : ∀ b ∈ F, FK wr b (fun _ => none) 0 ∧ w.heap.size + 2 ≤ b
  below : Below w.heap.size w wr
theorem new10_any (w : World) (n : Nat) (h1n : 1 ≤ n) (hn3 : n ≤ 3) :
    Calls Tryz.prog 15 #[.int .i64 n] w fun e w' => ∃ pb rg cap gb fb, e = .returned (.tuple #[.pointer (some ⟨pb, 0, none⟩), .int .i64 0]) ∧ cap.nr = n ∧ cap.r = 0 ∧ (∀ i, cap.oth i → ∃ b, cap.rep i = emptyRep b) ∧ OneAt w' w.heap.size pb rg cap gb (.slice none 0 0) [] fb 0 (fun _ => none) [] ∧ Below w.heap.size w w' := by
  obtain ⟨i0, hi0, hz0, hz1, hz2⟩ := info_parts Tryz.info87
  have hmm : ∀ w, (Instr.makeMap 80 none).run Tryz.prog w = .ok (.map (some w.heap.size)) (w.alloc (.map #[] 0)) := fun _ => by kernel_rfl
  obtain ⟨w1, hw1⟩ : ∃ w1, w1 = (w.alloc (.map #[] 0)).alloc (.cells #[.slice none 0 0, .map (some w.heap.size)] 83) := ⟨_, rfl⟩
  obtain ⟨hb1, hs1, hm1, hk1⟩ := two_blocks' w _ _ hw1
  have hG1 : GAt w1 w.heap.size [] := by
    have := GAt.made w
    refine this.same ?_
    rw [hw1, Below.heap_alloc _ _ _ (by simp)]
  have HI1 : Hid (NewI w w1 0 (.slice none 0 0) []) := ⟨hk1, hG1, World.ownsRow_nil _ _ _ _, rfl, List.nodup_nil, (fun b hb => by cases hb), hb1⟩
  have j1 : ¬ (n : Int) < 1 := by omega
  have j2 : ¬ (3 : Int) < (n : Int) := by omega
  clear hG1 hk1 hb1 hm1 hs1
  go_enter Tryz.func15, Tryz.ntmps15
  go_wp2
  rw [← hw1]
  clear hw1
  go_loopw [15] (fun x wr => ∃ (k : Nat) (v : Value) (F : List Nat), k ≤ n ∧ x = .int .i64 k ∧ Hid (NewI w wr k v F)) (fun x _ => n - (intOf x).toNat)
  case atStart => exact ⟨0, _, [], Nat.zero_le _, rfl, HI1⟩
  case round =>
    clear HI1
    obtain ⟨k, v, F, hk, rfl, HI⟩ := hrel
    by_cases hkn : k < n
    · have hs1' : w.heap.size + 1 < wr.heap.size := (Array.getElem?_eq_some_iff.1 HI.out.wb).1
      obtain ⟨va, vc, rfl⟩ := own_shape HI.out.own
      have HS1 : Hid (wr.drew.cell? ⟨w.heap.size + 1, 0, none⟩ = some (.slice va k vc)) := by show wr.cell? _ = _; simp [World.cell?, HI.out.wb]
      have HN : Hid (Calls Tryz.prog 41 #[] wr.drew fun e w' => ∃ fb, e = .returned (.agg #[.slice none 0 0, .map (some fb)]) ∧ wr.heap.size ≤ fb ∧ FK w' fb (fun _ => none) 0 ∧ Below wr.heap.size wr w') := (newRepo25_any wr.drew).mono fun e w' ⟨fb, h1, h2, h3, h4⟩ => ⟨fb, h1, h2, h3, (Below.refl _ _).drew.trans h4⟩
      have j3 : (k : Int) < (n : Int) := by omega
      go_wp2_with fail
      refine wp_region_Z (fun w' => w'.cell? ⟨w.heap.size + 1, 0, none⟩ = some (.slice va k vc)) 10 (by kernel_rfl) ?_
      refine zt 0 (v := ?v0) HS1.out (fun w0 hS0 => ?hy) ?_
      case hy => go_simp; with_reducible rfl
      simp only [Act.put, List.setIfInBounds_toArray]
      refine zt 1 (v := ?v1) HS1.out (fun w0 hS0 => ?hy) ?_
      case hy => go_simp; with_reducible rfl
      simp only [Act.put]
      refine zt 2 (v := ?v2) HS1.out (fun w0 hS0 => ?hy) ?_
      case hy => go_simp; with_reducible rfl
      simp only [Act.put]
      refine zt 3 (v := ?v3) HS1.out (fun w0 hS0 => ?hy) ?_
      case hy => go_simp; with_reducible rfl
      simp only [Act.put]
      refine zt 4 (v := ?v4) HS1.out (fun w0 hS0 => ?hy) ?_
      case hy => go_simp; with_reducible rfl
      simp only [Act.put]
      refine wpZ_one 5 _ rfl (by kernel_rfl) (fun KK hK => ?_)
      go_simp
      refine HN.out.mono ?_
      rintro e w2 ⟨fb, rfl, hfb, hF2, hb2⟩
      clear HN
      have hk2 := (hb2.block _ hs1').trans HI.out.wb
      have hs2 := hb2.size
      have ho2 := own_below HI.out.own hb2 (Nat.le_refl _)
      dsimp only
      refine hK.out _ _ (fun _ => by simp [World.cell?, hk2]) ?_
      clear hK
      refine wpZ_one 6 _ rfl (by kernel_rfl) (fun KK hK => ?_)
      go_simp
      have hb23 : Below w2.heap.size w2 (w2.alloc (.cells #[.slice none 0 0, .map (some fb)] 87)) := (Below.refl _ _).alloc (Nat.le_refl _) _
      have hk3 := (hb23.block _ (by omega)).trans hk2
      refine hK.out _ _ (fun _ => by simp [World.cell?, hk3]) ?_
      clear hK
      refine wpZ_one 7 _ rfl (by kernel_rfl) (fun KK hK => ?_)
      refine step_append_lies _ (by rfl) _ _ _ (by rfl) w.heap.size 87 i0 _ 2 32 Tryz.underlying81 hi0 hz0 hz1 hz2 rfl (by omega) (.slice va k vc) k (repoCells F) (by rfl) (ho2.alloc _) ⟨w2.heap.size, 0, none⟩ 1 1 [.slice none 0 0, .map (some fb)] (by rfl) (by rfl) (World.news_of_block (cs := #[.slice none 0 0, .map (some fb)]) (t := 87) (fr := (0, 0)) (heap_alloc_new w2 _)) (by simp [Value.oneCell']) (by omega) (by unfold maxLen; omega) (by omega) (by simp; omega) (w2.heap.size + 1) (by simp) ?_
      intro g cp wa hownA hgrA hatA hltA
      have tv : ∀ q, (Value.slice va k vc).ownBlock = some q → TB w2 q 87 := fun q hq => own_TB ho2 hq
      have farA : ∀ (q : Nat) (o : Obj), w2.heap[q]? = some o → (∀ cs fz, o ≠ .cells cs 87 fz) → wa.heap[q]? = w2.heap[q]? := fun q o ho hne => by
        have hq := (Array.getElem?_eq_some_iff.1 ho).1
        refine (hgrA.block q (by simp; omega) (fun e => ?_)).trans (hb23.block q hq)
        obtain ⟨cs, fz, hq2⟩ := tv q e.symm
        rw [ho] at hq2
        injection hq2 with hq2
        exact hne cs fz hq2
      have hkA := (farA _ _ hk2 (fun cs fz e => by cases e)).trans hk2
      have rA : wa.cell? ⟨w.heap.size + 1, 0, none⟩ = some (.slice va k vc) := by simp [World.cell?, hkA]
      have zA := free3 hkA 0
      refine hK.out _ _ (fun _ => rA) ?_
      clear hK
      simp only [Act.put, List.setIfInBounds_toArray]
      refine wpZ_one 8 _ rfl (by kernel_rfl) (fun KK hK => ?_)
      go_simp
      refine hK.out _ _ (fun _ => rA) ?_
      clear hK
      refine wpZ_one 9 _ rfl (by kernel_rfl) (fun KK hK => ?_)
      go_simp
      refine hK.out _ _ (fun _ => rA) ?_
      clear hK
      refine wpZ_one 10 _ rfl (by kernel_rfl) (fun KK hK => ?_)
      go_simp
      refine hK.out _ _ (fun h => absurd rfl h) ?_
      clear hK
      refine wpZ_done (by kernel_rfl) ?_ _
      have HO : Hid (NewI w (wa.setCell ⟨w.heap.size + 1, 0, none⟩ (.slice (some ⟨g, 0, none⟩) (k + 1) cp)) (k + 1) (.slice (some ⟨g, 0, none⟩) (k + 1) cp) (F ++ [fb])) := by
        have hset : ∀ q, q ≠ w.heap.size + 1 → (wa.setCell ⟨w.heap.size + 1, 0, none⟩ (.slice (some ⟨g, 0, none⟩) (k + 1) cp)).heap[q]? = wa.heap[q]? := fun q hq => Below.heap_setCell _ _ _ _ hq
        obtain ⟨es, c, hm⟩ := HI.out.given.map
        have hgl := HI.out.given.lt
        have hg2 := (hb2.block _ hgl).trans hm
        have hne2 : g ≠ w.heap.size + 1 := fun e => by
          obtain ⟨cs, fz, hq⟩ := own_TB hownA (g := g) rfl
          rw [e, hkA] at hq
          cases hq
        have map_far : ∀ q (es : Array MapEntry) (c : Nat), w2.heap[q]? = some (.map es c) → q ≠ w.heap.size + 1 → (wa.setCell ⟨w.heap.size + 1, 0, none⟩ (.slice (some ⟨g, 0, none⟩) (k + 1) cp)).heap[q]? = w2.heap[q]? := fun q es c hq hn => (hset q hn).trans (farA q _ hq (fun cs fz e => by cases e))
        refine ⟨heap_setCell_same wa _ 0 _ 83 _ hkA, HI.out.given.same ((map_far _ es c hg2 (by omega)).trans (hb2.block _ hgl)), ?_, by simp [HI.out.len], ?_, fun b hb => ?_, ?_⟩
        · have e2 : repoCells (F ++ [fb]) = repoCells F ++ [.slice none 0 0, .map (some fb)] := by simp [repoCells]
          rw [e2]
          exact hownA.kept (row := some (w.heap.size + 1)) ⟨rfl, rfl, rfl, by simp [World.setCell], fun q _ hq => hset q (fun e => hq (by rw [e]))⟩ (.inr (by simp [Value.ownBlock]; exact hne2))
        · rw [List.nodup_append]
          refine ⟨HI.out.nd, by simp, fun a ha b hb e => ?_⟩
          rw [List.mem_singleton.1 hb] at e
          have := (HI.out.files a ha).1.lt
          omega
        · rcases List.mem_append.1 hb with hb | hb
          · obtain ⟨h1, h2⟩ := HI.out.files b hb
            obtain ⟨es', c', hm'⟩ := h1.map
            have hb' := (hb2.block _ h1.lt).trans hm'
            exact ⟨h1.same ((map_far b es' c' hb' (by omega)).trans (hb2.block _ h1.lt)), h2⟩
          · rw [List.mem_singleton.1 hb]
            obtain ⟨es', c', hm'⟩ := hF2.map
            exact ⟨hF2.same (map_far fb es' c' hm' (by omega)), by omega⟩
        · have hsA := hgrA.size
          simp at hsA
          refine HI.out.below.trans ⟨hgrA.os.trans hb2.os, hgrA.tape.trans hb2.tape, hgrA.output.trans hb2.output, by simp [World.setCell]; omega, fun q hq => ?_⟩
          refine (hset q (by omega)).trans ((hgrA.block q (by simp; omega) (fun e => ?_)).trans ((hb23.block q (by omega)).trans (hb2.block q (by omega))))
          have := (ho2.lt q e.symm).1
          omega
      clear hownA hgrA hatA hltA farA hkA rA zA hk2 hk3 hb23 hb2 hF2 HS1 HI ho2 tv
      go_wp2
      go_roundw
      case rel => exact ⟨k + 1, _, _, by omega, by go_num, HO⟩
      case measure => simp [intOf]; omega
    · have e : k = n := by omega
      subst e
      obtain ⟨va, vc, rfl⟩ := own_shape HI.out.own
      obtain ⟨g, rfl, hgB, hgl⟩ := own_at HI.out.own (by omega)
      have hlen := HI.out.len
      have HO : Hid (∃ cap fb, cap.nr = k ∧ cap.r = 0 ∧ (∀ i, cap.oth i → ∃ b, cap.rep i = emptyRep b) ∧ OneAt wr w.heap.size (w.heap.size + 1) g cap w.heap.size (.slice none 0 0) [] fb 0 (fun _ => none) []) := by
        obtain ⟨fb, hfb⟩ : ∃ fb, F[0]? = some fb := ⟨_, List.getElem?_eq_getElem (by omega)⟩
        have hlt := HI.out.given.lt
        rcases HI.out.own.2 with ⟨h1, _⟩ | ⟨g', cp', cur, h1, hbase, hgc, hn1, hcm, hcs, htk⟩
        · cases h1
        · cases h1
          have at_ : ∀ i b, F[i]? = some b → cur[i * 2]? = some (.slice none 0 0) ∧ cur[i * 2 + 1]? = some (.map (some b)) := fun i b hb => by
            obtain ⟨a1, a2⟩ := repoCells_at F i b hb
            have hi := (List.getElem?_eq_some_iff.1 hb).1
            rw [← htk, List.getElem?_take_of_lt (by omega)] at a1 a2
            exact ⟨by simpa using a1, by simpa using a2⟩
          have fget : ∀ i, i < k → F[i]? = some (F.getD i 0) := fun i hi => by
            rw [List.getD_eq_getElem?_getD, List.getElem?_eq_getElem (by omega)]
            rfl
          have dist : ∀ i j, i < k → j < k → i ≠ j → F.getD i 0 ≠ F.getD j 0 := fun i j hi hj hij e => by
            have e1 := fget i hi
            have e2 := fget j hj
            rw [e] at e1
            exact hij ((List.getElem?_inj (by omega) HI.out.nd).1 (e1.trans e2.symm))
          have hf0 : fb = F.getD 0 0 := by
            have := hfb.symm.trans (fget 0 (by omega))
            simpa using this
          obtain ⟨f1, f2⟩ := HI.out.files fb (List.mem_of_getElem? hfb)
          refine ⟨⟨vc, k, 0, fun i => emptyRep (F.getD i 0)⟩, fb, rfl, rfl, fun i _ => ⟨_, rfl⟩, ⟨⟨by omega, by omega, by omega, by omega⟩, HI.out.wb, ⟨cur, hgc, (at_ 0 fb hfb).1, (at_ 0 fb hfb).2, fun i hi => at_ i _ (fget i hi.1)⟩, HI.out.given, World.ownsRow_nil _ _ _ _, by simp, f1, by omega, ⟨by show 0 < k; omega, hn1, by show k ≤ 1000; omega, fun i j hi hj hij => ⟨dist i j hi.1 hj.1 hij, fun q hq => by cases hq⟩⟩, fun i hi => ?_⟩⟩
          obtain ⟨g1, g2⟩ := HI.out.files _ (List.mem_of_getElem? (fget i hi.1))
          exact ⟨by show _ ≤ F.getD i 0; omega, World.ownsRow_nil _ _ _ _, (fun P hP => by cases hP), g1, by show F.getD i 0 ≠ _; omega, by rw [hf0]; exact dist i 0 hi.1 (by omega) hi.2, fun q hq => by cases hq⟩
      have HB := hid HI.out.below
      clear HI hgB hgl
      go_wp2
      go_ret2
      obtain ⟨cap, fb, k1, k2, k3, k4⟩ := HO.out
      exact ⟨_, g, cap, _, fb, rfl, k1, k2, k3, k4, HB.out⟩
end Go.Proofs.YtgdfipmdmgkidaaGreatDoor

/- Told's own reckoning of what two lists of lines have in common. -/
namespace Go.Proofs.YtgdfipmdmgkidaaGreatDoor
open Go.RowKit
structure Two (w wr : World) (m a b : Nat) (f g : Nat → Nat) : Prop where
  la : w.heap.size ≤ a
  lb : a < b
  ls : b < wr.heap.size
  ra : wr.heap[a]? = some (.cells (fnA (m + 1) (fun j => .int .i64 (f j : Nat))) 3 (0, 0))
  rb : wr.heap[b]? = some (.cells (fnA (m + 1) (fun j => .int .i64 (g j : Nat))) 3 (0, 0))
  bel : Below w.heap.size w wr
structure One (w wr : World) (m a : Nat) (f : Nat → Nat) : Prop where
  la : w.heap.size ≤ a
  ls : a < wr.heap.size
  ra : wr.heap[a]? = some (.cells (fnA (m + 1) (fun j => .int .i64 (f j : Nat))) 3 (0, 0))
  bel : Below w.heap.size w wr
end Go.Proofs.YtgdfipmdmgkidaaGreatDoor

/- Told: what the two records make. -/
namespace Go.Proofs.YtgdfipmdmgkidaaGreatDoor
open Go.RowKit
abbrev nmA : ByteArray := ⟨#[97]⟩
theorem told1 (t : Nat → ByteArray) : (⟨(toldTo t 1).toArray⟩ : ByteArray) = t 0 := by
  simp [toldTo]
end Go.Proofs.YtgdfipmdmgkidaaGreatDoor
/- Told: the patches stand, and are told. -/
/- Told: the calls of its one world. -/
namespace Go.Proofs.YtgdfipmdmgkidaaGreatDoor
open Go.RowKit
theorem words_at {u : World} {B : Nat} {va : Option Addr} {vc : Nat} {L : List ByteArray} (h : u.ownsRow B 9 1 (.slice va L.length vc) L.length (strs L)) (h0 : 0 < L.length) : ∃ b, va = some ⟨b, 0, none⟩ ∧ TB u b 9 ∧ L.length ≤ vc ∧ ∀ k, (hk : k < L.length) → u.cell? ⟨b, k, none⟩ = some (.string L[k]) := by
  have hc := fun g => World.ownsRow.cells h (g := g)
  rcases h.2 with ⟨_, h1⟩ | ⟨g, cp, cur, h1, _, hg, hcp, _⟩
  · omega
  · cases h1
    refine ⟨g, rfl, ⟨cur, _, hg⟩, hcp, fun k hk => ?_⟩
    have := hc g rfl k (.string L[k]) (by unfold strs; rw [List.getElem?_map, List.getElem?_eq_getElem hk]; rfl)
    rw [← this]
    cases k <;> simp [Addr.add]
section
variable {B pb rg : Nat} {cap : Cfg} {gb : Nat} {pv : Value} {Ps : List PM} {fb fn : Nat} {f : ByteArray → Option ByteArray} {G : List Pid}
theorem do_record {w : World} (h : OneAt w B pb rg cap gb pv Ps fb fn f G) (s : ByteArray) (a b c d : UInt8) (hs : wordsOk s = true ∧ splitAll s = [wdRecord, ⟨#[a, b, c, d]⟩]) (cd : Int) (Q : ByteArray → World → Prop)
    (hR : ∀ u na nc, Below w.heap.size w u → Calls Tryz.prog 72 #[.pointer (some ⟨pb, 0, none⟩), .pointer (some ⟨rg, cap.r * 2, none⟩), .agg #[.int .u8 a.toNat, .int .u8 b.toNat, .int .u8 c.toNat, .int .u8 d.toNat], .slice na 0 nc] u fun e w' => ∃ x, e = .returned (.tuple #[.string x, .int .i64 cd]) ∧ Q x w' ∧ HeldT (· = 9) u w') :
    Calls Tryz.prog 17 #[.pointer (some ⟨pb, 0, none⟩), .int .i64 cap.r, .string s] w fun e w' => ∃ x, e = .returned (.tuple #[.string x, .int .i64 cd]) ∧ Q x w' := by
  refine (do12_any h s hs.1 (fun x c w' => c = cd ∧ Q x w') (fun u va vc hu ho => ?_)).mono ?_
  · rw [hs.2] at ho ⊢
    obtain ⟨wb, rfl, htb, hcap, hcl⟩ := words_at ho (by simp)
    have h0 := hcl 0 (by simp)
    have h1 := hcl 1 (by simp)
    refine (carry29_record pb rg (cap.r * 2) wb 0 vc a b c d u cd Q h0 h1 htb hcap (fun u' na nc hu' => hR u' na nc (hu.trans (hu'.mono hu.size)))).mono ?_
    rintro e w' ⟨x, rfl, hq⟩
    exact ⟨x, cd, rfl, rfl, hq⟩
  · rintro e w' ⟨x, c, rfl, rfl, hq⟩
    exact ⟨x, rfl, hq⟩
end
end Go.Proofs.YtgdfipmdmgkidaaGreatDoor
/- Told: its steps on the world. -/
/- The lines of a telling, read one behind another. -/
namespace Go.Proofs.YtgdfipmdmgkidaaGreatDoor
open Go.RowKit
theorem wpList_append_all {P : Program} {w : World} {ops : Array Oper} {rest : List Oper} {o : Oper} {a : Act} {Q : Exit → Act → World → Prop} (hgd : o.guard = none) (s x : Operand) (t : TypeId)
    (ho : o.op = .call { callee := .builtin .append, args := #[s, x], argTypes := #[t, t] })
    (base : Nat) (e : TypeId) (i : TypeInfo) (z : Value) (size bytes : Nat) (ht : P.underlying t = some (.slice e)) (hi : P.info? e = some i) (hz : i.zero = some z)
    (hsize : i.size = size) (hby : i.bytes = bytes) (hzs : z.cells.size = size) (hsz : 0 < size)
    (v : Value) (n : Nat) (xs : List Value) (hs : a.eval s = v) (hown : w.ownsRow base e size v n xs)
    (xa : Option Addr) (m c : Nat) (news : List Value) (hx : a.eval x = .slice xa m c) (hl : news.length = m * size) (hnews : m = 0 ∨ ∃ ad, xa = some ad ∧ ∀ j u, news[j]? = some u → w.cell? (ad.add j) = some u) (h1 : ∀ u ∈ news, u.oneCell' = true)
    (h63 : n + m ≤ maxLen) (hbytes : (n + m) * bytes ≤ 140737488355328) (hbase : base ≤ w.heap.size)
    (h : ∀ va vn vc w', w'.ownsRow base e size (.slice va vn vc) (n + m) (xs ++ news) → w.grownBy w' v.ownBlock → wpList P ops Q rest (a.put o.dst (.slice va vn vc)) w') : wpList P ops Q (o :: rest) a w :=
  wpList_plain hgd fun K hK => by
    have h2 := step_append_all (P := P) (ops := #[]) (K := K) (Q := Q) (E := True) hgd s x t ho base e i z size bytes ht hi hz hsize hby hzs hsz v n xs hs hown xa m c news hx hl hnews h1 h63 hbytes hbase (fun va vn vc w' k1 k2 => hK _ _ (h va vn vc w' k1 k2))
    have hw : Region.wanted o (yielded #[] a.tmps) = true := by simp [Region.wanted, hgd]
    rw [if_pos hw] at h2
    exact h2
end Go.Proofs.YtgdfipmdmgkidaaGreatDoor

/- Mathematics: the cells of a file: which there are behind an alteration, which of them live. -/
namespace Go.Proofs.YtgdfipmdmgkidaaGreatDoor
open Go.RowKit
def sid (s : Spot) : Pid := ⟨s.a, s.b, s.c, s.d⟩
def cid (s : Spot) : Pid × Int := (sid s, s.num)
theorem cid_dead (s : Spot) : cid (deadS s) = cid s := rfl
theorem cids_dead (S : List Spot) : (deadRow S).map cid = S.map cid := by
  unfold deadRow
  rw [List.map_map]
  rfl
theorem tail_mem {F : List Spot} : ∀ (QB : List (Quad × List Spot)) (c : Nat) (s : Spot), s ∈ tailRow F c QB → s ∈ F ∨ (∃ t ∈ F, s = deadS t) ∨ ∃ r ∈ QB, s ∈ r.2
  | [], c, s, h => .inl (List.mem_of_mem_drop h)
  | (q, B) :: R, c, s, h => by
    unfold tailRow at h
    rcases List.mem_append.1 h with h | h
    · exact .inl (List.mem_of_mem_take (List.mem_of_mem_drop h))
    · rcases List.mem_append.1 h with h | h
      · obtain ⟨t, ht, rfl⟩ := List.mem_map.1 h
        exact .inr (.inl ⟨t, List.mem_of_mem_take (List.mem_of_mem_drop ht), rfl⟩)
      · rcases List.mem_append.1 h with h | h
        · exact .inr (.inr ⟨(q, B), List.mem_cons_self, h⟩)
        · rcases tail_mem R _ s h with h | h | ⟨r, hr, h⟩
          · exact .inl h
          · exact .inr (.inl h)
          · exact .inr (.inr ⟨r, List.mem_cons_of_mem _ hr, h⟩)
theorem split_three (F : List Spot) {c a b : Nat} (hca : c ≤ a) (hab : a ≤ b) : F.drop c = (F.take a).drop c ++ ((F.take b).drop a ++ F.drop b) := by
  have h1 : F.drop a = (F.take b).drop a ++ F.drop b := by
    conv => lhs; rw [← List.take_append_drop b F]
    by_cases hb : b ≤ F.length
    · rw [List.drop_append_of_le_length (by simp; omega)]
    · rw [List.drop_of_length_le (show F.length ≤ b by omega), List.append_nil, List.append_nil]
  have h2 : F.drop c = (F.take a).drop c ++ F.drop a := by
    conv => lhs; rw [← List.take_append_drop a F]
    by_cases ha : a ≤ F.length
    · rw [List.drop_append_of_le_length (by simp; omega)]
    · rw [List.drop_of_length_le (show F.length ≤ a by omega), List.append_nil, List.append_nil]
  rw [h2, h1]
theorem tail_cids {F : List Spot} : ∀ (QB : List (Quad × List Spot)) (x : Nat), GOrd (living F).length x (QB.map (·.1)) →
    ((tailRow F ((living F).getD x 0) QB).map cid).Perm ((F.drop ((living F).getD x 0)).map cid ++ (QB.flatMap (·.2)).map cid)
  | [], x, _ => by simp [tailRow]
  | (q, B) :: R, x, h => by
    have h' : GOrd (living F).length x (q :: R.map (·.1)) := h
    obtain ⟨h1, h2, h3, h4, h5⟩ := GOrd.at h'
    have ih := tail_cids R (q.k + 1) h.2.2.2
    have e : (living F).getD (q.k + 1) 0 = bv F q := rfl
    rw [e] at ih
    unfold tailRow
    rw [split_three F (show (living F).getD x 0 ≤ av F q + 1 by omega) (show av F q + 1 ≤ bv F q by omega)]
    simp only [List.map_append, cids_dead, List.flatMap_cons, List.append_assoc]
    refine List.Perm.append_left _ (List.Perm.append_left _ ?_)
    refine ((List.Perm.append_left _ ih).trans ?_)
    rw [← List.append_assoc, ← List.append_assoc]
    exact List.Perm.append_right _ List.perm_append_comm
def brAll (i : Pid) (N : List ByteArray) : Int → List Quad → List Spot
  | _, [] => []
  | n, q :: R => bring i n (linesAt N q) ++ brAll i N (n + (linesAt N q).length) R
theorem Made.tail {F : List Spot} {i : Pid} {n : Int} {N : List ByteArray} {q : Quad} {Q : List Quad} {h : Hk} {Hs : List Hk} (hm : Made F i n N (q :: Q) (h :: Hs)) : h.N = namedOf F q ∧ h.Br = bring i n (linesAt N q) ∧ Made F i (n + (linesAt N q).length) N Q Hs := by
  obtain ⟨q0, e1, e2, e3⟩ := hm.2 0 h rfl
  cases e1
  refine ⟨e2, e3, by have := hm.1; simpa using this, fun k x hx => ?_⟩
  obtain ⟨q1, e1, e2, e3⟩ := hm.2 (k + 1) x (by simpa using hx)
  exact ⟨q1, by simpa using e1, e2, by simpa [numTo] using e3⟩
theorem made_brings {F : List Spot} {i : Pid} {N : List ByteArray} : ∀ (Q : List Quad) (Hs : List Hk) (n : Int), Made F i n N Q Hs → Hs.flatMap (·.Br) = brAll i N n Q
  | [], Hs, n, h => by
    have : Hs = [] := List.eq_nil_of_length_eq_zero (by simpa using h.1)
    subst this
    rfl
  | q :: Q, [], n, h => by have := h.1; simp at this
  | q :: Q, h :: Hs, n, hm => by
    obtain ⟨_, h2, h3⟩ := hm.tail
    simp only [List.flatMap_cons, brAll]
    rw [h2, made_brings Q Hs _ h3]
theorem brAll_mem {i : Pid} {N : List ByteArray} : ∀ (Q : List Quad) (n : Int) (s : Spot), s ∈ brAll i N n Q → sid s = i ∧ n ≤ s.num ∧ s.num < numTo n N Q ∧ s.alive = true
  | [], n, s, h => by simp [brAll] at h
  | q :: Q, n, s, h => by
    unfold brAll at h
    rcases List.mem_append.1 h with h | h
    · unfold bring brTo at h
      obtain ⟨k, hk, rfl⟩ := List.mem_map.1 h
      have hk := List.mem_range.1 hk
      have := numTo_le (n + (linesAt N q).length) N Q
      refine ⟨rfl, ?_, ?_, rfl⟩
      · simp only [brS]; omega
      · simp only [brS, numTo]; omega
    · obtain ⟨h1, h2, h3, h4⟩ := brAll_mem Q _ s h
      exact ⟨h1, by omega, h3, h4⟩
theorem bring_cids (i : Pid) (n : Int) (L : List ByteArray) : ((bring i n L).map cid).Nodup := by
  unfold bring brTo
  rw [List.map_map, List.Nodup, List.pairwise_map]
  refine List.Pairwise.imp ?_ List.pairwise_lt_range
  intro a b hab e
  simp only [Function.comp, cid, brS, Prod.mk.injEq] at e
  omega
theorem brAll_nodup {i : Pid} {N : List ByteArray} : ∀ (Q : List Quad) (n : Int), ((brAll i N n Q).map cid).Nodup
  | [], n => by simp [brAll]
  | q :: Q, n => by
    unfold brAll
    rw [List.map_append, List.nodup_append]
    refine ⟨bring_cids _ _ _, brAll_nodup Q _, ?_⟩
    intro a ha b hb e
    obtain ⟨s, hs, rfl⟩ := List.mem_map.1 ha
    obtain ⟨t, ht, rfl⟩ := List.mem_map.1 hb
    obtain ⟨_, h2, _⟩ := brAll_mem Q _ t ht
    unfold bring brTo at hs
    obtain ⟨k, hk, rfl⟩ := List.mem_map.1 hs
    have hk := List.mem_range.1 hk
    simp only [cid, brS, Prod.mk.injEq] at e
    omega
theorem framed_mid {X : List Spot} (h1 : ∃ Z, X = begS :: Z) (h2 : ∃ Y, X = Y ++ [endS]) : X = framed (midRow X) := by
  obtain ⟨Z, rfl⟩ := h1
  obtain ⟨Y, hY⟩ := h2
  have hZ : ∃ W, Z = W ++ [endS] := by
    cases Y with
    | nil => simp [begS, endS, edgeS] at hY
    | cons y Y =>
      simp only [List.cons_append, List.cons.injEq] at hY
      exact ⟨Y, hY.2⟩
  obtain ⟨W, rfl⟩ := hZ
  simp [framed, midRow]
theorem qb_brings {F : List Spot} {i : Pid} {n : Int} {N : List ByteArray} {Q : List Quad} {Hs : List Hk} (hm : Made F i n N Q Hs) : (qbOf Q Hs).flatMap (·.2) = brAll i N n Q := by
  rw [← made_brings Q Hs n hm]
  unfold qbOf
  have : (Q.zip (Hs.map (·.Br))).map (·.2) = Hs.map (·.Br) := List.map_snd_zip (by simp [hm.1])
  rw [List.flatMap_def, this, ← List.flatMap_def]
section
variable {S : List Spot} {N : List ByteArray} {i : Pid} {n : Int} {Q : List Quad} {Hs : List Hk}
def altRow (S : List Spot) (Q : List Quad) (Hs : List Hk) : List Spot := midRow (fSeq (framed S) (qbOf Q Hs) Hs.length)
theorem alt_tail (hm : Made (framed S) i n N Q Hs) (hg : GapsR (rowLines S) N 0 0 Q) (hF : (framed S).Nodup) (hid : ∀ s ∈ framed S, ¬ (s.a = i.a ∧ s.b = i.b ∧ s.c = i.c ∧ s.d = i.d)) : tailRow (framed S) 0 (qbOf Q Hs) = framed (altRow S Q Hs) := by
  have ho := hg.ord (Nat.zero_le _) (Nat.zero_le _)
  have hlf := living_framed S
  have hB : ∀ r ∈ qbOf Q Hs, ∀ s ∈ r.2, s ∉ framed S := fun r hr s hs hsF => by
    obtain ⟨m, h⟩ := qb_mem hm r hr
    rw [h] at hs
    exact hid s hsF (bring_id hs)
  have h0 : HkAt (framed S) (qbOf Q Hs) 0 := HkAt.start (living_first S) (by omega) (by rw [qb_map hm, hlf]; exact ho)
  have hl := (HkAt.all hF hB h0 _ (Nat.le_refl _)).last
  have e : altRow S Q Hs = midRow (tailRow (framed S) 0 (qbOf Q Hs)) := by
    unfold altRow
    rw [← qb_len hm, hl]
  rw [e]
  refine framed_mid ?_ ?_
  · exact tail_first _
  · have := tail_end (G := begS :: S) (qbOf Q Hs) 0 0 (by simp) (by
      have e2 : (begS :: S) ++ [endS] = framed S := rfl
      rw [e2, qb_map hm, hlf]
      exact ho)
    exact this
theorem alt_cids (hm : Made (framed S) i n N Q Hs) (hg : GapsR (rowLines S) N 0 0 Q) (hF : (framed S).Nodup) (hid : ∀ s ∈ framed S, ¬ (s.a = i.a ∧ s.b = i.b ∧ s.c = i.c ∧ s.d = i.d)) : ((altRow S Q Hs).map cid).Perm (S.map cid ++ (brAll i N n Q).map cid) := by
  have ho := hg.ord (Nat.zero_le _) (Nat.zero_le _)
  have hlf := living_framed S
  have h := tail_cids (F := framed S) (qbOf Q Hs) 0 (by rw [qb_map hm, hlf]; exact ho)
  rw [living_first, List.drop_zero, alt_tail hm hg hF hid, qb_brings hm] at h
  unfold framed at h
  simp only [List.map_cons, List.map_append, List.cons_append, List.map_nil, List.append_assoc] at h
  have h1 := (List.perm_cons _).1 h
  have h2 : (S.map cid ++ ([cid endS] ++ (brAll i N n Q).map cid)).Perm (S.map cid ++ (brAll i N n Q).map cid ++ [cid endS]) := by
    rw [List.append_assoc]
    exact List.Perm.append_left _ List.perm_append_comm
  have h3 := h1.trans h2
  exact (List.perm_append_right_iff _).1 h3
theorem alt_mem (hm : Made (framed S) i n N Q Hs) (hg : GapsR (rowLines S) N 0 0 Q) (hF : (framed S).Nodup) (hid : ∀ s ∈ framed S, ¬ (s.a = i.a ∧ s.b = i.b ∧ s.c = i.c ∧ s.d = i.d)) {s : Spot} (hs : s ∈ altRow S Q Hs) : (s ∈ framed S) ∨ (∃ t ∈ framed S, s = deadS t) ∨ s ∈ brAll i N n Q := by
  have h : s ∈ tailRow (framed S) 0 (qbOf Q Hs) := by
    rw [alt_tail hm hg hF hid]
    unfold framed
    simp [hs]
  rcases tail_mem _ _ _ h with h | h | ⟨r, hr, h⟩
  · exact .inl h
  · exact .inr (.inl h)
  · refine .inr (.inr ?_)
    rw [← qb_brings hm]
    exact List.mem_flatMap.2 ⟨r, hr, h⟩
end
end Go.Proofs.YtgdfipmdmgkidaaGreatDoor
