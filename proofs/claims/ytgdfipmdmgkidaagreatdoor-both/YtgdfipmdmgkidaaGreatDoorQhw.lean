/- Mathematics: a history with little in each patch. -/
import Derived.Test.YtgdfipmdmgkidaaGreatDoorUreca
import Derived.Test.YtgdfipmdmgkidaaGreatDoorUfk
import Derived.Test.YtgdfipmdmgkidaaGreatDoorUrecn
namespace Go.Proofs.YtgdfipmdmgkidaaGreatDoor
open Go.RowKit
structure HWt (Ps : List PM) (s : ByteArray → PL) : Prop where
  hist : Hist Ps s
  len : Ps.length ≤ 40
  sm : SmallP Ps
  li : LightP Ps
  pnm : ∀ P ∈ Ps, ∀ c ∈ P.Cs, c.1 ∈ names3
theorem FS.hw {Ps : List PM} {f : ByteArray → Option ByteArray} {s : ByteArray → PL} (h : FS Ps f s) : HWt Ps s := by
  obtain ⟨_, _, _, _, _, _, hl, _, hH, _, hSm, hLi⟩ := h.rep
  exact ⟨hH, hl, hSm, hLi, h.pnm⟩
theorem HWt.of {Ps Q : List PM} {s t : ByteArray → PL} (h : HWt Ps s) (hQ : Hist Q t) (hs : ∀ P ∈ Q, P ∈ Ps) : HWt Q t := by
  refine ⟨hQ, ?_, ⟨fun P hP => h.sm.few P (hs P hP), fun P hP => h.sm.names P (hs P hP), fun P hP => h.sm.small P (hs P hP)⟩, ⟨fun P hP => h.li.few P (hs P hP), fun P hP => h.li.line P (hs P hP)⟩, fun P hP => h.pnm P (hs P hP)⟩
  have := @nodup_len PM (fun a b => Classical.propDecidable _) _ _ (hist_nodup hQ) hs
  have := h.len
  omega
theorem LightP.weight {Ps : List PM} (h : LightP Ps) : weight Ps ≤ 60 * Ps.length := by
  induction Ps with
  | nil => simp [Go.Proofs.YtgdfipmdmgkidaaGreatDoor.weight]
  | cons P L ih =>
    have k1 := ih ⟨fun Q hQ => h.few Q (List.mem_cons_of_mem _ hQ), fun Q hQ => h.line Q (List.mem_cons_of_mem _ hQ)⟩
    have k2 := h.few P List.mem_cons_self
    rw [weight_cons, List.length_cons]
    omega
theorem HWt.weight {Ps : List PM} {s : ByteArray → PL} (h : HWt Ps s) : weight Ps ≤ 2400 := by
  have := h.li.weight
  have := h.len
  omega
theorem HWt.stands {Ps : List PM} {s : ByteArray → PL} (h : HWt Ps s) : ∃ st cnt, Stands Ps st cnt ∧ st Ps.length 0 = s ∧ cnt Ps.length ≤ 50 * Ps.length := h.hist.stands (by have := h.weight; omega) h.sm h.len
theorem HWt.uniq {Ps : List PM} {s t : ByteArray → PL} (h : HWt Ps s) (k : HWt Ps t) : t = s := by
  obtain ⟨st, cnt, h1, rfl, _⟩ := h.stands
  obtain ⟨st', cnt', k1, rfl, _⟩ := k.stands
  exact h1.det k1 _ (Nat.le_refl _)
theorem HWt.at_ {Ps : List PM} {s : ByteArray → PL} (h : HWt Ps s) {st : Nat → Nat → ByteArray → PL} {cnt : Nat → Nat} (hS : Stands Ps st cnt) (p : Nat) : p ≤ Ps.length → HWt (Ps.take p) (st p 0) := fun hp => by
  have hh := h.hist
  rw [← List.take_append_drop p Ps] at hh hS
  obtain ⟨t, ht, _⟩ := hh.pre
  have hw := h.of ht (fun P hP => List.mem_of_mem_take hP)
  obtain ⟨st', cnt', k1, k2, _⟩ := hw.stands
  have e := hS.pre.det k1 p (by rw [List.length_take]; omega)
  have hl : (Ps.take p).length = p := by rw [List.length_take]; omega
  rw [hl] at k2
  rw [← e, k2]
  exact hw
theorem HWt.len_ {Ps : List PM} {s : ByteArray → PL} (h : HWt Ps s) : ∀ x, (s x).S.length ≤ 2400 := fun x => by
  have k := h.hist.chain.len x
  have := h.weight
  have e : (pl0).S.length = 0 := rfl
  omega
theorem HWt.stands2 {Ps : List PM} {s : ByteArray → PL} (h : HWt Ps s) : ∃ st cnt, Stands Ps st cnt ∧ st Ps.length 0 = s ∧ cnt Ps.length ≤ 50 * Ps.length ∧ ∀ p x, (st p 0 x).S.length ≤ 2400 := by
  obtain ⟨st, cnt, h1, h2, h3⟩ := h.stands
  have lt : ∀ {p : Nat} {P : PM}, Ps[p]? = some P → p < Ps.length := fun hp => (List.getElem?_eq_some_iff.1 hp).1
  refine ⟨fun p => if p ≤ Ps.length then st p else st Ps.length, cnt, ⟨?_, fun p P hP => ?_, fun p P k c hP hc => ?_, fun p P k c hP hc => ?_, h1.names, h1.few, h1.count, h1.small⟩, ?_, h3, fun p x => ?_⟩
  · simp only [Nat.zero_le, if_true]; exact h1.start
  · have := lt hP
    simp only [if_pos (show p ≤ Ps.length by omega), if_pos (show p + 1 ≤ Ps.length by omega)]
    exact h1.next p P hP
  · have := lt hP
    simp only [if_pos (show p ≤ Ps.length by omega)]
    exact h1.other p P k c hP hc
  · have := lt hP
    simp only [if_pos (show p ≤ Ps.length by omega)]
    exact h1.app p P k c hP hc
  · simp only [Nat.le_refl, if_true]; exact h2
  · by_cases hp : p ≤ Ps.length
    · simp only [if_pos hp]
      exact (h.at_ h1 p hp).len_ x
    · simp only [if_neg hp]
      exact (h.at_ h1 _ (Nat.le_refl _)).len_ x
theorem app_line {i : Pid} {c : ChM} {p p' : PL} (h : AppH i c p p') (h1 : ∀ t ∈ p.S, t.line.size ≤ 1000) (h2 : ∀ t ∈ brOf c, t.line.size ≤ 1000) : ∀ t ∈ p'.S, t.line.size ≤ 1000 := by
  cases c with
  | add i' l rv S =>
    obtain ⟨_, _, _, rfl⟩ := h
    exact h2
  | remove i' rv S =>
    obtain ⟨_, _, rfl, rfl⟩ := h
    intro t ht
    obtain ⟨u, hu, rfl⟩ := List.mem_map.1 ht
    exact h1 u hu
  | alter i' hv Hs =>
    obtain ⟨_, _, _, _, _, hh⟩ := h
    intro t ht
    have ht2 : t ∈ framed p'.S := by unfold framed; simp [ht]
    obtain ⟨u, hu, e⟩ := hh.mem ht2
    have hu2 : u.line.size ≤ 1000 := by
      rcases hu with hu | hu
      · rcases framed_mem hu with rfl | hu | rfl
        · decide
        · exact h1 u hu
        · decide
      · exact h2 u hu
    rcases e with rfl | rfl
    · exact hu2
    · exact hu2
theorem papp_line {P : PM} {s s' : ByteArray → PL} (h : PApp P s s') (h1 : ∀ x, ∀ t ∈ (s x).S, t.line.size ≤ 1000) (h2 : ∀ t ∈ brsP P, t.line.size ≤ 1000) : ∀ x, ∀ t ∈ (s' x).S, t.line.size ≤ 1000 := by
  intro x
  by_cases hx : ∃ c ∈ P.Cs, c.1 = x
  · obtain ⟨c, hc, rfl⟩ := hx
    exact app_line (h.app c hc) (h1 c.1) (fun t ht => h2 t (List.mem_flatMap.2 ⟨c, hc, ht⟩))
  · rw [h.other x (fun c hc e => hx ⟨c, hc, e⟩)]
    exact h1 x
theorem chain_line : ∀ {Ps : List PM} {s s' : ByteArray → PL}, PChain Ps s s' → (∀ P ∈ Ps, ∀ t ∈ brsP P, t.line.size ≤ 1000) → (∀ x, ∀ t ∈ (s x).S, t.line.size ≤ 1000) → ∀ x, ∀ t ∈ (s' x).S, t.line.size ≤ 1000
  | [], s, s', h, _, h1 => by cases h; exact h1
  | P :: Ps, s, s', ⟨s1, k1, k2⟩, h2, h1 => chain_line k2 (fun Q hQ => h2 Q (List.mem_cons_of_mem _ hQ)) (papp_line k1 h1 (h2 P List.mem_cons_self))
theorem chain_other : ∀ {Ps : List PM} {s s' : ByteArray → PL}, PChain Ps s s' → ∀ x, (∀ P ∈ Ps, ∀ c ∈ P.Cs, c.1 ≠ x) → s' x = s x
  | [], s, s', h, x, _ => by cases h; rfl
  | P :: Ps, s, s', ⟨s1, k1, k2⟩, x, h => by
    rw [chain_other k2 x (fun Q hQ => h Q (List.mem_cons_of_mem _ hQ))]
    exact k1.other x (h P List.mem_cons_self)
theorem HWt.alive {Ps : List PM} {s : ByteArray → PL} (h : HWt Ps s) {x : ByteArray} (ha : (s x).alive = true) : x ∈ names3 := by
  by_cases hx : x ∈ names3
  · exact hx
  · rw [chain_other h.hist.chain x (fun P hP c hc e => hx (e ▸ h.pnm P hP c hc))] at ha
    cases ha
theorem HWt.lines {Ps : List PM} {s : ByteArray → PL} (h : HWt Ps s) : ∀ x, ∀ t ∈ (s x).S, t.line.size ≤ 1000 := chain_line h.hist.chain h.li.line (fun x t ht => by cases ht)
theorem HWt.text {Ps : List PM} {s : ByteArray → PL} (h : HWt Ps s) (x : ByteArray) : (rowText (s x).S).size ≤ 2400000 := by
  have h1 := cat_size (rowLines (s x).S) 1000 (fun l hl => by
    rw [rowLines_eq] at hl
    obtain ⟨t, ht, rfl⟩ := List.mem_map.1 hl
    exact h.lines x t (List.mem_filter.1 ht).1)
  have h2 := rowLines_len (s x).S
  have h3 := h.len_ x
  unfold rowText
  have h4 : (rowLines (s x).S).length * 1000 ≤ 2400 * 1000 := Nat.mul_le_mul_right _ (by omega)
  omega
end Go.Proofs.YtgdfipmdmgkidaaGreatDoor

/- The statement's names and ids. -/
set_option maxHeartbeats 1600000
set_option maxRecDepth 100000
namespace Go.Proofs.YtgdfipmdmgkidaaGreatDoor
open Go.RowKit
theorem kname49_det (c : Int) (h0 : -9223372036854775808 ≤ c) (h1 : c ≤ 9223372036854775807) :
    ∃ x ∈ names3, ∀ w, Calls Tryz.prog 49 #[.int .i64 c] w fun e w' => e = .returned (.string x) ∧ w' = w := by
  obtain ⟨k, hk, hp⟩ := kpick23_det c 3 (by omega) (by omega) h0 h1
  have HP := hid hp
  clear hp
  obtain rfl | rfl | rfl : k = 0 ∨ k = 1 ∨ k = 2 := by omega
  · refine ⟨nmA, by simp [names3], fun w => ?_⟩
    go_enter Tryz.func49, Tryz.ntmps49
    go_wp2_with (go_at_call 31; refine (HP.out _).mono ?_; rintro e w1 ⟨rfl, rfl⟩)
    go_ret
    exact ⟨rfl, rfl⟩
  · refine ⟨nmB, by simp [names3], fun w => ?_⟩
    go_enter Tryz.func49, Tryz.ntmps49
    go_wp2_with (go_at_call 31; refine (HP.out _).mono ?_; rintro e w1 ⟨rfl, rfl⟩)
    go_ret
    exact ⟨rfl, rfl⟩
  · refine ⟨nmG, by simp [names3], fun w => ?_⟩
    go_enter Tryz.func49, Tryz.ntmps49
    go_wp2_with (go_at_call 31; refine (HP.out _).mono ?_; rintro e w1 ⟨rfl, rfl⟩)
    go_ret
    exact ⟨rfl, rfl⟩
abbrev hexS : ByteArray := ⟨#[48, 49, 50, 51, 52, 53, 54, 55, 56, 57, 97, 98, 99, 100, 101, 102]⟩
def hexN (V : Nat) : Nat → ByteArray
  | 0 => ⟨#[]⟩
  | k + 1 => hexS.extract (V / 16 ^ k % 16) (V / 16 ^ k % 16 + 1) ++ hexN V k
theorem hexN_size (V : Nat) : ∀ k, (hexN V k).size ≤ k
  | 0 => Nat.le_refl _
  | k + 1 => by
    have := hexN_size V k
    show (_ ++ hexN V k).size ≤ _
    rw [ByteArray.size_append, ByteArray.size_extract]
    omega
def idW (n : Nat) : ByteArray := hexN (n * 7919 % 65536) 4
theorem kid28_any (n : Nat) (hn : n ≤ 1000) (w : World) :
    Calls Tryz.prog 28 #[.int .i64 n] w fun e w' => e = .returned (.string (idW n)) ∧ w' = w := by
  have e1 : ((n : Int) * 7919).tmod 65536 = ((n * 7919 % 65536 : Nat) : Int) := by
    rw [Int.tmod_eq_emod_of_nonneg (by omega)]
    omega
  obtain ⟨V, hV⟩ : ∃ V, n * 7919 % 65536 = V := ⟨_, rfl⟩
  have HV : Hid (idW n = hexN V 4) := by show _ = _; unfold idW; rw [hV]
  rw [hV] at e1
  have hVl : V < 65536 := by omega
  clear hV
  go_enter Tryz.func28, Tryz.ntmps28
  go_wp2
  go_loopw [3, 4, 5] (fun v s i wr => ∃ k : Nat, k ≤ 4 ∧ i = .int .i64 k ∧ v = .int .i64 ((V / 16 ^ k : Nat) : Int) ∧ s = .string (hexN V k) ∧ wr = w) (fun _ _ i _ => 4 - (intOf i).toNat)
  case atStart => exact ⟨0, by omega, rfl, by simp, rfl, rfl⟩
  case round =>
    obtain ⟨k, hk, rfl, rfl, rfl, rfl⟩ := hrel
    obtain ⟨U, hU⟩ : ∃ U, V / 16 ^ k = U := ⟨_, rfl⟩
    have hUl : U ≤ 65535 := by rw [← hU]; have := Nat.div_le_self V (16 ^ k); omega
    have hsz := hexN_size V k
    obtain ⟨S, hS⟩ : ∃ S, hexN V k = S := ⟨_, rfl⟩
    rw [hS] at hsz
    rw [hU, hS]
    have HN : Hid (V / 16 ^ (k + 1) = U / 16) := by show _ = _; rw [← hU, Nat.pow_succ, Nat.div_div_eq_div_mul]
    have HH : Hid (hexN V (k + 1) = hexS.extract (U % 16) (U % 16 + 1) ++ S) := by show hexN V (k + 1) = _; rw [hexN, hU, hS]
    have HS := hid hS
    by_cases hlt : k < 4
    · have d1 : ((U : Nat) : Int).tmod 16 = ((U % 16 : Nat) : Int) := by rw [Int.tmod_eq_emod_of_nonneg (by omega)]; omega
      have d2 : ((U : Nat) : Int).tdiv 16 = ((U / 16 : Nat) : Int) := by rw [Int.tdiv_eq_ediv_of_nonneg (by omega)]; omega
      clear hU hS
      go_wp2
      go_roundw
      case rel => exact ⟨k + 1, by omega, by go_num, by rw [HN.out]; go_num, by rw [HH.out], trivial⟩
      case measure => simp [intOf]; omega
    · have e : k = 4 := by omega
      subst e
      clear hU hS
      go_wp2
      go_ret
      exact ⟨by rw [HV.out, HS.out]; rfl, rfl⟩
end Go.Proofs.YtgdfipmdmgkidaaGreatDoor

/- The ids as bytes; the commands' words. -/
namespace Go.Proofs.YtgdfipmdmgkidaaGreatDoor
open Go.RowKit
def uc (n i : Nat) : UInt8 := UInt8.ofNat (gb (idW n) i)
def idN (n : Nat) : Pid := ⟨(uc n 0).toNat, (uc n 1).toNat, (uc n 2).toNat, (uc n 3).toNat⟩
def recHead : ByteArray := ⟨#[114, 101, 99, 111, 114, 100, 32]⟩
def unrHead : ByteArray := ⟨#[117, 110, 114, 101, 99, 111, 114, 100, 32]⟩
abbrev spB : ByteArray := ⟨#[32]⟩
theorem ids_words : ∀ n ∈ List.range 42, idW n = ⟨#[uc n 0, uc n 1, uc n 2, uc n 3]⟩ ∧ wordsOk (recHead ++ idW n) = true ∧ splitAll (recHead ++ idW n) = [wdRecord, idW n] ∧ wordsOk (unrHead ++ idW n) = true ∧ splitAll (unrHead ++ idW n) = [wdUnrecord, idW n] := by decide +kernel
theorem ids_words3 : ∀ n ∈ List.range 42, ∀ x ∈ names3, wordsOk (recHead ++ idW n ++ (spB ++ x)) = true ∧ splitAll (recHead ++ idW n ++ (spB ++ x)) = [wdRecord, idW n, x] := by decide +kernel
theorem ids_apart : ∀ n ∈ List.range 42, ∀ m ∈ List.range 42, idN n = idN m → n = m := by decide +kernel
theorem ids_zero : ∀ n ∈ List.range 42, 1 ≤ n → idN n ≠ zid := by decide +kernel
theorem idN_ok (n : Nat) : IdOK (idN n) := by
  have h : ∀ u : UInt8, (0 : Int) ≤ (u.toNat : Int) ∧ (u.toNat : Int) < 256 := fun u => by
    have := u.toNat_lt
    omega
  exact ⟨h _, h _, h _, h _⟩
theorem idW_size {n : Nat} (h : n ≤ 41) : (idW n).size = 4 := by
  rw [(ids_words n (List.mem_range.2 (by omega))).1]
  rfl
theorem cLog_ok : wordsOk wdLog = true ∧ splitAll wdLog = [wdLog] := by decide +kernel
theorem cRevert_ok : wordsOk wdRevert = true ∧ splitAll wdRevert = [wdRevert] := by decide +kernel
def idsTo (n : Nat) : List Pid := (List.range' 1 (n - 1)).map idN
theorem idsTo_len (n : Nat) : (idsTo n).length = n - 1 := by simp [idsTo]
theorem idsTo_next {n : Nat} (h : 1 ≤ n) : idsTo (n + 1) = idsTo n ++ [idN n] := by
  unfold idsTo
  have : n + 1 - 1 = (n - 1) + 1 := by omega
  rw [this, List.range'_concat, List.map_append]
  simp
  congr 1
  omega
theorem idsTo_fresh {n : Nat} (h1 : 1 ≤ n) (h : n ≤ 41) : idN n ∉ idsTo n := by
  unfold idsTo
  intro hm
  obtain ⟨m, hm, e⟩ := List.mem_map.1 hm
  rw [List.mem_range'] at hm
  obtain ⟨i, hi, rfl⟩ := hm
  have := ids_apart _ (List.mem_range.2 (by omega)) n (List.mem_range.2 (by omega)) e
  omega
end Go.Proofs.YtgdfipmdmgkidaaGreatDoor

/- Kept of a name of which nothing is kept. -/
set_option maxHeartbeats 3200000
set_option maxRecDepth 100000
namespace Go.Proofs.YtgdfipmdmgkidaaGreatDoor
open Go.RowKit
section
variable {B pb rg : Nat} {cap : Cfg} {gb : Nat} {pv : Value} {Ps : List PM} {fb fn : Nat} {f : ByteArray → Option ByteArray} {G : List Pid}
theorem keptText46_dead {w : World} (h : OneAt w B pb rg cap gb pv Ps fb fn f G) {st : Nat → Nat → ByteArray → PL} {cnt : Nat → Nat} (hs : Stands Ps st cnt) (hPs : Ps.length ≤ 1000) (x : ByteArray) (hx : x.size ≤ 1000) (hnm : nameB x = true) (hal : (st Ps.length 0 x).alive = false) (hS : (st Ps.length 0 x).S.length ≤ 1000000) (hT : (rowText (st Ps.length 0 x).S).size ≤ 1000000000) :
    Calls Tryz.prog 46 #[.pointer (some ⟨rg, cap.r * 2, none⟩), .string x] w fun e w' => e = .returned (.tuple #[.string ⟨#[]⟩, .int .i64 5]) ∧ Below w.heap.size w w' := by
  have HN : Hid (Calls Tryz.prog 61 #[.string x] w fun e w' => e = .returned (.bool true) ∧ Below w.heap.size w w') := by
    have := isName42_any x w
    rw [hnm] at this
    exact this
  have hkp : keptPL (st Ps.length 0) x = .agg #[.string x, .bool false, .string ⟨#[]⟩] := by unfold keptPL; rw [if_neg (by rw [hal]; simp)]; rfl
  have HF : Hid (∀ w' mb n, n ≤ 100000 → TreeAt w' mb (st Ps.length 0) n → Calls Tryz.prog 78 #[.agg #[.map (some mb)], .string x] w' fun e w'' => e = .returned (.agg #[.string x, .bool false, .string ⟨#[]⟩]) ∧ Below w'.heap.size w' w'') := fun w' mb n hn ht => by
    have := file55_any (st Ps.length 0) mb n x (by omega) w' ht (by omega) hS hT
    rw [hkp] at this
    exact this
  have HK : Hid (∀ u, Below w.heap.size w u → Calls Tryz.prog 77 #[.pointer (some ⟨rg, cap.r * 2, none⟩)] u fun e w' => ∃ mb n, e = .returned (.agg #[.map (some mb)]) ∧ TreeAt w' mb (st Ps.length 0) n ∧ n ≤ 100000 ∧ u.heap.size ≤ mb ∧ Below u.heap.size u w') := fun u hu => by
    have h1 := h.below hu
    exact kept_any hs h1.view (by omega) h1.r0 h1.lts.2.1
  clear h hs hkp hT hS hal hnm
  go_enter Tryz.func46, Tryz.ntmps46
  go_wp2_with fail
  refine HN.out.mono ?_
  rintro e w1 ⟨rfl, hb1⟩
  clear HN
  go_wp2_with fail
  refine (HK.out w1 hb1).mono ?_
  rintro e w2 ⟨mb, n, rfl, ht, hn, _, hb2⟩
  have HF2 := hid (HF.out w2 mb n hn ht)
  have hs1 := hb1.size
  have hs2 := hb2.size
  clear HK HF ht
  go_wp2_with fail
  refine HF2.out.mono ?_
  rintro e w3 ⟨rfl, hb3⟩
  clear HF2
  have hb4 : Below w.heap.size w w3 := (hb1.trans (hb2.mono hs1)).trans (hb3.mono (by omega))
  go_wp2
  go_ret2
  exact ⟨rfl, hb4.alloc hb4.size _⟩
theorem kept18_one {w : World} (h : OneAt w B pb rg cap gb pv Ps fb fn f G) {st : Nat → Nat → ByteArray → PL} {cnt : Nat → Nat} (hs : Stands Ps st cnt) (hPs : Ps.length ≤ 1000) (x : ByteArray) (hx : x.size ≤ 1000) (hnm : nameB x = true) (hS : (st Ps.length 0 x).S.length ≤ 1000000) (hT : (rowText (st Ps.length 0 x).S).size ≤ 1000000000) :
    Calls Tryz.prog 18 #[.pointer (some ⟨pb, 0, none⟩), .int .i64 cap.r, .string x] w fun e w' => e = .returned (.tuple #[.string (if (st Ps.length 0 x).alive = true then rowText (st Ps.length 0 x).S else ⟨#[]⟩), .int .i64 (if (st Ps.length 0 x).alive = true then 0 else 5)]) ∧ Below w.heap.size w w' := by
  cases hal : (st Ps.length 0 x).alive
  · have HA : Hid (Calls Tryz.prog 42 #[.pointer (some ⟨pb, 0, none⟩), .int .i64 cap.r] w fun e w' => e = .returned (.bool true) ∧ w' = w) := has26_zero h
    have HK := hid (keptText46_dead h hs hPs x hx hnm hal hS hT)
    have c0 := h.c0
    have hcap := h.cap1.1
    have hcap2 := h.cap1.2.1
    have g1 : (cap.r : Int) < (cap.nr : Int) := by omega
    clear h hs hal hS hT
    go_enter Tryz.func18, Tryz.ntmps18
    go_wp2_with fail
    refine HA.out.mono ?_
    rintro e w0 ⟨rfl, rfl⟩
    clear HA
    go_wp2_with fail
    refine HK.out.mono ?_
    rintro e w1 ⟨rfl, h2⟩
    clear HK
    go_wp2
    go_ret2
    exact ⟨rfl, h2⟩
  · exact kept13_alive h hs hPs x hx hnm hal hS hT
end
end Go.Proofs.YtgdfipmdmgkidaaGreatDoor

/- The calls of the statement's scripts on a world of one repository. -/
namespace Go.Proofs.YtgdfipmdmgkidaaGreatDoor
open Go.RowKit
abbrev kin (t : TypeId) : Prop := t = 9 ∨ t = 53
abbrev kin3 (t : TypeId) : Prop := t = 9 ∨ t = 53 ∨ t = 45
theorem kin3k {w w' : World} (h : HeldT kin3 w w') : HeldT kin w w' := h.mono (fun _ e => e.elim .inl fun e => .inr (.inl e))
theorem kin9 {w w' : World} (h : HeldT kin w w') : HeldT (· = 9) w w' := h.mono (fun _ e => .inl e)
structure UW (w : World) (B pb rg : Nat) (cap : Cfg) (gb fb : Nat) (Ps : List PM) (f : ByteArray → Option ByteArray) (s : ByteArray → PL) (G : List Pid) : Prop where
  fs : FS Ps f s
  one : ∃ pv, OneAt w B pb rg cap gb pv Ps fb 3 f G
structure UH (w : World) (B pb rg : Nat) (cap : Cfg) (gb fb : Nat) (Ps : List PM) (f : ByteArray → Option ByteArray) (s : ByteArray → PL) (G : List Pid) : Prop where
  hw : HWt Ps s
  fnm : ∀ x, (f x).isSome = true → x ∈ names3
  one : ∃ pv, OneAt w B pb rg cap gb pv Ps fb 3 f G
section
variable {w : World} {B pb rg : Nat} {cap : Cfg} {gb fb : Nat} {Ps : List PM} {f : ByteArray → Option ByteArray} {s : ByteArray → PL} {G : List Pid}
theorem UW.lo (h : UW w B pb rg cap gb fb Ps f s G) : B ≤ w.heap.size := by
  obtain ⟨pv, h1⟩ := h.one
  have := h1.lo
  have := h1.lts
  omega
theorem UW.below (h : UW w B pb rg cap gb fb Ps f s G) {w' : World} (hb : Below w.heap.size w w') : UW w' B pb rg cap gb fb Ps f s G := by
  obtain ⟨pv, h1⟩ := h.one
  exact ⟨h.fs, pv, h1.below hb⟩
theorem UW.of {w' : World} {pv : Value} {fn : Nat} (hf : FS Ps f s) (h : OneAt w' B pb rg cap gb pv Ps fb fn f G) : UW w' B pb rg cap gb fb Ps f s G := ⟨hf, pv, h.few (N := names3) (fun _x hx => hf.mem (.inl hx))⟩
theorem UH.lo (h : UH w B pb rg cap gb fb Ps f s G) : B ≤ w.heap.size := by
  obtain ⟨pv, h1⟩ := h.one
  have := h1.lo
  have := h1.lts
  omega
theorem UH.below (h : UH w B pb rg cap gb fb Ps f s G) {w' : World} (hb : Below w.heap.size w w') : UH w' B pb rg cap gb fb Ps f s G := by
  obtain ⟨pv, h1⟩ := h.one
  exact ⟨h.hw, h.fnm, pv, h1.below hb⟩
theorem UW.uh (h : UW w B pb rg cap gb fb Ps f s G) : UH w B pb rg cap gb fb Ps f s G := ⟨h.fs.hw, fun _x hx => h.fs.mem (.inl hx), h.one⟩
theorem UH.text (h : UH w B pb rg cap gb fb Ps f s G) {x : ByteArray} (hx : x ∈ names3) :
    Calls Tryz.prog 50 #[.pointer (some ⟨pb, 0, none⟩), .int .i64 cap.r, .string x] w fun e w' => e = .returned (.tuple #[.string ((f x).getD ⟨#[]⟩), .int .i64 (if (f x).isSome = true then 0 else 5)]) ∧ Below w.heap.size w w' := by
  obtain ⟨pv, h1⟩ := h.one
  obtain ⟨n1, n2⟩ := names3_ok x hx
  exact text50_one h1 x (by omega) n1
theorem UH.kept (h : UH w B pb rg cap gb fb Ps f s G) {x : ByteArray} (hx : x ∈ names3) :
    Calls Tryz.prog 18 #[.pointer (some ⟨pb, 0, none⟩), .int .i64 cap.r, .string x] w fun e w' => e = .returned (.tuple #[.string (if (s x).alive = true then rowText (s x).S else ⟨#[]⟩), .int .i64 (if (s x).alive = true then 0 else 5)]) ∧ Below w.heap.size w w' := by
  obtain ⟨pv, h1⟩ := h.one
  obtain ⟨n1, n2⟩ := names3_ok x hx
  have hl := h.hw.len
  have s3 := h.hw.text x
  have s1 := h.hw.len_ x
  obtain ⟨st, cnt, hS, rfl, _⟩ := h.hw.stands
  exact kept18_one h1 hS (by omega) x (by omega) n1 (by omega) (by omega)
theorem UW.text (h : UW w B pb rg cap gb fb Ps f s G) {x : ByteArray} (hx : x ∈ names3) :
    Calls Tryz.prog 50 #[.pointer (some ⟨pb, 0, none⟩), .int .i64 cap.r, .string x] w fun e w' => e = .returned (.tuple #[.string ((f x).getD ⟨#[]⟩), .int .i64 (if (f x).isSome = true then 0 else 5)]) ∧ Below w.heap.size w w' := h.uh.text hx
theorem UW.write (h : UW w B pb rg cap gb fb Ps f s G) {x t : ByteArray} (hx : x ∈ names3) (ht : TX t) :
    Calls Tryz.prog 16 #[.pointer (some ⟨pb, 0, none⟩), .int .i64 cap.r, .string x, .string t] w fun e w' => e = .returned (.int .i64 0) ∧ UW w' B pb rg cap gb fb Ps (fun y => if y = x then some t else f y) s G ∧ Below B w w' ∧ HeldT kin3 w w' := by
  obtain ⟨pv, h1⟩ := h.one
  obtain ⟨n1, n2⟩ := names3_ok x hx
  refine (write16_one h1 h.lo x t (by omega) (by omega) n1 ht.ok (.inr (by omega))).mono ?_
  rintro e w' ⟨rfl, h2, h3, h4⟩
  exact ⟨rfl, UW.of (h.fs.put hx ht) h2, h3, h4⟩
theorem UW.erase (h : UW w B pb rg cap gb fb Ps f s G) {x : ByteArray} (hx : x ∈ names3) :
    Calls Tryz.prog 80 #[.pointer (some ⟨pb, 0, none⟩), .int .i64 cap.r, .string x] w fun e w' => ∃ c : Int, e = .returned (.int .i64 c) ∧ (c = 0 ∨ c = 5) ∧ UW w' B pb rg cap gb fb Ps (fun y => if y = x then none else f y) s G ∧ Below B w w' ∧ HeldT kin3 w w' := by
  obtain ⟨pv, h1⟩ := h.one
  obtain ⟨n1, n2⟩ := names3_ok x hx
  refine (erase80_one h1 h.lo x (by omega) n1).mono ?_
  rintro e w' ⟨c, rfl, hc, h2, h3, h4⟩
  exact ⟨c, rfl, hc, UW.of (h.fs.gone x) h2, h3, h4⟩
theorem UH.log (h : UH w B pb rg cap gb fb Ps f s G) :
    Calls Tryz.prog 17 #[.pointer (some ⟨pb, 0, none⟩), .int .i64 cap.r, .string wdLog] w fun e w' => e = .returned (.tuple #[.string ⟨(logL (Ps.map (·.id))).toArray⟩, .int .i64 0]) ∧ Below w.heap.size w w' := by
  obtain ⟨pv, h1⟩ := h.one
  have hl := h.hw.len
  refine (do12_any h1 wdLog cLog_ok.1 (fun x c w' => (x = ⟨(logL (Ps.map (·.id))).toArray⟩ ∧ c = 0) ∧ Below w.heap.size w w') (fun u va vc hu ho => ?_)).mono ?_
  · rw [cLog_ok.2] at ho ⊢
    obtain ⟨wb, rfl, htb, hcap, hcl⟩ := words_at ho (by simp)
    have h0 := hcl 0 (by simp)
    have hO := h1.below hu
    refine (carry45_log pb rg (cap.r * 2) wb 0 1 vc pv u (fun x w' => x = ⟨(logL (Ps.map (·.id))).toArray⟩ ∧ Below u.heap.size u w') h0 (by omega) hO.r0 ((ids67_any Ps pv u hO.view (by omega)).mono fun e w' ⟨k1, k2⟩ => ⟨_, k1, rfl, k2⟩)).mono ?_
    rintro e w' ⟨x, rfl, rfl, hb⟩
    exact ⟨_, 0, rfl, ⟨rfl, rfl⟩, hu.trans (hb.mono hu.size)⟩
  · rintro e w' ⟨x, c, rfl, ⟨rfl, rfl⟩, hb⟩
    exact ⟨rfl, hb⟩
theorem UW.revert (h : UW w B pb rg cap gb fb Ps f s G) :
    Calls Tryz.prog 17 #[.pointer (some ⟨pb, 0, none⟩), .int .i64 cap.r, .string wdRevert] w fun e w' => e = .returned (.tuple #[.string ⟨#[]⟩, .int .i64 0]) ∧ UW w' B pb rg cap gb fb Ps (keptO s) s G ∧ Below B w w' ∧ HeldT kin w w' := by
  obtain ⟨pv, h1⟩ := h.one
  obtain ⟨st, cnt, hS, hse, _, _, hl, _⟩ := h.fs.rep
  refine (do12_any h1 wdRevert cRevert_ok.1 (fun x c w' => (x = ⟨#[]⟩ ∧ c = 0) ∧ UW w' B pb rg cap gb fb Ps (keptO s) s G ∧ Below B w w' ∧ HeldT kin w w') (fun u va vc hu ho => ?_)).mono ?_
  · rw [cRevert_ok.2] at ho ⊢
    obtain ⟨wb, rfl, htb, hcap, hcl⟩ := words_at ho (by simp)
    have h0 := hcl 0 (by simp)
    have hO := h1.below hu
    refine (carry45_revert pb rg (cap.r * 2) wb 0 1 vc u (fun w' => UW w' B pb rg cap gb fb Ps (keptO s) s G ∧ Below B w w' ∧ HeldT kin w w') h0 (by omega) ?_).mono ?_
    · have hN : ∀ x ∈ names3, x.size ≤ 1000 ∧ (st Ps.length 0 x).S.length ≤ 1000000 ∧ (rowText (st Ps.length 0 x).S).size ≤ 1000000000 := fun x hx => by
        rw [hse]
        have := (names3_ok x hx).2
        obtain ⟨s1, _, s3, _⟩ := h.fs.sizes x
        exact ⟨by omega, by omega, by omega⟩
      refine (revert71_any hO hS (Nat.le_trans h.lo hu.size) (by omega) (by omega) names3 (by decide) (fun x hx => h.fs.mem (.inl hx)) (fun x hx => h.fs.mem (.inr (by rw [← hse]; exact hx))) hN).mono ?_
      rintro e w' ⟨rfl, h2, h3, h4⟩
      rw [hse] at h2
      exact ⟨rfl, UW.of h.fs.revert h2, (hu.mono h.lo).trans h3, (HeldT.of_below hu).trans h4⟩
    · rintro e w' ⟨rfl, h2⟩
      exact ⟨_, 0, rfl, ⟨rfl, rfl⟩, h2⟩
  · rintro e w' ⟨x, c, rfl, ⟨rfl, rfl⟩, hb⟩
    exact ⟨rfl, hb⟩
theorem made_of {s : ByteArray → PL} {i : Pid} {Fs : List Fl} {Cs : List (ByteArray × ChM)} {m : Nat → Int} (hM : MadeAll s i Fs Cs m) : ∀ c ∈ Cs, ∃ g ∈ Fs, c.1 = g.name := fun c hc => by
  obtain ⟨k, hk⟩ := List.mem_iff_getElem?.1 hc
  have hkF : k < Fs.length := by rw [← hM.len]; exact (List.getElem?_eq_some_iff.1 hk).1
  exact ⟨_, List.getElem_mem hkF, (hM.at_ k _ c (List.getElem?_eq_getElem hkF) hk).1⟩
structure Recd (w w' : World) (B pb rg : Nat) (cap : Cfg) (gb fb : Nat) (Ps : List PM) (f : ByteArray → Option ByteArray) (s : ByteArray → PL) (G : List Pid) (i : Pid) (Fs : List Fl) (T : ByteArray) : Prop where
  told : ToldIs s Fs T
  ne : T ≠ ⟨#[]⟩
  st : ∃ P : PM, P.id = i ∧ ∃ s', UW w' B pb rg cap gb fb (Ps ++ [P]) f s' (G ++ [i]) ∧ (∀ g ∈ Fs, (s' g.name).alive = g.there ∧ (g.there = true → rowText (s' g.name).S = g.text)) ∧ (∀ x, (∀ g ∈ Fs, g.name ≠ x) → s' x = s x) ∧ leaveR (Ps ++ [P]) i = (⟨#[]⟩, 0) ∧ ((Ps ++ [P]).filter fun P => !decide (P.id = i)) = Ps ∧ (ToldAll Ps → ToldAll (Ps ++ [P])) ∧ (∀ c ∈ P.Cs, ∃ g ∈ Fs, c.1 = g.name)
  below : Below B w w'
  held : HeldT kin w w'
theorem few_ids (h : FS Ps f s) (hP : ∀ P ∈ Ps, P.id ∈ G) : Ps.length ≤ G.length := by
  obtain ⟨_, _, _, _, _, _, _, hids, _⟩ := h.rep
  have := hids.length_le_of_subset (l₂ := G) (fun i hi => by
    obtain ⟨P, h1, rfl⟩ := List.mem_map.1 hi
    exact hP P h1)
  rwa [List.length_map] at this
theorem new_id {i : Pid} (hP : ∀ P ∈ Ps, P.id ∈ G) (hi : i ∉ G) : i ∉ Ps.map (·.id) := fun hm => by
  obtain ⟨P, h1, rfl⟩ := List.mem_map.1 hm
  exact hi (hP P h1)
theorem UW.record_yes (h : UW w B pb rg cap gb fb Ps f s G) {n : Nat} (h1n : 1 ≤ n) (hn : n ≤ 40) (hG : G.length < 40) (hiG : idN n ∉ G) (hP : ∀ P ∈ Ps, P.id ∈ G) (hne : chgOf f s (K0 f s) ≠ []) :
    Calls Tryz.prog 17 #[.pointer (some ⟨pb, 0, none⟩), .int .i64 cap.r, .string (recHead ++ idW n)] w fun e w' => ∃ T, e = .returned (.tuple #[.string T, .int .i64 0]) ∧ Recd w w' B pb rg cap gb fb Ps f s G (idN n) (chgOf f s (K0 f s)) T := by
  obtain ⟨pv, h1⟩ := h.one
  obtain ⟨st, cnt, hS, hse, _, _, hl, _⟩ := h.fs.rep
  obtain ⟨i1, i2, i3, _⟩ := ids_words n (List.mem_range.2 (by omega))
  have hPl : Ps.length < 40 := Nat.lt_of_le_of_lt (few_ids h.fs hP) hG
  refine (do_record h1 (recHead ++ idW n) (uc n 0) (uc n 1) (uc n 2) (uc n 3) ⟨i2, by rw [i3, i1]⟩ 0 (fun T w' => Recd w w' B pb rg cap gb fb Ps f s G (idN n) (chgOf f s (K0 f s)) T) (fun u na nc hu => ?_)).mono (fun e w' ⟨x, k1, k2⟩ => ⟨x, k1, k2⟩)
  have hR := h.fs.recs
  rw [← hse] at hR
  refine (record72_all B pb rg cap gb pv Ps fb 3 f G st cnt (idN n) na nc u (h1.below hu) hS (Nat.le_trans h.lo hu.size) hl (by omega) (idN_ok n) hiG hG hR (fun K hK => ?_) (fun K Cs m hK hM => ?_)).mono ?_
  · rw [hse] at hK ⊢
    have e := h.fs.all_eq hK
    subst e
    exact hne
  · rw [hse] at hK hM ⊢
    have e := h.fs.all_eq hK
    subst e
    exact (h.fs.tells h.fs.chg0 hM).1
  · rintro e w' ⟨K, Cs, m, t, pv', cv, rfl, hK, hM, hT, hO, hb, hh⟩
    rw [hse] at hK hM hT
    have e := h.fs.all_eq hK
    subst e
    have hto := (h.fs.tells h.fs.chg0 hM).2 t hT
    obtain ⟨s', k1, k2, k3, k4, k5⟩ := h.fs.record hPl (new_id hP hiG) (ids_zero n (List.mem_range.2 (by omega)) h1n) h.fs.chg0 hM cv
    exact ⟨_, rfl, ⟨hto, hto.ne hne, ⟨_, rfl, s', UW.of k1 hO, k2, k3, k4, k5, fun hTA => h.fs.told_next hTA h.fs.chg0 hM cv, made_of hM⟩, (hu.mono h.lo).trans hb, (HeldT.of_below hu).trans hh⟩, kin9 hh⟩
end
end Go.Proofs.YtgdfipmdmgkidaaGreatDoor

/- The contract of record of one name that is clean; of a record that is refused. -/
namespace Go.Proofs.YtgdfipmdmgkidaaGreatDoor
open Go.RowKit
set_option maxRecDepth 100000 in
set_option maxHeartbeats 12800000 in
theorem record72_nclean (B pb rg : Nat) (cap : Cfg) (gb : Nat) (pv : Value) (Ps : List PM) (fb fn : Nat) (f : ByteArray → Option ByteArray) (G : List Pid) (st : Nat → Nat → ByteArray → PL) (cnt : Nat → Nat) (i : Pid) (x : ByteArray) (nb no nc : Nat) (w : World)
    (h : OneAt w B pb rg cap gb pv Ps fb fn f G) (hs : Stands Ps st cnt) (_hB : B ≤ w.heap.size) (hPs : Ps.length ≤ 40) (_hfn : fn ≤ 1000) (hi : IdOK i) (hiG : i ∉ G) (hG : G.length < 40) (hv : w.cell? ⟨nb, no, none⟩ = some (.string x)) (hnb : nb < w.heap.size) (hth : (f x).isSome = true ∨ (st Ps.length 0 x).alive = true) (hok : NameOK f (st Ps.length 0) x)
    (hcl : chgOf f (st Ps.length 0) [x] = []) :
    Calls Tryz.prog 72 #[.pointer (some ⟨pb, 0, none⟩), .pointer (some ⟨rg, cap.r * 2, none⟩), .agg #[.int .u8 i.a, .int .u8 i.b, .int .u8 i.c, .int .u8 i.d], .slice (some ⟨nb, no, none⟩) 1 nc] w fun e w' =>
      e = .returned (.tuple #[.string ⟨#[]⟩, .int .i64 9]) ∧ Below w.heap.size w w' := by
  obtain ⟨s, hse⟩ : ∃ s, st Ps.length 0 = s := ⟨_, rfl⟩
  obtain ⟨w1, hw1⟩ : ∃ w1, w1 = w.alloc (.cells #[.int .u8 i.a, .int .u8 i.b, .int .u8 i.c, .int .u8 i.d] 113) := ⟨_, rfl⟩
  have hb1 : Below w.heap.size w w1 := by rw [hw1]; exact (Below.refl _ _).alloc (Nat.le_refl _) _
  have hk1 : w1.heap[w.heap.size]? = some (.cells #[.int .u8 i.a, .int .u8 i.b, .int .u8 i.c, .int .u8 i.d] 113 (0, 0)) := by rw [hw1]; exact (MapKept.heap_alloc w _).1
  have hs1 : w.heap.size < w1.heap.size := by rw [hw1]; simp
  have h1 := h.below hb1
  have HK : Hid (Calls Tryz.prog 77 #[.pointer (some ⟨rg, cap.r * 2, none⟩)] w1 fun e w' => ∃ mb n, e = .returned (.agg #[.map (some mb)]) ∧ TreeAt w' mb s n ∧ n ≤ 100000 ∧ w1.heap.size ≤ mb ∧ Below w1.heap.size w1 w') := by
    have := kept_any hs h1.view (by omega) h1.r0 h1.lts.2.1
    rw [hse] at this
    exact this
  rw [hse] at hok hcl hth
  have HH := hid h1
  have HK1 := hid hk1
  have HB1 := hid hb1
  have HSE := hid hse
  have HOK := hid hok
  have HTH := hid hth
  have HV1 : Hid (w1.cell? ⟨nb, no, none⟩ = some (.string x)) := (hb1.cell (p := ⟨nb, no, none⟩) hnb).trans hv
  have HCL := hid hcl
  clear h h1 hk1 hb1 hs hse hok hcl hth hv
  go_enter Tryz.func72, Tryz.ntmps72
  go_wp2_with fail
  rw [← hw1]
  clear hw1
  refine HK.out.mono ?_
  rintro e w2 ⟨mb, n, rfl, hT2, hn, hmb, hb2⟩
  clear HK
  obtain ⟨w3, hw3⟩ : ∃ w3, w3 = w2.alloc (.cells #[.map (some mb)] 121) := ⟨_, rfl⟩
  have hb23 : Below w2.heap.size w2 w3 := by rw [hw3]; exact (Below.refl _ _).alloc (Nat.le_refl _) _
  have hb13 : Below w1.heap.size w1 w3 := hb2.trans (hb23.mono hb2.size)
  have hk3 : w3.heap[w2.heap.size]? = some (.cells #[.map (some mb)] 121 (0, 0)) := by rw [hw3]; exact (MapKept.heap_alloc w2 _).1
  have hs3 : w2.heap.size < w3.heap.size := by rw [hw3]; simp
  have h3 := HH.out.below hb13
  have hgb1 : gb < w1.heap.size := HH.out.given.lt
  have hrg1 : rg < w1.heap.size := HH.out.lts.2.1
  have hpb1 : pb < w1.heap.size := HH.out.lts.1
  have hT3 := hT2.below hb23 (Nat.le_refl _)
  have HM : Hid (Calls Tryz.prog 125 #[.pointer (some ⟨pb, 0, none⟩), .pointer (some ⟨rg, cap.r * 2, none⟩), .agg #[.map (some mb)], .agg #[.int .u8 i.a, .int .u8 i.b, .int .u8 i.c, .int .u8 i.d], .slice (some ⟨nb, no, none⟩) 1 nc] w3 fun e w' => e = .returned (.int .i64 0) ∧ Below w3.heap.size w3 w') := by
    have hvw : View w3 (some ⟨nb, no, none⟩) [x] := .inr ⟨nb, no, rfl, by have := hb13.size; omega, fun k hk => by
      have : k = 0 := by simp at hk; omega
      subst this
      exact (hb13.cell (p := ⟨nb, no, none⟩) (by show nb < w1.heap.size; omega)).trans HV1.out⟩
    refine (may97_any G gb pb f fb fn rg (cap.r * 2) s mb n i (some ⟨nb, no, none⟩) 1 nc [x] w3 h3.given hi h3.c1 h3.lts.1 h3.files h3.r1 h3.lts.2.1 hT3 hn hvw rfl (by simp) (fun z hz => by
      rw [List.mem_singleton] at hz
      subst hz
      obtain ⟨g1, g2, g3, _⟩ := HOK.out
      exact ⟨g1, by omega, g3⟩)).mono ?_
    rintro e w' ⟨c, rfl, hR, hb⟩
    rcases hR with ⟨hh, _⟩ | ⟨_, hh, _⟩ | ⟨_, _, ⟨z, hz, hz1, hz2⟩, _⟩ | ⟨_, _, _, rfl⟩
    · exact absurd hh hiG
    · omega
    · rw [List.mem_singleton] at hz
      subst hz
      rcases HTH.out with hh | hh
      · rw [hz1] at hh; cases hh
      · rw [hz2] at hh; cases hh
    · exact ⟨rfl, hb⟩
  have m0 : w3.cell? ⟨w2.heap.size, 0, none⟩ = some (.map (some mb)) := by simp [World.cell?, hk3]
  obtain ⟨q0, q1, q2, q3⟩ := cells4_at ((hb2.block _ hs1).trans HK1.out)
  have hs12 := hb2.size
  obtain ⟨qa0, qa1, qa2, qa3⟩ := cells4_at ((hb13.block _ hs1).trans HK1.out)
  rw [hw3] at qa0 qa1 qa2 qa3
  clear q0 q1 q2 q3
  have HK3 := hid hk3
  have HT3 := hid hT3
  have HH3 := hid h3
  have HB13 := hid hb13
  have hs13 := hb13.size
  clear hT2 hT3 h3 hk3 hb23 hb2 hb13 HH
  go_wp2_with fail
  rw [← hw3]
  clear hw3
  refine HM.out.mono ?_
  rintro e w4 ⟨rfl, hb4⟩
  clear HM
  have hk4 := (hb4.block _ hs3).trans HK3.out
  have m4 : w4.cell? ⟨w2.heap.size, 0, none⟩ = some (.map (some mb)) := by simp [World.cell?, hk4]
  have hs4 := hb4.size
  have HH4 := hid (HH3.out.below hb4)
  have HT4 : Hid (TreeAt w4 mb s n) := HT3.out.below hb4 (Nat.le_refl _)
  clear qa0 qa1 qa2 qa3 m0
  have HC : Hid (Calls Tryz.prog 111 #[.pointer (some ⟨rg, cap.r * 2, none⟩), .agg #[.map (some mb)], .slice (some ⟨nb, no, none⟩) 1 nc] w4 fun e w' => ∃ xa xc, e = .returned (.slice xa (chgOf f s [x]).length xc) ∧ FV w' (.slice xa (chgOf f s [x]).length xc) (chgOf f s [x]) ∧ Below w4.heap.size w4 w') := by
    have hb14 : Below w1.heap.size w1 w4 := HB13.out.trans (hb4.mono hs13)
    refine HH4.out.changed1 HT4.out hn HOK.out ((hb14.cell (p := ⟨nb, no, none⟩) (by show nb < w1.heap.size; omega)).trans HV1.out) (by have := hb14.size; omega)
  go_wp2_with fail
  refine HC.out.mono ?_
  rintro e w6 ⟨xa, xc, rfl, hF6, hb6⟩
  clear HC
  have hz6 := HCL.out
  have hz7 : (chgOf f s [x]).length = 0 := by rw [hz6]; rfl
  rw [hz7]
  have HB36 : Hid (Below w3.heap.size w3 w6) := hb4.trans (hb6.mono hs4)
  have HBZ : Hid (Below w.heap.size w w6) := HB1.out.trans ((HB13.out.mono (by omega)).trans (HB36.out.mono (by omega)))
  clear hF6 hz6 hz7 HB36
  go_wp2
  go_ret2
  exact ⟨rfl, HBZ.out⟩
end Go.Proofs.YtgdfipmdmgkidaaGreatDoor
