/- The contract of the document's sorting of texts. -/
import Derived.Test.YtgdfipmdmgkidaaGreatDoorGlist
import Derived.Deep.QuietTactic
import Derived.BigQuiet
namespace Go.Proofs.YtgdfipmdmgkidaaGreatDoor
open Go.RowKit

def bl (x y : ByteArray) : Bool := Op.bytesLess x.toList y.toList
def ins (x : ByteArray) : List ByteArray → List ByteArray
  | [] => [x]
  | y :: r => if bl x y = true then x :: y :: r else y :: ins x r
theorem ins_none {x : ByteArray} {p r : List ByteArray} (h : ∀ a ∈ p, bl x a = false) : ins x (p ++ r) = p ++ ins x r := by
  induction p with
  | nil => rfl
  | cons a p ih =>
    rw [List.cons_append, ins, if_neg (by rw [h a (by simp)]; simp), ih (fun b hb => h b (by simp [hb]))]
    rfl
theorem ins_some {x y : ByteArray} {p : List ByteArray} (h : p.any (bl x) = true) : ins x (p ++ [y]) = ins x p ++ [y] := by
  induction p with
  | nil => simp at h
  | cons a p ih =>
    rw [List.cons_append, ins, ins]
    by_cases ha : bl x a = true
    · rw [if_pos ha, if_pos ha]; rfl
    · rw [if_neg ha, if_neg ha, ih (by simpa [ha] using h)]
      rfl
theorem ins_len (x : ByteArray) (l : List ByteArray) : (ins x l).length = l.length + 1 := by
  induction l with
  | nil => rfl
  | cons a l ih =>
    rw [ins]
    split
    · rfl
    · simp [ih]
/-- After j rounds: what has been gathered, and whether x has come in. -/
def insTo (x : ByteArray) (out : List ByteArray) (j : Nat) : List ByteArray := if (out.take j).any (bl x) = true then ins x (out.take j) else out.take j
theorem insTo_in {x : ByteArray} {out : List ByteArray} {j : Nat} (hj : j < out.length) (h : (out.take j).any (bl x) = true) : insTo x out (j + 1) = insTo x out j ++ [out[j]] ∧ (out.take (j + 1)).any (bl x) = true := by
  have h2 : (out.take (j + 1)).any (bl x) = true := by rw [List.take_succ_eq_append_getElem hj, List.any_append, h]; rfl
  refine ⟨?_, h2⟩
  unfold insTo
  rw [if_pos h, if_pos h2, List.take_succ_eq_append_getElem hj, ins_some h]
theorem not_any {x : ByteArray} {p : List ByteArray} (h : p.any (bl x) = false) : ∀ a ∈ p, bl x a = false := by
  intro a ha
  rw [List.any_eq_false] at h
  simpa using h a ha
theorem insTo_now {x : ByteArray} {out : List ByteArray} {j : Nat} (hj : j < out.length) (h : (out.take j).any (bl x) = false) (hb : bl x out[j] = true) : insTo x out (j + 1) = insTo x out j ++ [x] ++ [out[j]] ∧ (out.take (j + 1)).any (bl x) = true := by
  have h2 : (out.take (j + 1)).any (bl x) = true := by rw [List.take_succ_eq_append_getElem hj, List.any_append]; simp [hb]
  refine ⟨?_, h2⟩
  unfold insTo
  rw [if_pos h2, if_neg (by rw [h]; simp), List.take_succ_eq_append_getElem hj, ins_none (not_any h), ins, if_pos hb]
  simp
theorem insTo_not {x : ByteArray} {out : List ByteArray} {j : Nat} (hj : j < out.length) (h : (out.take j).any (bl x) = false) (hb : bl x out[j] = false) : insTo x out (j + 1) = insTo x out j ++ [out[j]] ∧ (out.take (j + 1)).any (bl x) = false := by
  have h2 : (out.take (j + 1)).any (bl x) = false := by rw [List.take_succ_eq_append_getElem hj, List.any_append, h]; simp [hb]
  refine ⟨?_, h2⟩
  unfold insTo
  rw [if_neg (by rw [h2]; simp), if_neg (by rw [h]; simp), List.take_succ_eq_append_getElem hj]
theorem insTo_len (x : ByteArray) (out : List ByteArray) (j : Nat) : (insTo x out j).length ≤ out.length + 1 := by
  unfold insTo
  have := List.length_take_le' j out
  split
  · rw [ins_len]; omega
  · omega
theorem insTo_end_in {x : ByteArray} {out : List ByteArray} (h : out.any (bl x) = true) : insTo x out out.length = ins x out := by unfold insTo; rw [List.take_length, if_pos h]
theorem insTo_end_not {x : ByteArray} {out : List ByteArray} (h : out.any (bl x) = false) : insTo x out out.length ++ [x] = ins x out := by
  unfold insTo
  rw [List.take_length, if_neg (by rw [h]; simp)]
  have := ins_none (r := []) (not_any h)
  rw [List.append_nil] at this
  rw [this]
  rfl

/-- One text more: it comes in at its place, if it is not there. -/
def put1 (out : List ByteArray) (x : ByteArray) : List ByteArray := if (whr out x).isSome = true then out else ins x out
def srt (L : List ByteArray) : List ByteArray := L.foldl put1 []
theorem srt_next {L : List ByteArray} {k : Nat} (hk : k < L.length) : srt (L.take (k + 1)) = put1 (srt (L.take k)) L[k] := by
  unfold srt
  rw [List.take_succ_eq_append_getElem hk, List.foldl_append]
  rfl
theorem put1_len (out : List ByteArray) (x : ByteArray) : (put1 out x).length ≤ out.length + 1 := by
  unfold put1
  split
  · omega
  · rw [ins_len]; omega
theorem srt_len (L : List ByteArray) : ∀ k, k ≤ L.length → (srt (L.take k)).length ≤ k
  | 0, _ => by simp [srt]
  | k + 1, h => by
    rw [srt_next (by omega)]
    have := put1_len (srt (L.take k)) (L[k]'(by omega))
    have := srt_len L k (by omega)
    omega

set_option maxRecDepth 100000 in
set_option maxHeartbeats 4000000 in
theorem sorted54_any (L : List ByteArray) (ao : Option Addr) (cap : Nat) (w : World) (hv : View w ao L) (hlen : L.length ≤ 100000) :
    Calls Tryz.prog 143 #[.slice ao L.length cap] w fun e w' => ∃ v, e = .returned v ∧ w'.ownsRow w.heap.size 9 1 v (srt L).length (strs (srt L)) ∧ Below w.heap.size w w' := by
  obtain ⟨i0, hi, hz0, hz1, hz2⟩ := info_parts Tryz.info9
  go_enter Tryz.func143, Tryz.ntmps143
  go_wp2
  go_loopw [3, 4] (fun v i wr => ∃ (k : Nat) (out : List ByteArray), k ≤ L.length ∧ out.length ≤ k ∧ i = .int .i64 k ∧ Hid (out = srt (L.take k)) ∧ wr.ownsRow w.heap.size 9 1 v out.length (strs out) ∧ Below w.heap.size w wr) (fun _ i _ => L.length - (intOf i).toNat)
  case atStart => exact ⟨0, [], Nat.zero_le _, Nat.le_refl _, rfl, rfl, World.ownsRow_nil _ _ _ _, Below.refl _ _⟩
  case round =>
    obtain ⟨k, out, hk, hol, rfl, HO, hown, hbw⟩ := hrel
    obtain ⟨ao2, cap2, rfl⟩ := own_shape hown
    have hsz : w.heap.size ≤ wr.heap.size := hbw.size
    by_cases hlt : k < L.length
    · rcases hv with h | ⟨b, o, rfl, hb, hc⟩
      · omega
      have hcell : wr.cell? ⟨b, o + k, none⟩ = some (.string L[k]) := by rw [← getD_at hlt]; exact (hbw.cell (p := ⟨b, o + k, none⟩) hb).trans (hc k hlt)
      have HX : Hid (srt (L.take (k + 1)) = put1 out L[k]) := by show _ = _; rw [srt_next hlt, HO.out]
      clear hc HO
      generalize L[k] = x at *
      have hw := where79_any out x ao2 cap2 wr (View.own hown) (by omega)
      cases hwh : whr out x with
      | some q =>
        rw [hwh] at hw
        have HP : Hid (put1 out x = out) := by show _ = _; unfold put1; rw [hwh]; rfl
        have hq0 : (0 : Int) ≤ (q : Int) := by omega
        have HW : Hid (Calls Tryz.prog 165 #[.slice ao2 out.length cap2, .string x] wr fun e w' => e = .returned (.int .i64 (q : Int)) ∧ w' = wr) := hw
        clear hw hwh
        go_wp2_with (go_at_call 165; refine HW.out.mono ?_; rintro e w' ⟨rfl, rfl⟩)
        go_roundw
        case rel => exact ⟨k + 1, out, by omega, by omega, by go_num, by show _ = _; rw [HX.out, HP.out], hown, hbw⟩
        case measure => simp [intOf]; omega
      | none =>
        rw [hwh] at hw
        have HP : Hid (put1 out x = ins x out) := by show _ = _; unfold put1; rw [hwh]; rfl
        have HW : Hid (Calls Tryz.prog 165 #[.slice ao2 out.length cap2, .string x] wr fun e w' => e = .returned (.int .i64 (-1)) ∧ w' = wr) := hw
        clear hw hwh
        have hbL : b < wr.heap.size := by omega
        go_wp2_with fail
        refine HW.out.mono ?_
        rintro e w' ⟨rfl, rfl⟩
        go_wp2
        go_loopw [5, 6, 7] (fun m d i wr2 => ∃ (j : Nat) (I : List ByteArray) (t : Bool), j ≤ out.length ∧ I.length ≤ out.length + 1 ∧ i = .int .i64 j ∧ d = .bool t ∧ Hid (t = (out.take j).any (bl x)) ∧ Hid (I = insTo x out j) ∧ wr2.ownsRow w'.heap.size 9 1 m I.length (strs I) ∧ Below w'.heap.size w' wr2) (fun _ _ i _ => out.length - (intOf i).toNat)
        case atStart => exact ⟨0, [], false, Nat.zero_le _, by simp, rfl, rfl, rfl, rfl, World.ownsRow_nil _ _ _ _, Below.refl _ _⟩
        case round =>
          obtain ⟨j, I, t, hj, hIl, rfl, rfl, HT, HI, hm, hb2⟩ := hrel
          have hsz2 : w'.heap.size ≤ wr.heap.size := hb2.size
          have hc1 : wr.cell? ⟨b, o + k, none⟩ = some (.string x) := (hb2.cell (p := ⟨b, o + k, none⟩) hbL).trans hcell
          by_cases hjl : j < out.length
          · obtain ⟨g, hao, hgB, hgs⟩ := own_at hown (by omega)
            subst hao
            have hc2 : wr.cell? ⟨g, j, none⟩ = some (.string out[j]) := by rw [← getD_at hjl]; exact (hb2.cell (p := ⟨g, j, none⟩) hgs).trans (row_cell hown j hjl)
            have hil := insTo_len x out (j + 1)
            have HC2 : Hid (w'.cell? ⟨g, j, none⟩ = some (.string out[j])) := by show _ = _; rw [← getD_at hjl]; exact row_cell hown j hjl
            cases t
            · cases hlb : bl x out[j]
              · have HN := insTo_not hjl HT.out.symm hlb
                rw [← HI.out] at HN
                have hbb : Op.bytesLess x.toList (out[j]).toList = false := hlb
                have HN1 : Hid (insTo x out (j + 1) = I ++ [out[j]]) := HN.1
                have HN2 : Hid ((out.take (j + 1)).any (bl x) = false) := HN.2
                rw [HN.1] at hil
                clear HN hlb
                generalize out[j] = y at *
                go_wp2
                go_quiet (fail)
                go_wp2_with (at_builtin; refine wpList_append_own _ rfl (.tmp 47) (.tmp 52) 35 rfl w'.heap.size 9 i0 (.string ⟨#[]⟩) 1 16 Tryz.underlying35 hi hz0 hz1 hz2 rfl (by decide) _ _ _ rfl (by exact hm.alloc _) ⟨wr.heap.size, 0, none⟩ 1 1 [.string y] rfl rfl (by exact new_one _ _ _) (strs_one [_]) (by unfold maxLen; omega) (by omega) (by simp; omega) ?_)
                intro v' w5 hown' hg _
                have R := step_own (wr := wr.drewN nq) (Nat.le_refl _) hm (below_drewN hb2 nq) hsz2 hown' hg
                clear hown' hg hm hb2 hc1 hc2 hbb
                go_wp2
                go_roundw
                case rel => exact ⟨j + 1, I ++ [y], false, by omega, hil, by go_num, rfl, HN2.out.symm, HN1.out.symm, R.1, R.2.1⟩
                case measure => simp [intOf]; omega
              · have HN := insTo_now hjl HT.out.symm hlb
                rw [← HI.out] at HN
                have hbb : Op.bytesLess x.toList (out[j]).toList = true := hlb
                have HN1 : Hid (insTo x out (j + 1) = I ++ [x] ++ [out[j]]) := HN.1
                have HN2 : Hid ((out.take (j + 1)).any (bl x) = true) := HN.2
                rw [HN.1] at hil
                clear HN hlb
                generalize out[j] = y at *
                go_wp2
                go_quiet (fail)
                go_wp2_with (at_builtin; refine wpList_append_own _ rfl (.tmp 40) (.tmp 45) 35 rfl w'.heap.size 9 i0 (.string ⟨#[]⟩) 1 16 Tryz.underlying35 hi hz0 hz1 hz2 rfl (by decide) _ _ _ rfl (by exact hm.alloc _) ⟨wr.heap.size, 0, none⟩ 1 1 [.string x] rfl rfl (by exact new_one _ _ _) (strs_one [_]) (by unfold maxLen; omega) (by omega) (by simp; omega) ?_)
                intro v' w5 hown' hg _
                have R := step_own (wr := wr.drewN nq) (Nat.le_refl _) hm (below_drewN hb2 nq) hsz2 hown' hg
                have hc2' : w5.cell? ⟨g, j, none⟩ = some (.string y) := (R.2.1.cell (p := ⟨g, j, none⟩) hgs).trans HC2.out
                have hsz5 : w'.heap.size ≤ w5.heap.size := R.2.1.size
                have hm5 := R.1
                have hl5 : (I ++ [x]).length ≤ 200000 := by simp; omega
                obtain ⟨I2, hI2⟩ : ∃ I2, I ++ [x] = I2 := ⟨_, rfl⟩
                rw [hI2] at hm5 hl5 hil
                have HN3 : Hid (insTo x out (j + 1) = I2 ++ [y]) := by show _ = _; rw [HN1.out, hI2]
                clear hI2 HN1
                have hb5 := R.2.1
                clear hown' hg hm hb2 hc1 hc2 hbb R
                go_wp2_with (at_builtin; refine wpList_append_own _ rfl (.tmp 47) (.tmp 52) 35 rfl w'.heap.size 9 i0 (.string ⟨#[]⟩) 1 16 Tryz.underlying35 hi hz0 hz1 hz2 rfl (by decide) _ _ _ rfl (by exact hm5.alloc _) ⟨w5.heap.size, 0, none⟩ 1 1 [.string y] rfl rfl (by exact new_one _ _ _) (strs_one [_]) (by unfold maxLen; omega) (by omega) (by simp; omega) ?_)
                intro v6 w6 hown' hg _
                have R := step_own (Nat.le_refl _) hm5 hb5 hsz5 hown' hg
                clear hown' hg hm5 hb5 hc2'
                go_wp2
                go_roundw
                case rel => exact ⟨j + 1, I2 ++ [y], true, by omega, hil, by go_num, rfl, HN2.out.symm, HN3.out.symm, R.1, R.2.1⟩
                case measure => simp [intOf]; omega
            · have HN := insTo_in hjl HT.out.symm
              rw [← HI.out] at HN
              have HN1 : Hid (insTo x out (j + 1) = I ++ [out[j]]) := HN.1
              have HN2 : Hid ((out.take (j + 1)).any (bl x) = true) := HN.2
              rw [HN.1] at hil
              clear HN
              generalize out[j] = y at *
              go_wp2
              go_quiet (fail)
              go_wp2_with (at_builtin; refine wpList_append_own _ rfl (.tmp 47) (.tmp 52) 35 rfl w'.heap.size 9 i0 (.string ⟨#[]⟩) 1 16 Tryz.underlying35 hi hz0 hz1 hz2 rfl (by decide) _ _ _ rfl (by exact hm.alloc _) ⟨wr.heap.size, 0, none⟩ 1 1 [.string y] rfl rfl (by exact new_one _ _ _) (strs_one [_]) (by unfold maxLen; omega) (by omega) (by simp; omega) ?_)
              intro v' w5 hown' hg _
              have R := step_own (wr := wr.drewN nq) (Nat.le_refl _) hm (below_drewN hb2 nq) hsz2 hown' hg
              clear hown' hg hm hb2 hc1 hc2
              go_wp2
              go_roundw
              case rel => exact ⟨j + 1, I ++ [y], true, by omega, hil, by go_num, rfl, HN2.out.symm, HN1.out.symm, R.1, R.2.1⟩
              case measure => simp [intOf]; omega
          · have ej : j = out.length := by omega
            have HTE : Hid (t = out.any (bl x)) := by have h := HT.out; rw [ej, List.take_length] at h; exact h
            have HIE : Hid (I = insTo x out out.length) := by have h := HI.out; rw [ej] at h; exact h
            clear ej HT HI
            cases t
            · have HE : Hid (I ++ [x] = ins x out) := by show _ = _; rw [HIE.out]; exact insTo_end_not HTE.out.symm
              go_wp2_with (at_builtin; refine wpList_append_own _ rfl (.tmp 56) (.tmp 61) 35 rfl w'.heap.size 9 i0 (.string ⟨#[]⟩) 1 16 Tryz.underlying35 hi hz0 hz1 hz2 rfl (by decide) _ _ _ rfl (by exact hm.alloc _) ⟨wr.heap.size, 0, none⟩ 1 1 [.string x] rfl rfl (by exact new_one _ _ _) (strs_one [_]) (by unfold maxLen; omega) (by omega) (by simp; omega) ?_)
              intro v' w5 hown' hg _
              have R := step_own (Nat.le_refl _) hm hb2 hsz2 hown' hg
              clear hown' hg hm hb2 hc1
              go_wp2
              go_roundw
              case rel => exact ⟨k + 1, I ++ [x], by omega, by rw [HE.out, ins_len]; omega, by go_num, by show _ = _; rw [HE.out, HX.out, HP.out], ownsRow_mono R.1 hsz, hbw.trans (R.2.1.mono hsz)⟩
              case measure => simp [intOf]; omega
            · have HE : Hid (I = ins x out) := by show _ = _; rw [HIE.out]; exact insTo_end_in HTE.out.symm
              go_wp2
              go_roundw
              case rel => exact ⟨k + 1, I, by omega, by rw [HE.out, ins_len]; omega, by go_num, by show _ = _; rw [HE.out, HX.out, HP.out], ownsRow_mono hm hsz, hbw.trans (hb2.mono hsz)⟩
              case measure => simp [intOf]; omega
    · have e : k = L.length := by omega
      have HE : Hid (out = srt L) := by have h := HO.out; rw [e, List.take_length] at h; exact h
      clear e HO
      go_wp2
      go_ret
      rw [HE.out] at hown
      refine ⟨_, rfl, ?_, hbw⟩
      rw [← HE.out] at hown ⊢
      exact hown
end Go.Proofs.YtgdfipmdmgkidaaGreatDoor
