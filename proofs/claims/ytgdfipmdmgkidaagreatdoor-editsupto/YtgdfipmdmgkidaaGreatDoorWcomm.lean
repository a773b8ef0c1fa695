/- The contract of the document's own test whether words are a command. -/
import Derived.Test.YtgdfipmdmgkidaaGreatDoorWsplit
import Derived.Test.YtgdfipmdmgkidaaGreatDoorWids
namespace Go.Proofs.YtgdfipmdmgkidaaGreatDoor
open Go.RowKit

theorem get_one {w : World} {b o : Nat} {a : ByteArray} {T : List ByteArray} (hcR : ∀ k, k < (a :: T).length → w.cell? ⟨b, o + 1 + k, none⟩ = some (.string ((a :: T).getD k ByteArray.empty))) : w.cell? ⟨b, o + 1, none⟩ = some (.string a) := hcR 0 (by simp)

set_option maxRecDepth 100000 in
set_option maxHeartbeats 1600000 in
theorem cmd28_none (t : ByteArray) (ht : noneW t) (R : List ByteArray) (b o cap : Nat) (w : World) (hc0 : w.cell? ⟨b, o, none⟩ = some (.string t)) (hcR : ∀ k, k < R.length → w.cell? ⟨b, o + 1 + k, none⟩ = some (.string (R.getD k ByteArray.empty))) (hlen : R.length ≤ 1000000) (hsz : ∀ l ∈ R, l.size ≤ 100000) :
    Calls Tryz.prog 139 #[.slice (some ⟨b, o, none⟩) (R.length + 1) cap] w fun e w' => e = .returned (.bool R.isEmpty) ∧ Below w.heap.size w w' := by
  match R, hcR, hlen, hsz with
  | [], _, _, _ =>
    rcases ht with rfl | rfl | rfl | rfl
    all_goals
      go_enter Tryz.func139, Tryz.ntmps139
      go_wp2
      go_ret
      exact ⟨rfl, Below.refl _ _⟩
  | a :: T, hcR, hlen, hsz =>
    have hc1 := get_one hcR
    have has : a.size ≤ maxLen := by have := hsz a (by simp); unfold maxLen; omega
    simp only [List.length_cons] at hlen ⊢
    clear hcR hsz
    generalize T.length = n at *
    have hl : (((n + 1 + 1 : Nat) : Int) == 0) = false := by rw [beq_eq_false_iff_ne]; omega
    have hl1 : (((n + 1 + 1 : Nat) : Int) == 1) = false := by rw [beq_eq_false_iff_ne]; omega
    rcases ht with rfl | rfl | rfl | rfl
    all_goals
      go_enter Tryz.func139, Tryz.ntmps139
      go_wp2_with (go_at_call 202; refine (isId36_any _ _ has).mono ?_; rintro e w' ⟨rfl, rfl⟩)
      go_ret
      exact ⟨ret_bool (by simp; omega), Below.refl _ _⟩

set_option maxRecDepth 100000 in
set_option maxHeartbeats 1600000 in
theorem cmd28_one (t : ByteArray) (ht : oneW t) (R : List ByteArray) (b o cap : Nat) (w : World) (hc0 : w.cell? ⟨b, o, none⟩ = some (.string t)) (hcR : ∀ k, k < R.length → w.cell? ⟨b, o + 1 + k, none⟩ = some (.string (R.getD k ByteArray.empty))) (hlen : R.length ≤ 1000000) (hsz : ∀ l ∈ R, l.size ≤ 100000) :
    Calls Tryz.prog 139 #[.slice (some ⟨b, o, none⟩) (R.length + 1) cap] w fun e w' => e = .returned (.bool (oneB R)) ∧ Below w.heap.size w w' := by
  match R, hcR, hlen, hsz with
  | [], _, _, _ =>
    rcases ht with rfl | rfl | rfl | rfl
    all_goals
      go_enter Tryz.func139, Tryz.ntmps139
      go_wp2
      go_ret
      exact ⟨rfl, Below.refl _ _⟩
  | [a], hcR, hlen, hsz =>
    have hc1 := get_one hcR
    have has : a.size ≤ maxLen := by have := hsz a (by simp); unfold maxLen; omega
    clear hcR hsz
    rcases ht with rfl | rfl | rfl | rfl
    all_goals
      go_enter Tryz.func139, Tryz.ntmps139
      go_wp2_with (go_at_call 202; refine (isId36_any _ _ has).mono ?_; rintro e w' ⟨rfl, rfl⟩)
      go_ret
      exact ⟨rfl, Below.refl _ _⟩
  | a :: c :: T, hcR, hlen, hsz =>
    have hc1 := get_one hcR
    have has : a.size ≤ maxLen := by have := hsz a (by simp); unfold maxLen; omega
    have e : oneB (a :: c :: T) = false := rfl
    rw [e]
    simp only [List.length_cons] at hlen ⊢
    clear hcR hsz e
    generalize T.length = n at *
    have hl : (((n + 1 + 1 + 1 : Nat) : Int) == 0) = false := by rw [beq_eq_false_iff_ne]; omega
    have hl1 : (((n + 1 + 1 + 1 : Nat) : Int) == 2) = false := by rw [beq_eq_false_iff_ne]; omega
    rcases ht with rfl | rfl | rfl | rfl
    all_goals
      go_enter Tryz.func139, Tryz.ntmps139
      go_wp2_with (go_at_call 202; refine (isId36_any _ _ has).mono ?_; rintro e w' ⟨rfl, rfl⟩)
      go_ret
      exact ⟨rfl, Below.refl _ _⟩

set_option maxRecDepth 100000 in
set_option maxHeartbeats 1600000 in
theorem cmd28_other (t : ByteArray) (ht : otherW t) (R : List ByteArray) (b o cap : Nat) (w : World) (hc0 : w.cell? ⟨b, o, none⟩ = some (.string t)) (hcR : ∀ k, k < R.length → w.cell? ⟨b, o + 1 + k, none⟩ = some (.string (R.getD k ByteArray.empty))) (hlen : R.length ≤ 1000000) (hsz : ∀ l ∈ R, l.size ≤ 100000) :
    Calls Tryz.prog 139 #[.slice (some ⟨b, o, none⟩) (R.length + 1) cap] w fun e w' => e = .returned (.bool false) ∧ Below w.heap.size w w' := by
  obtain ⟨ha, hb, hc, hd, he, hf, hg, hh, hi, hj⟩ := ht
  match R, hcR, hlen, hsz with
  | [], _, _, _ =>
    go_enter Tryz.func139, Tryz.ntmps139
    go_wp2
    go_ret
    exact ⟨rfl, Below.refl _ _⟩
  | a :: T, hcR, hlen, hsz =>
    have hc1 := get_one hcR
    have has : a.size ≤ maxLen := by have := hsz a (by simp); unfold maxLen; omega
    simp only [List.length_cons] at hlen ⊢
    clear hcR hsz
    generalize T.length = n at *
    have hl : (((n + 1 + 1 : Nat) : Int) == 0) = false := by rw [beq_eq_false_iff_ne]; omega
    go_enter Tryz.func139, Tryz.ntmps139
    go_wp2_with (go_at_call 202; refine (isId36_any _ _ has).mono ?_; rintro e w' ⟨rfl, rfl⟩)
    go_ret
    exact ⟨rfl, Below.refl _ _⟩

set_option maxRecDepth 100000 in
set_option maxHeartbeats 1600000 in
theorem cmd28_pull (R : List ByteArray) (b o cap : Nat) (w : World) (hc0 : w.cell? ⟨b, o, none⟩ = some (.string wPull)) (hcR : ∀ k, k < R.length → w.cell? ⟨b, o + 1 + k, none⟩ = some (.string (R.getD k ByteArray.empty))) (hlen : R.length ≤ 1000000) (hsz : ∀ l ∈ R, l.size ≤ 100000) :
    Calls Tryz.prog 139 #[.slice (some ⟨b, o, none⟩) (R.length + 1) cap] w fun e w' => e = .returned (.bool (pullB R)) ∧ Below w.heap.size w w' := by
  match R, hcR, hlen, hsz with
  | [], _, _, _ =>
    go_enter Tryz.func139, Tryz.ntmps139
    go_wp2
    go_ret
    exact ⟨rfl, Below.refl _ _⟩
  | [a], hcR, hlen, hsz =>
    have hc1 := get_one hcR
    have has : a.size ≤ maxLen := by have := hsz a (by simp); unfold maxLen; omega
    clear hcR hsz
    go_enter Tryz.func139, Tryz.ntmps139
    go_wp2_with fail
    refine (isId36_any _ _ has).mono ?_
    rintro e w' ⟨rfl, rfl⟩
    go_wp2_with fail
    refine (repo38_any _ _).mono ?_
    rintro e w' ⟨r, rfl, hr, rfl⟩
    have HR : Hid (0 ≤ r ↔ repoB a = true) := hr
    clear hr
    by_cases h0 : 0 ≤ r
    · have HB : Hid (repoB a = true) := HR.out.1 h0
      go_wp2
      go_ret
      exact ⟨ret_bool HB.out.symm, Below.refl _ _⟩
    · have HB : Hid (repoB a = false) := by show _ = _; cases h : repoB a; rfl; exact absurd (HR.out.2 h) h0
      go_wp2
      go_ret
      exact ⟨ret_bool HB.out.symm, Below.refl _ _⟩
  | [a, c], hcR, hlen, hsz =>
    have hc1 := get_one hcR
    have hc2 : w.cell? ⟨b, o + 1 + 1, none⟩ = some (.string c) := hcR 1 (by simp)
    have hc2' : w.cell? ⟨b, o + 2, none⟩ = some (.string c) := hc2
    have has : a.size ≤ maxLen := by have := hsz a (by simp); unfold maxLen; omega
    have hcs : c.size ≤ maxLen := by have := hsz c (by simp); unfold maxLen; omega
    clear hcR hsz
    go_enter Tryz.func139, Tryz.ntmps139
    go_wp2_with fail
    refine (isId36_any _ _ has).mono ?_
    rintro e w' ⟨rfl, rfl⟩
    go_wp2_with fail
    refine (repo38_any _ _).mono ?_
    rintro e w' ⟨r, rfl, hr, rfl⟩
    have HR : Hid (0 ≤ r ↔ repoB a = true) := hr
    clear hr
    go_wp2_with fail
    refine (isId36_any _ _ hcs).mono ?_
    rintro e w' ⟨rfl, rfl⟩
    by_cases h0 : 0 ≤ r
    · have HB : Hid (repoB a = true) := HR.out.1 h0
      go_wp2
      go_ret
      exact ⟨ret_bool (by show _ = (repoB a && idB c); rw [HB.out]; rfl), Below.refl _ _⟩
    · have HB : Hid (repoB a = false) := by show _ = _; cases h : repoB a; rfl; exact absurd (HR.out.2 h) h0
      go_wp2
      go_ret
      exact ⟨ret_bool (by show _ = (repoB a && idB c); rw [HB.out]; rfl), Below.refl _ _⟩
  | a :: c :: d :: T, hcR, hlen, hsz =>
    have hc1 := get_one hcR
    have has : a.size ≤ maxLen := by have := hsz a (by simp); unfold maxLen; omega
    have e : pullB (a :: c :: d :: T) = false := rfl
    rw [e]
    simp only [List.length_cons] at hlen ⊢
    clear hcR hsz e
    generalize T.length = n at *
    have hl : (((n + 1 + 1 + 1 + 1 : Nat) : Int) == 0) = false := by rw [beq_eq_false_iff_ne]; omega
    go_enter Tryz.func139, Tryz.ntmps139
    go_wp2_with (go_at_call 202; refine (isId36_any _ _ has).mono ?_; rintro e w' ⟨rfl, rfl⟩)
    go_ret
    exact ⟨rfl, Below.refl _ _⟩

set_option maxRecDepth 100000 in
set_option maxHeartbeats 1600000 in
theorem cmd28_record (R : List ByteArray) (b o cap : Nat) (w : World) (hc0 : w.cell? ⟨b, o, none⟩ = some (.string wRecord)) (hcR : ∀ k, k < R.length → w.cell? ⟨b, o + 1 + k, none⟩ = some (.string (R.getD k ByteArray.empty))) (hlen : R.length ≤ 1000000) (hsz : ∀ l ∈ R, l.size ≤ 100000) :
    Calls Tryz.prog 139 #[.slice (some ⟨b, o, none⟩) (R.length + 1) cap] w fun e w' => e = .returned (.bool (recB R)) ∧ Below w.heap.size w w' := by
  match R, hcR, hlen, hsz with
  | [], _, _, _ =>
    go_enter Tryz.func139, Tryz.ntmps139
    go_wp2
    refine wp_loop_rounds 1 ?_
    rw [rounds_succ]
    go_wp2
    go_ret
    exact ⟨rfl, Below.refl _ _⟩
  | a :: T, hcR, hlen, hsz =>
    have hc1 := get_one hcR
    have hcT : ∀ k, k < T.length → w.cell? ⟨b, o + (k + 2), none⟩ = some (.string (T.getD k ByteArray.empty)) := fun k hk => by
      have := hcR (k + 1) (by simpa using hk)
      rw [show o + (k + 2) = o + 1 + (k + 1) by omega]
      simpa using this
    have has : a.size ≤ maxLen := by have := hsz a (by simp); unfold maxLen; omega
    have hsT : ∀ l ∈ T, l.size ≤ 100000 := fun l hl => hsz l (by simp [hl])
    simp only [List.length_cons] at hlen ⊢
    clear hcR hsz
    have hl : (((T.length + 1 + 1 : Nat) : Int) == 0) = false := by rw [beq_eq_false_iff_ne]; omega
    go_enter Tryz.func139, Tryz.ntmps139
    go_wp2_with fail
    refine (isId36_any _ _ has).mono ?_
    rintro e w' ⟨rfl, rfl⟩
    have HRB : Hid (recB (a :: T) = (idB a && T.all nameB)) := rfl
    generalize idB a = ida at *
    go_wp2
    go_loopw [3, 4] (fun d i wr => ∃ (k q : Nat) (x : Bool), k ≤ T.length ∧ i = .int .i64 ((k : Int) + 2) ∧ d = .bool x ∧ Hid (x = (ida && (T.take k).all nameB)) ∧ wr = w'.drewN q) (fun _ i _ => T.length + 2 - (intOf i).toNat)
    case atStart => exact ⟨0, 0, ida, Nat.zero_le _, rfl, rfl, by show _ = _; simp, rfl⟩
    case round =>
      obtain ⟨k, q, x, hk, rfl, rfl, HX, rfl⟩ := hrel
      by_cases hlt : k < T.length
      · have hcell := hcT k hlt
        have HT : Hid (T.getD k ByteArray.empty = T[k]) := by show _ = _; rw [List.getD_eq_getElem?_getD, List.getElem?_eq_getElem hlt]; rfl
        have hts : (T.getD k ByteArray.empty).size ≤ 100000 := by rw [HT.out]; exact hsT _ (List.getElem_mem hlt)
        generalize T.getD k ByteArray.empty = t at *
        have HNX : Hid (((T.take k).all nameB && nameB t) = (T.take (k + 1)).all nameB) := by
          show _ = _
          rw [List.take_succ_eq_append_getElem hlt, List.all_append, ← HT.out]
          simp
        clear HT hcT hsT
        cases x
        all_goals
          go_wp2_with (go_at_call 164; refine (named37_any t _ (by omega)).mono ?_; rintro e w2 ⟨rfl, q2, rfl⟩)
          go_roundw
          case rel => exact ⟨k + 1, q + q2, _, by omega, by go_num, rfl, by have h := HX.out; show _ = _; rw [← HNX.out, ← Bool.and_assoc, ← h]; rfl, rfl⟩
          case measure => simp [intOf]; omega
      · have e : k = T.length := by omega
        have HF : Hid (recB (a :: T) = x) := by have h := HX.out; rw [e, List.take_length] at h; show _ = _; rw [HRB.out, h]
        clear e hcT hsT HX
        go_wp2
        go_ret
        exact ⟨ret_bool HF.out.symm, below_drewN (Below.refl _ _) q⟩

/-- Which words are a command. -/
def cmdB : List ByteArray → Bool
  | [] => false
  | t :: R => if t = wRecord then recB R else if t = wUnrecord ∨ t = wObliterate ∨ t = wShow ∨ t = wSwap then oneB R else if t = wPull then pullB R else if t = wRevert ∨ t = wNew ∨ t = wLog ∨ t = wOrder then R.isEmpty else false

theorem cmdB_record (R : List ByteArray) : cmdB (wRecord :: R) = recB R := by rw [cmdB, if_pos rfl]
theorem cmdB_one {t : ByteArray} (h : oneW t) (R : List ByteArray) : cmdB (t :: R) = oneB R := by
  rw [cmdB]
  rw [if_neg (by rcases h with rfl | rfl | rfl | rfl <;> decide)]
  exact if_pos h
theorem cmdB_pull (R : List ByteArray) : cmdB (wPull :: R) = pullB R := by
  rw [cmdB]
  rw [if_neg (by decide), if_neg (by decide), if_pos rfl]
theorem cmdB_none {t : ByteArray} (h : noneW t) (R : List ByteArray) : cmdB (t :: R) = R.isEmpty := by
  rw [cmdB]
  rw [if_neg (by rcases h with rfl | rfl | rfl | rfl <;> decide), if_neg (by rcases h with rfl | rfl | rfl | rfl <;> decide), if_neg (by rcases h with rfl | rfl | rfl | rfl <;> decide)]
  exact if_pos h
theorem other_ne {t : ByteArray} {l : List UInt8} (h : (t.toList == l) = false) : t ≠ ⟨l.toArray⟩ := by
  intro e
  rw [e, toList_data] at h
  simp at h
theorem cmdB_other {t : ByteArray} (h : otherW t) (R : List ByteArray) : cmdB (t :: R) = false := by
  have n : ∀ {l : List UInt8}, (t.toList == l) = false → t ≠ ⟨l.toArray⟩ := fun h => other_ne h
  rw [cmdB]
  rw [if_neg (n h.a), if_neg, if_neg (n h.f), if_neg]
  · rintro (e | e | e | e)
    · exact n h.g e
    · exact n h.h e
    · exact n h.i e
    · exact n h.j e
  · rintro (e | e | e | e)
    · exact n h.b e
    · exact n h.c e
    · exact n h.d e
    · exact n h.e e

theorem view_parts {w : World} {ao : Option Addr} {t : ByteArray} {R : List ByteArray} (h : View w ao (t :: R)) :
    ∃ b o, ao = some ⟨b, o, none⟩ ∧ b < w.heap.size ∧ w.cell? ⟨b, o, none⟩ = some (.string t) ∧ ∀ k, k < R.length → w.cell? ⟨b, o + 1 + k, none⟩ = some (.string (R.getD k ByteArray.empty)) := by
  rcases h with h | ⟨b, o, rfl, hb, hc⟩
  · simp at h
  · refine ⟨b, o, rfl, hb, hc 0 (by simp), fun k hk => ?_⟩
    have := hc (k + 1) (by simpa using hk)
    rw [show o + 1 + k = o + (k + 1) by omega]
    simpa using this

theorem cmd26_any (L : List ByteArray) (ao : Option Addr) (cap : Nat) (w : World) (hv : View w ao L) (hcap : L.length ≤ cap) (hlen : L.length ≤ 1000000) :
    Calls Tryz.prog 65 #[.slice ao L.length cap] w fun e w' => e = .returned (.bool (cmdB L)) ∧ Below w.heap.size w w' := by
  match L, hv, hcap, hlen with
  | [], _, _, _ => exact cmd26_empty ao cap w
  | t :: R, hv, hcap, hlen =>
    obtain ⟨b, o, rfl, hb, hc0, hcR⟩ := view_parts hv
    simp only [List.length_cons] at hcap hlen ⊢
    rcases words_all t with h | h | h | h | h
    · subst h; rw [cmdB_record]; exact cmd26_record R b o cap w hb hc0 hcR hcap (by omega)
    · rw [cmdB_one h]; exact cmd26_one t h R b o cap w hc0 hcR hcap (by omega)
    · subst h; rw [cmdB_pull]; exact cmd26_pull R b o cap w hb hc0 hcR hcap (by omega)
    · rw [cmdB_none h]; exact cmd26_none t h R b o cap w hc0 hcap (by omega)
    · rw [cmdB_other h]; exact cmd26_other t h R.length b o cap w hc0 hcap (by omega)

set_option maxRecDepth 100000 in
set_option maxHeartbeats 400000 in
theorem cmd28_empty (ao : Option Addr) (cap : Nat) (w : World) : Calls Tryz.prog 139 #[.slice ao 0 cap] w fun e w' => e = .returned (.bool false) ∧ Below w.heap.size w w' := by
  go_enter Tryz.func139, Tryz.ntmps139
  go_wp2
  go_ret
  exact ⟨rfl, Below.refl _ _⟩

theorem cmd28_any (L : List ByteArray) (ao : Option Addr) (cap : Nat) (w : World) (hv : View w ao L) (hlen : L.length ≤ 1000000) (hsz : ∀ l ∈ L, l.size ≤ 100000) :
    Calls Tryz.prog 139 #[.slice ao L.length cap] w fun e w' => e = .returned (.bool (cmdB L)) ∧ Below w.heap.size w w' := by
  match L, hv, hlen, hsz with
  | [], _, _, _ => exact cmd28_empty ao cap w
  | t :: R, hv, hlen, hsz =>
    obtain ⟨b, o, rfl, hb, hc0, hcR⟩ := view_parts hv
    have hsR : ∀ l ∈ R, l.size ≤ 100000 := fun l hl => hsz l (by simp [hl])
    simp only [List.length_cons] at hlen ⊢
    rcases words_all t with h | h | h | h | h
    · subst h; rw [cmdB_record]; exact cmd28_record R b o cap w hc0 hcR (by omega) hsR
    · rw [cmdB_one h]; exact cmd28_one t h R b o cap w hc0 hcR (by omega) hsR
    · subst h; rw [cmdB_pull]; exact cmd28_pull R b o cap w hc0 hcR (by omega) hsR
    · rw [cmdB_none h]; exact cmd28_none t h R b o cap w hc0 hcR (by omega) hsR
    · rw [cmdB_other h]; exact cmd28_other t h R b o cap w hc0 hcR (by omega) hsR
end Go.Proofs.YtgdfipmdmgkidaaGreatDoor
