/- Mathematics: a hunk is laid on a row; two hunks that do not lean on one another change places. -/
import Derived.Test.YtgdfipmdmgkidaaGreatDoorProw
import Derived.Test.YtgdfipmdmgkidaaGreatDoorQneed
namespace Go.Proofs.YtgdfipmdmgkidaaGreatDoor
open Go.RowKit
def HStep (F N Br F' : List Spot) : Prop := ∃ A a M b C, N = a :: (M ++ [b]) ∧ F = A ++ (N ++ C) ∧ F' = A ++ (a :: (deadRow M ++ (Br ++ (b :: C)))) ∧ a.alive = true ∧ b.alive = true ∧ ((∃ m ∈ M, m.alive = true) ∨ Br ≠ [])
def killsH (N : List Spot) : List Spot := deadRow (aliveOf ((N.take (N.length - 1)).drop 1))
theorem mid_of (a b : Spot) (M : List Spot) : ((a :: (M ++ [b])).take ((a :: (M ++ [b])).length - 1)).drop 1 = M := by
  simp
theorem seg_cases {α : Type} {X Z Y A N C : List α} (h : X ++ (Z ++ Y) = A ++ (N ++ C)) (hN : N ≠ []) (hz1 : ∀ t, N.head? = some t → t ∉ Z) (hz2 : ∀ t, N.getLast? = some t → t ∉ Z) (hZ : ∃ z ∈ Z, z ∉ N) :
    (∃ D, X = A ++ (N ++ D) ∧ C = D ++ (Z ++ Y)) ∨ (∃ D, Y = D ++ (N ++ C) ∧ A = X ++ (Z ++ D)) := by
  by_cases h1 : A.length + N.length ≤ X.length
  · left
    have e1 : A ++ N = X.take (A.length + N.length) := by
      have := congrArg (List.take (A.length + N.length)) h
      rw [List.take_append_of_le_length h1, ← List.append_assoc, List.take_left' (by simp)] at this
      exact this.symm
    have e2 : C = X.drop (A.length + N.length) ++ (Z ++ Y) := by
      have := congrArg (List.drop (A.length + N.length)) h
      rw [List.drop_append_of_le_length h1, ← List.append_assoc A N C, List.drop_left' (by simp)] at this
      exact this.symm
    refine ⟨X.drop (A.length + N.length), ?_, e2⟩
    rw [← List.append_assoc, e1, List.take_append_drop]
  · by_cases h2 : X.length + Z.length ≤ A.length
    · right
      have e1 : A.take (X.length + Z.length) = X ++ Z := by
        have := congrArg (List.take (X.length + Z.length)) h
        rw [List.take_append_of_le_length h2, ← List.append_assoc, List.take_left' (by simp)] at this
        exact this.symm
      have e2 : Y = A.drop (X.length + Z.length) ++ (N ++ C) := by
        have := congrArg (List.drop (X.length + Z.length)) h
        rw [List.drop_append_of_le_length h2, ← List.append_assoc X Z Y, List.drop_left' (by simp)] at this
        exact this
      refine ⟨A.drop (X.length + Z.length), e2, ?_⟩
      rw [← List.append_assoc, ← e1, List.take_append_drop]
    · exfalso
      -- positions: X.length - A.length .. : the first of N lies ahead of Z's end, the last behind X's end
      have hat : ∀ j, j < N.length → (X ++ (Z ++ Y))[A.length + j]? = N[j]? := fun j hj => by
        rw [h, List.getElem?_append_right (by omega), List.getElem?_append_left (by omega)]
        congr 1
        omega
      have hzz : ∀ j, j < N.length → X.length ≤ A.length + j → A.length + j < X.length + Z.length → N[j]? = Z[A.length + j - X.length]? := fun j hj h3 h4 => by
        rw [← hat j hj, List.getElem?_append_right h3, List.getElem?_append_left (by omega)]
      have hNl : 0 < N.length := List.length_pos_iff.2 hN
      -- the first is not in Z
      have hA : A.length < X.length := by
        by_cases hc : A.length < X.length
        · exact hc
        · have := hzz 0 hNl (by omega) (by omega)
          have hi : A.length + 0 - X.length < Z.length := by omega
          rw [List.getElem?_eq_getElem hi] at this
          exact absurd (List.getElem_mem hi) (hz1 _ (by rw [List.head?_eq_getElem?]; exact this))
      have hB : X.length + Z.length < A.length + N.length := by
        by_cases hc : X.length + Z.length < A.length + N.length
        · exact hc
        · have := hzz (N.length - 1) (by omega) (by omega) (by omega)
          have hi : A.length + (N.length - 1) - X.length < Z.length := by omega
          rw [List.getElem?_eq_getElem hi] at this
          exact absurd (List.getElem_mem hi) (hz2 _ (by rw [List.getLast?_eq_getElem?]; exact this))
      obtain ⟨z, hz, hzN⟩ := hZ
      obtain ⟨k, hk, rfl⟩ := List.getElem_of_mem hz
      have := hzz (X.length + k - A.length) (by omega) (by omega) (by omega)
      have e : A.length + (X.length + k - A.length) - X.length = k := by omega
      rw [e, List.getElem?_eq_getElem hk] at this
      exact hzN (List.mem_of_getElem? this)
theorem hstep_swap {F F1 F12 N1 B1 N2 B2 : List Spot} (h1 : HStep F N1 B1 F1) (h2 : HStep F1 N2 B2 F12) (hb : ∀ t ∈ N2, t ∉ B1) (hk : ∀ t ∈ N2, t ∉ killsH N1) : ∃ F2, HStep F N2 B2 F2 ∧ HStep F2 N1 B1 F12 := by
  obtain ⟨A1, a1, M1, b1, C1, rfl, rfl, rfl, la1, lb1, e1⟩ := h1
  obtain ⟨A2, a2, M2, b2, C2, rfl, hF, rfl, la2, lb2, e2⟩ := h2
  unfold killsH at hk
  rw [mid_of] at hk
  have hZ : (A1 ++ [a1]) ++ ((deadRow M1 ++ B1) ++ (b1 :: C1)) = A2 ++ ((a2 :: (M2 ++ [b2])) ++ C2) := by
    rw [← hF]
    simp
  have hdead : ∀ t, t.alive = true → t ∈ a2 :: (M2 ++ [b2]) → t ∉ deadRow M1 ++ B1 := fun t ha ht hm => by
    rcases List.mem_append.1 hm with hm | hm
    · obtain ⟨u, _, rfl⟩ := List.mem_map.1 hm
      cases ha
    · exact hb t ht hm
  have hz : ∃ z ∈ deadRow M1 ++ B1, z ∉ a2 :: (M2 ++ [b2]) := by
    rcases e1 with ⟨m, hm, hma⟩ | hne
    · refine ⟨deadS m, List.mem_append.2 (.inl (List.mem_map.2 ⟨m, hm, rfl⟩)), fun hin => ?_⟩
      exact hk _ hin (List.mem_map.2 ⟨m, List.mem_filter.2 ⟨hm, hma⟩, rfl⟩)
    · obtain ⟨z, hz⟩ := List.exists_mem_of_ne_nil _ hne
      exact ⟨z, List.mem_append.2 (.inr hz), fun hin => hb _ hin hz⟩
  have hc := seg_cases hZ (by simp) (fun t ht => by simp at ht; subst ht; exact hdead _ la2 (by simp)) (fun t ht => by
    have : t = b2 := by
      rw [show a2 :: (M2 ++ [b2]) = (a2 :: M2) ++ [b2] by simp, List.getLast?_concat] at ht
      simpa using ht.symm
    subst this
    exact hdead _ lb2 (by simp)) hz
  rcases hc with ⟨D, hX, rfl⟩ | ⟨D, hY, rfl⟩
  · -- the second hunk lies ahead of the first
    have hE : ∃ E, A2 ++ (a2 :: (deadRow M2 ++ (B2 ++ (b2 :: D)))) = E ++ [a1] := by
      by_cases hD : D = []
      · subst hD
        have : b2 = a1 := by
          have := congrArg List.getLast? hX
          rw [List.getLast?_concat, List.append_nil, show A2 ++ (a2 :: (M2 ++ [b2])) = (A2 ++ (a2 :: M2)) ++ [b2] by simp, List.getLast?_concat] at this
          simpa using this.symm
        subst this
        exact ⟨A2 ++ (a2 :: (deadRow M2 ++ B2)), by simp⟩
      · obtain ⟨D', d, rfl⟩ : ∃ D' d, D = D' ++ [d] := ⟨_, _, (List.dropLast_concat_getLast hD).symm⟩
        have : d = a1 := by
          have := congrArg List.getLast? hX
          rw [List.getLast?_concat, show A2 ++ ((a2 :: (M2 ++ [b2])) ++ (D' ++ [d])) = (A2 ++ ((a2 :: (M2 ++ [b2])) ++ D')) ++ [d] by simp, List.getLast?_concat] at this
          simpa using this.symm
        subst this
        exact ⟨A2 ++ (a2 :: (deadRow M2 ++ (B2 ++ (b2 :: D')))), by simp⟩
    obtain ⟨E, hE⟩ := hE
    refine ⟨A2 ++ (a2 :: (deadRow M2 ++ (B2 ++ (b2 :: (D ++ (M1 ++ (b1 :: C1))))))), ⟨A2, a2, M2, b2, D ++ (M1 ++ (b1 :: C1)), rfl, ?_, rfl, la2, lb2, e2⟩, ⟨E, a1, M1, b1, C1, rfl, ?_, ?_, la1, lb1, e1⟩⟩
    · have : A1 ++ ((a1 :: (M1 ++ [b1])) ++ C1) = (A1 ++ [a1]) ++ (M1 ++ (b1 :: C1)) := by simp
      rw [this, hX]
      simp
    · have : E ++ ((a1 :: (M1 ++ [b1])) ++ C1) = (E ++ [a1]) ++ (M1 ++ (b1 :: C1)) := by simp
      rw [this, ← hE]
      simp
    · have : E ++ (a1 :: (deadRow M1 ++ (B1 ++ (b1 :: C1)))) = (E ++ [a1]) ++ ((deadRow M1 ++ B1) ++ (b1 :: C1)) := by simp
      rw [this, ← hE]
      simp
  · -- behind it
    have hE : ∃ E, D ++ (a2 :: (deadRow M2 ++ (B2 ++ (b2 :: C2)))) = b1 :: E := by
      cases D with
      | nil =>
        have : b1 = a2 := by simpa using congrArg List.head? hY
        subst this
        exact ⟨_, rfl⟩
      | cons d D' =>
        have : b1 = d := by simpa using congrArg List.head? hY
        subst this
        exact ⟨_, rfl⟩
    obtain ⟨E, hE⟩ := hE
    refine ⟨(A1 ++ (a1 :: M1)) ++ (D ++ (a2 :: (deadRow M2 ++ (B2 ++ (b2 :: C2))))), ⟨A1 ++ (a1 :: (M1 ++ D)), a2, M2, b2, C2, rfl, ?_, by simp, la2, lb2, e2⟩, ⟨A1, a1, M1, b1, E, rfl, ?_, ?_, la1, lb1, e1⟩⟩
    · have : A1 ++ ((a1 :: (M1 ++ [b1])) ++ C1) = (A1 ++ (a1 :: M1)) ++ (b1 :: C1) := by simp
      rw [this, hY]
      simp
    · rw [hE]
      simp
    · have : A1 ++ (a1 :: (deadRow M1 ++ (B1 ++ (b1 :: E)))) = ((A1 ++ [a1]) ++ (deadRow M1 ++ B1)) ++ (b1 :: E) := by simp
      rw [this, ← hE]
      simp
end Go.Proofs.YtgdfipmdmgkidaaGreatDoor

/- Mathematics: the hunks of a change, one behind the other; a change of a file; two that do not lean on one another change places. -/
namespace Go.Proofs.YtgdfipmdmgkidaaGreatDoor
open Go.RowKit
def HSteps : List Spot → List Hk → List Spot → Prop
  | F, [], F' => F' = F
  | F, h :: Hs, F' => ∃ F1, HStep F h.N h.Br F1 ∧ HSteps F1 Hs F'
theorem hsteps_past : ∀ {Hs : List Hk} {F F1 N B F2 : List Spot}, HSteps F Hs F1 → HStep F1 N B F2 → (∀ h ∈ Hs, ∀ t ∈ N, t ∉ h.Br ∧ t ∉ killsH h.N) → ∃ F0, HStep F N B F0 ∧ HSteps F0 Hs F2
  | [], F, F1, N, B, F2, h, hk, _ => by
    cases h
    exact ⟨F2, hk, rfl⟩
  | h :: Hs, F, F1, N, B, F2, ⟨Fa, h1, h2⟩, hk, hb => by
    obtain ⟨Fb, k1, k2⟩ := hsteps_past h2 hk (fun x hx => hb x (List.mem_cons_of_mem _ hx))
    obtain ⟨F0, j1, j2⟩ := hstep_swap h1 k1 (fun t ht => (hb h List.mem_cons_self t ht).1) (fun t ht => (hb h List.mem_cons_self t ht).2)
    exact ⟨F0, j1, Fb, j2, k2⟩
theorem hsteps_swap : ∀ {Ks Hs : List Hk} {F F1 F2 : List Spot}, HSteps F Hs F1 → HSteps F1 Ks F2 → (∀ k ∈ Ks, ∀ h ∈ Hs, ∀ t ∈ k.N, t ∉ h.Br ∧ t ∉ killsH h.N) → ∃ F0, HSteps F Ks F0 ∧ HSteps F0 Hs F2
  | [], Hs, F, F1, F2, h, hk, _ => by
    cases hk
    exact ⟨F, rfl, h⟩
  | k :: Ks, Hs, F, F1, F2, h, ⟨Fa, h1, h2⟩, hb => by
    obtain ⟨F0, j1, j2⟩ := hsteps_past h h1 (fun x hx => hb k List.mem_cons_self x hx)
    obtain ⟨G, g1, g2⟩ := hsteps_swap j2 h2 (fun x hx => hb x (List.mem_cons_of_mem _ hx))
    exact ⟨G, ⟨F0, j1, g1⟩, g2⟩
/- What a hunk leaves. -/
section
variable {F N B F' : List Spot}
theorem HStep.len (h : HStep F N B F') : F'.length = F.length + B.length := by
  obtain ⟨A, a, M, b, C, rfl, rfl, rfl, _⟩ := h
  simp [deadRow]
  omega
theorem HStep.sub (h : HStep F N B F') : ∀ t ∈ N, t ∈ F := by
  obtain ⟨A, a, M, b, C, rfl, rfl, rfl, _⟩ := h
  intro t ht
  simp only [List.mem_append]
  exact .inr (.inl ht)
theorem HStep.cids (h : HStep F N B F') : (F'.map cid).Perm (F.map cid ++ B.map cid) := by
  obtain ⟨A, a, M, b, C, rfl, rfl, rfl, _⟩ := h
  simp only [List.map_append, List.map_cons, cids_dead, List.append_assoc, List.cons_append, List.nil_append]
  refine List.Perm.append_left _ (List.Perm.cons _ (List.Perm.append_left _ ?_))
  rw [← List.cons_append]
  exact List.perm_append_comm
theorem HStep.mem (h : HStep F N B F') {t : Spot} (ht : t ∈ F') : t ∈ F ∨ t ∈ B ∨ ∃ u ∈ midRow N, u ∈ F ∧ t = deadS u := by
  obtain ⟨A, a, M, b, C, rfl, rfl, rfl, _⟩ := h
  have e : midRow (a :: (M ++ [b])) = M := mid_of a b M
  rw [e]
  simp only [List.mem_append, List.mem_cons] at ht
  rcases ht with ht | rfl | ht | ht | rfl | ht
  · exact .inl (by simp [ht])
  · exact .inl (by simp)
  · obtain ⟨u, hu, rfl⟩ := List.mem_map.1 ht
    exact .inr (.inr ⟨u, hu, by simp [hu], rfl⟩)
  · exact .inr (.inl ht)
  · exact .inl (by simp)
  · exact .inl (by simp [ht])
theorem HStep.head (h : HStep F N B F') {x : Spot} (hx : ∃ Z, F = x :: Z) : ∃ Z, F' = x :: Z := by
  obtain ⟨A, a, M, b, C, rfl, rfl, rfl, _⟩ := h
  obtain ⟨Z, hZ⟩ := hx
  cases A with
  | nil =>
    have : a = x := by simpa using congrArg List.head? hZ
    subst this
    exact ⟨_, rfl⟩
  | cons y A =>
    have : y = x := by simpa using congrArg List.head? hZ
    subst this
    exact ⟨_, rfl⟩
theorem HStep.last (h : HStep F N B F') {x : Spot} (hx : ∃ Y, F = Y ++ [x]) : ∃ Y, F' = Y ++ [x] := by
  obtain ⟨A, a, M, b, C, rfl, rfl, rfl, _⟩ := h
  obtain ⟨Y, hY⟩ := hx
  by_cases hC : C = []
  · subst hC
    have : b = x := by
      have := congrArg List.getLast? hY
      rw [List.append_nil, show A ++ (a :: (M ++ [b])) = (A ++ (a :: M)) ++ [b] by simp, List.getLast?_concat, List.getLast?_concat] at this
      simpa using this
    subst this
    exact ⟨A ++ (a :: (deadRow M ++ B)), by simp⟩
  · obtain ⟨C', c, rfl⟩ : ∃ C' c, C = C' ++ [c] := ⟨_, _, (List.dropLast_concat_getLast hC).symm⟩
    have : c = x := by
      have := congrArg List.getLast? hY
      rw [show A ++ ((a :: (M ++ [b])) ++ (C' ++ [c])) = (A ++ ((a :: (M ++ [b])) ++ C')) ++ [c] by simp, List.getLast?_concat, List.getLast?_concat] at this
      simpa using this
    subst this
    exact ⟨A ++ (a :: (deadRow M ++ (B ++ (b :: C')))), by simp⟩
theorem HStep.apply (h : HStep F N B F') (hn : F.Nodup) : ∃ t p, N[0]? = some t ∧ idxS F t = some p ∧ p + N.length ≤ F.length ∧ 2 ≤ N.length ∧ F' = hApply F N B p := by
  obtain ⟨A, a, M, b, C, rfl, rfl, rfl, _⟩ := h
  refine ⟨a, A.length, rfl, ?_, by simp, by simp, ?_⟩
  · have ha : ∀ x ∈ A, ¬ a = x := fun x hx e => by
      subst e
      rw [List.nodup_append] at hn
      exact hn.2.2 a hx a (by simp) rfl
    unfold idxS
    rw [List.findIdx?_append]
    have : List.findIdx? (fun s => decide (a = s)) A = none := by
      rw [List.findIdx?_eq_none_iff]
      intro x hx
      simp [ha x hx]
    rw [this]
    simp [List.findIdx?_cons]
  · unfold hApply
    have e : midRow (a :: (M ++ [b])) = M := mid_of a b M
    rw [e]
    have t1 : (A ++ ((a :: (M ++ [b])) ++ C)).take (A.length + 1) = A ++ [a] := by
      rw [show A ++ ((a :: (M ++ [b])) ++ C) = (A ++ [a]) ++ (M ++ ([b] ++ C)) by simp]
      exact List.take_left' (by simp)
    have t2 : (A ++ ((a :: (M ++ [b])) ++ C)).drop (A.length + (a :: (M ++ [b])).length - 1) = b :: C := by
      rw [show A ++ ((a :: (M ++ [b])) ++ C) = (A ++ (a :: M)) ++ (b :: C) by simp]
      exact List.drop_left' (by simp)
    rw [t1, t2]
    simp
end
section
variable {i : Pid}
theorem HSteps.seq : ∀ {Hs : List Hk} {F F' : List Spot}, HSteps F Hs F' → ∃ g : Nat → List Spot, g 0 = F ∧ g Hs.length = F' ∧ ∀ (k : Nat) (h : Hk), Hs[k]? = some h → HStep (g k) h.N h.Br (g (k + 1))
  | [], F, F', h => ⟨fun _ => F, rfl, by cases h; rfl, fun k x hk => by simp at hk⟩
  | h :: Hs, F, F', ⟨F1, h1, h2⟩ => by
    obtain ⟨g, g0, g1, g2⟩ := h2.seq
    refine ⟨fun k => match k with | 0 => F | k + 1 => g k, rfl, g1, fun k x hk => ?_⟩
    cases k with
    | zero =>
      simp at hk
      subst hk
      show HStep F h.N h.Br (g 0)
      rw [g0]
      exact h1
    | succ k => exact g2 k x (by simpa using hk)
theorem HSteps.of_seq : ∀ {Hs : List Hk} (g : Nat → List Spot), (∀ (k : Nat) (h : Hk), Hs[k]? = some h → HStep (g k) h.N h.Br (g (k + 1))) → HSteps (g 0) Hs (g Hs.length)
  | [], _, _ => rfl
  | h :: Hs, g, hg => ⟨g 1, hg 0 h rfl, HSteps.of_seq (fun k => g (k + 1)) (fun k x hk => hg (k + 1) x (by simpa using hk))⟩
theorem HSteps.len : ∀ {Hs : List Hk} {F F' : List Spot}, HSteps F Hs F' → F'.length = F.length + (Hs.flatMap (·.Br)).length
  | [], F, F', h => by cases h; simp
  | h :: Hs, F, F', ⟨F1, h1, h2⟩ => by
    have := h1.len
    have := h2.len
    simp only [List.flatMap_cons, List.length_append]
    omega
theorem HSteps.cids : ∀ {Hs : List Hk} {F F' : List Spot}, HSteps F Hs F' → (F'.map cid).Perm (F.map cid ++ (Hs.flatMap (·.Br)).map cid)
  | [], F, F', h => by cases h; simp
  | h :: Hs, F, F', ⟨F1, h1, h2⟩ => by
    refine h2.cids.trans ?_
    simp only [List.flatMap_cons, List.map_append]
    rw [← List.append_assoc]
    exact List.Perm.append_right _ h1.cids
theorem HSteps.mem : ∀ {Hs : List Hk} {F F' : List Spot}, HSteps F Hs F' → ∀ {t : Spot}, t ∈ F' → ∃ u, (u ∈ F ∨ u ∈ Hs.flatMap (·.Br)) ∧ (t = u ∨ t = deadS u)
  | [], F, F', h, t, ht => by cases h; exact ⟨t, .inl ht, .inl rfl⟩
  | h :: Hs, F, F', ⟨F1, h1, h2⟩, t, ht => by
    obtain ⟨u, hu, e⟩ := h2.mem ht
    have key : ∀ v, v ∈ F1 → ∃ x, (x ∈ F ∨ x ∈ (h :: Hs).flatMap (·.Br)) ∧ (v = x ∨ v = deadS x) := fun v hv => by
      rcases h1.mem hv with hv | hv | ⟨x, _, hx, rfl⟩
      · exact ⟨v, .inl hv, .inl rfl⟩
      · exact ⟨v, .inr (by simp [hv]), .inl rfl⟩
      · exact ⟨x, .inl hx, .inr rfl⟩
    rcases hu with hu | hu
    · obtain ⟨x, hx, e2⟩ := key u hu
      refine ⟨x, hx, ?_⟩
      rcases e with rfl | rfl <;> rcases e2 with rfl | rfl
      · exact .inl rfl
      · exact .inr rfl
      · exact .inr rfl
      · exact .inr rfl
    · exact ⟨u, .inr (by rw [List.flatMap_cons]; exact List.mem_append.2 (.inr hu)), e⟩
theorem HSteps.ends : ∀ {Hs : List Hk} {F F' : List Spot}, HSteps F Hs F' → (∃ Z, F = begS :: Z) → (∃ Y, F = Y ++ [endS]) → (∃ Z, F' = begS :: Z) ∧ ∃ Y, F' = Y ++ [endS]
  | [], F, F', h, a, b => by cases h; exact ⟨a, b⟩
  | h :: Hs, F, F', ⟨F1, h1, h2⟩, a, b => h2.ends (h1.head a) (h1.last b)
theorem HSteps.framed {Hs : List Hk} {S F' : List Spot} (h : HSteps (framed S) Hs F') : F' = Go.Proofs.YtgdfipmdmgkidaaGreatDoor.framed (midRow F') := by
  obtain ⟨a, b⟩ := h.ends ⟨_, rfl⟩ ⟨begS :: S, rfl⟩
  exact framed_mid a b
end
end Go.Proofs.YtgdfipmdmgkidaaGreatDoor

/- Mathematics: what a patch makes of the files; two patches, of which the second does not need the first, change places. -/
namespace Go.Proofs.YtgdfipmdmgkidaaGreatDoor
open Go.RowKit
def AppH (i : Pid) : ChM → PL → PL → Prop
  | .add i' l _ S, p, p' => p.alive = false ∧ i' = i ∧ l = p.by_ ∧ p' = ⟨i, true, S⟩
  | .remove i' _ S, p, p' => p.alive = true ∧ i' = p.by_ ∧ S = p.S ∧ p' = ⟨i', false, deadRow S⟩
  | .alter i' _ Hs, p, p' => p.alive = true ∧ i' = p.by_ ∧ Hs ≠ [] ∧ p'.by_ = i' ∧ p'.alive = true ∧ HSteps (framed p.S) Hs (framed p'.S)
def brOf : ChM → List Spot
  | .add _ _ _ S => S
  | .remove .. => []
  | .alter _ _ Hs => Hs.flatMap (·.Br)
structure ChWF (i : Pid) (c : ChM) : Prop where
  own : ∀ t ∈ brOf c, sid t = i ∧ 0 ≤ t.num
  nd : ((brOf c).map cid).Nodup
theorem HSteps.touch : ∀ {Hs : List Hk} {F F' : List Spot}, HSteps F Hs F' → Hs ≠ [] → ∃ t ∈ F', t ∈ Hs.flatMap (·.Br) ∨ t ∈ Hs.flatMap fun h => killsH h.N
  | [], _, _, _, hne => absurd rfl hne
  | [h], F, F', ⟨F1, h1, h2⟩, _ => by
    cases h2
    obtain ⟨A, a, M, b, C, hN, rfl, rfl, _, _, e⟩ := h1
    rcases e with ⟨m, hm, hma⟩ | hne
    · refine ⟨deadS m, ?_, .inr ?_⟩
      · simp only [List.mem_append, List.mem_cons]
        exact .inr (.inr (.inl (List.mem_map.2 ⟨m, hm, rfl⟩)))
      · simp only [List.flatMap_cons, List.flatMap_nil, List.append_nil]
        unfold killsH
        rw [hN, mid_of]
        exact List.mem_map.2 ⟨m, List.mem_filter.2 ⟨hm, hma⟩, rfl⟩
    · obtain ⟨z, hz⟩ := List.exists_mem_of_ne_nil _ hne
      exact ⟨z, by simp [hz], .inl (by simp [hz])⟩
  | h :: h' :: Hs, F, F', ⟨F1, h1, h2⟩, _ => by
    obtain ⟨t, ht, e⟩ := h2.touch (by simp)
    refine ⟨t, ht, ?_⟩
    rcases e with e | e
    · exact .inl (by rw [List.flatMap_cons]; exact List.mem_append.2 (.inr e))
    · exact .inr (by rw [List.flatMap_cons]; exact List.mem_append.2 (.inr e))
theorem killsH_mem {N : List Spot} {t : Spot} (h : t ∈ killsH N) : ∃ u ∈ midRow N, u.alive = true ∧ t = deadS u := killed_mem h
theorem app_swap {i j : Pid} {c d : ChM} {p p1 p2 : PL} (hc : AppH i c p p1) (hd : AppH j d p1 p2) (wc : ChWF i c) (hn : ¬ leansOn (namesOf d) i (killsOf c)) : ∃ q, AppH j d p q ∧ AppH i c q p2 := by
  cases c with
  | add i' l rv S =>
    obtain ⟨a1, _, _, rfl⟩ := hc
    exfalso
    cases d with
    | add => cases hd.1
    | remove i'' rv' S' =>
      obtain ⟨_, e, _⟩ := hd
      exact hn ⟨wholeS i'' true, List.mem_cons_self, .inl e⟩
    | alter i'' hv Ks =>
      obtain ⟨_, e, _⟩ := hd
      exact hn ⟨wholeS i'' true, List.mem_cons_self, .inl e⟩
  | remove i' rv S =>
    obtain ⟨a1, _, _, rfl⟩ := hc
    exfalso
    cases d with
    | add j' l rv' S' =>
      obtain ⟨_, _, e, _⟩ := hd
      refine hn ⟨wholeS l false, List.mem_cons_self, .inr ?_⟩
      rw [e]
      exact List.mem_map.2 ⟨wholeS _ true, List.mem_filter.2 ⟨List.mem_cons_self, rfl⟩, rfl⟩
    | remove => cases hd.1
    | alter => cases hd.1
  | alter i' hv Hs =>
    obtain ⟨a1, rfl, a3, a4, a5, a6⟩ := hc
    cases d with
    | add =>
      have := hd.1
      rw [a5] at this
      cases this
    | remove i'' rv S =>
      exfalso
      obtain ⟨_, _, rfl, _⟩ := hd
      obtain ⟨t, ht, e⟩ := a6.touch a3
      have hin : t ∈ p1.S := by
        rcases framed_mem ht with rfl | h | rfl
        · rcases e with e | e
          · have := (wc.own _ e).2
            simp [begS, edgeS] at this
          · obtain ⟨x, _, hx⟩ := List.mem_flatMap.1 e
            obtain ⟨u, _, _, hu⟩ := killsH_mem hx
            have := congrArg Spot.alive hu
            simp [begS, edgeS, deadS] at this
        · exact h
        · rcases e with e | e
          · have := (wc.own _ e).2
            simp [endS, edgeS] at this
          · obtain ⟨x, _, hx⟩ := List.mem_flatMap.1 e
            obtain ⟨u, _, _, hu⟩ := killsH_mem hx
            have := congrArg Spot.alive hu
            simp [endS, edgeS, deadS] at this
      refine hn ⟨t, List.mem_cons_of_mem _ hin, ?_⟩
      rcases e with e | e
      · exact .inl (wc.own _ e).1
      · exact .inr e
    | alter i'' hv' Ks =>
      obtain ⟨b1, rfl, b3, b4, b5, b6⟩ := hd
      obtain ⟨F0, f1, f2⟩ := hsteps_swap a6 b6 (fun k hk h hh t ht => by
        have hm : t ∈ namesOf (.alter p1.by_ hv' Ks) := List.mem_cons_of_mem _ (List.mem_flatMap.2 ⟨k, hk, ht⟩)
        exact ⟨fun hb => hn ⟨t, hm, .inl (wc.own _ (List.mem_flatMap.2 ⟨h, hh, hb⟩)).1⟩, fun hb => hn ⟨t, hm, .inr (List.mem_flatMap.2 ⟨h, hh, hb⟩)⟩⟩)
      have e0 := f1.framed
      rw [e0] at f1 f2
      exact ⟨⟨p.by_, true, midRow F0⟩, ⟨a1, a4, b3, a4.symm, rfl, f1⟩, ⟨rfl, rfl, a3, by rw [b4, a4], b5, f2⟩⟩
structure PApp (P : PM) (s s' : ByteArray → PL) : Prop where
  app : ∀ c ∈ P.Cs, AppH P.id c.2 (s c.1) (s' c.1)
  other : ∀ x, (∀ c ∈ P.Cs, c.1 ≠ x) → s' x = s x
structure PWF (P : PM) : Prop where
  nd : (P.Cs.map (·.1)).Nodup
  wf : ∀ c ∈ P.Cs, ChWF P.id c.2
  self : ∀ c ∈ P.Cs, ¬ leansOn (namesOf c.2) P.id (killsOf c.2)
theorem one_name {Cs : List (ByteArray × ChM)} (hnd : (Cs.map (·.1)).Nodup) {c d : ByteArray × ChM} (hc : c ∈ Cs) (hd : d ∈ Cs) (e : c.1 = d.1) : c = d := by
  induction Cs with
  | nil => simp at hc
  | cons x L ih =>
    rw [List.map_cons, List.nodup_cons] at hnd
    rcases List.mem_cons.1 hc with rfl | hc' <;> rcases List.mem_cons.1 hd with rfl | hd'
    · rfl
    · exact absurd (List.mem_map.2 ⟨d, hd', e.symm⟩) hnd.1
    · exact absurd (List.mem_map.2 ⟨c, hc', e⟩) hnd.1
    · exact ih hnd.2 hc' hd'
theorem papp_swap {P Q : PM} {s s1 s2 : ByteArray → PL} (hP : PApp P s s1) (hQ : PApp Q s1 s2) (wP : PWF P) (wQ : PWF Q) (hn : ¬ NeedsP Q P) : ∃ t, PApp Q s t ∧ PApp P t s2 := by
  have key : ∀ x, ∃ q, (∀ c ∈ Q.Cs, c.1 = x → AppH Q.id c.2 (s x) q) ∧ (∀ d ∈ P.Cs, d.1 = x → AppH P.id d.2 q (s2 x)) ∧ ((∀ c ∈ Q.Cs, c.1 ≠ x) → q = s x) ∧ ((∀ d ∈ P.Cs, d.1 ≠ x) → q = s2 x) := fun x => by
    by_cases hq : ∃ c ∈ Q.Cs, c.1 = x
    · obtain ⟨c, hc, rfl⟩ := hq
      by_cases hp : ∃ d ∈ P.Cs, d.1 = c.1
      · obtain ⟨d, hd, e⟩ := hp
        have h1 := hP.app d hd
        rw [e] at h1
        obtain ⟨q, q1, q2⟩ := app_swap h1 (hQ.app c hc) (wP.wf d hd) (fun hl => hn ⟨c, hc, d, hd, e.symm, hl⟩)
        refine ⟨q, fun c' hc' e' => ?_, fun d' hd' e' => ?_, fun h => absurd rfl (h c hc), fun h => absurd e (h d hd)⟩
        · rw [one_name wQ.nd hc' hc e']; exact q1
        · rw [one_name wP.nd hd' hd (e'.trans e.symm)]; exact q2
      · have e1 := hP.other c.1 (fun d hd e => hp ⟨d, hd, e⟩)
        refine ⟨s2 c.1, fun c' hc' e' => ?_, fun d hd e => absurd ⟨d, hd, e⟩ hp, fun h => absurd rfl (h c hc), fun _ => rfl⟩
        rw [one_name wQ.nd hc' hc e', ← e1]
        exact hQ.app c hc
    · have e2 := hQ.other x (fun c hc e => hq ⟨c, hc, e⟩)
      refine ⟨s x, fun c hc e => absurd ⟨c, hc, e⟩ hq, fun d hd e => ?_, fun _ => rfl, fun h => ?_⟩
      · rw [e2, ← e]; exact hP.app d hd
      · rw [e2]; exact (hP.other x h).symm
  refine ⟨fun x => (key x).choose, ⟨fun c hc => (key c.1).choose_spec.1 c hc rfl, fun x hx => (key x).choose_spec.2.2.1 hx⟩, ⟨fun d hd => (key d.1).choose_spec.2.1 d hd rfl, fun x hx => ((key x).choose_spec.2.2.2 hx).symm⟩⟩
def PChain : List PM → (ByteArray → PL) → (ByteArray → PL) → Prop
  | [], s, s' => s' = s
  | P :: Ps, s, s' => ∃ s1, PApp P s s1 ∧ PChain Ps s1 s'
theorem PChain.app : ∀ {A B : List PM} {s s' : ByteArray → PL}, PChain (A ++ B) s s' ↔ ∃ t, PChain A s t ∧ PChain B t s'
  | [], B, s, s' => ⟨fun h => ⟨s, rfl, h⟩, fun ⟨t, h1, h2⟩ => by cases h1; exact h2⟩
  | P :: A, B, s, s' => by
    constructor
    · rintro ⟨s1, h1, h2⟩
      obtain ⟨t, h3, h4⟩ := PChain.app.1 h2
      exact ⟨t, ⟨s1, h1, h3⟩, h4⟩
    · rintro ⟨t, ⟨s1, h1, h3⟩, h4⟩
      exact ⟨s1, h1, PChain.app.2 ⟨t, h3, h4⟩⟩
theorem chain_swap {A B : List PM} {P Q : PM} {s s' : ByteArray → PL} (h : PChain (A ++ P :: Q :: B) s s') (wP : PWF P) (wQ : PWF Q) (hn : ¬ NeedsP Q P) : PChain (A ++ Q :: P :: B) s s' := by
  obtain ⟨t, h1, t1, h2, t2, h3, h4⟩ := PChain.app.1 h
  obtain ⟨u, k1, k2⟩ := papp_swap h2 h3 wP wQ hn
  exact PChain.app.2 ⟨t, h1, u, k1, t2, k2, h4⟩
end Go.Proofs.YtgdfipmdmgkidaaGreatDoor

/- Mathematics: a history of patches: what holds of its cells; a patch never needs a later one; neighbours change places. -/
namespace Go.Proofs.YtgdfipmdmgkidaaGreatDoor
open Go.RowKit
theorem HSteps.alive_from : ∀ {Hs : List Hk} {F F' : List Spot}, HSteps F Hs F' → ∀ {v : Spot}, v ∈ F' → v.alive = true → v ∈ F ∨ v ∈ Hs.flatMap (·.Br) := by
  intro Hs F F' h v hv ha
  obtain ⟨u, hu, e⟩ := h.mem hv
  rcases e with rfl | rfl
  · exact hu
  · cases ha
theorem cid_eq {F : List Spot} (h : (F.map cid).Nodup) {s t : Spot} (hs : s ∈ F) (ht : t ∈ F) (e : cid s = cid t) : s = t := nd_alive h hs ht e
theorem hsteps_named : ∀ {Hs : List Hk} {F F' : List Spot}, HSteps F Hs F' → ((F.map cid) ++ (Hs.flatMap (·.Br)).map cid).Nodup → ∀ h ∈ Hs, ∀ t ∈ h.N, (∃ u, (u ∈ F ∨ u ∈ Hs.flatMap (·.Br)) ∧ (t = u ∨ t = deadS u)) ∧ (t.alive = false → ∀ v ∈ F', v.alive = true → cid v ≠ cid t)
  | [], _, _, _, _, h, hh => by simp at hh
  | x :: Hs, F, F', ⟨F1, h1, h2⟩, hn, h, hh => by
    have hn' := hn
    simp only [List.flatMap_cons, List.map_append] at hn'
    rw [← List.append_assoc] at hn'
    have hn1 := (List.Perm.append_right ((Hs.flatMap (·.Br)).map cid) h1.cids).nodup_iff.2 hn'
    intro t ht
    rcases List.mem_cons.1 hh with rfl | hh
    · refine ⟨⟨t, .inl (h1.sub t ht), .inl rfl⟩, fun hd v hv ha e => ?_⟩
      have hw : HSteps F (h :: Hs) F' := ⟨F1, h1, h2⟩
      rcases hw.alive_from hv ha with hv | hv
      · have := cid_eq (List.nodup_append.1 hn).1 hv (h1.sub t ht) e
        subst this
        rw [hd] at ha
        cases ha
      · exact (List.nodup_append.1 hn).2.2 (cid t) (List.mem_map.2 ⟨t, h1.sub t ht, rfl⟩) (cid v) (List.mem_map.2 ⟨v, hv, rfl⟩) e.symm
    · obtain ⟨⟨u, hu, e⟩, k2⟩ := hsteps_named h2 hn1 h hh t ht
      refine ⟨?_, k2⟩
      rcases hu with hu | hu
      · rcases h1.mem hu with hu | hu | ⟨y, _, hy, rfl⟩
        · exact ⟨u, .inl hu, e⟩
        · exact ⟨u, .inr (by simp [hu]), e⟩
        · refine ⟨y, .inl hy, .inr ?_⟩
          rcases e with rfl | rfl <;> rfl
      · exact ⟨u, .inr (by rw [List.flatMap_cons]; exact List.mem_append.2 (.inr hu)), e⟩
theorem HStep.mid_no {F N B F' : List Spot} (h : HStep F N B F') (hn : F.Nodup) {x : Spot} (hx : (∃ Z, F = x :: Z) ∨ ∃ Y, F = Y ++ [x]) : x ∉ midRow N := by
  obtain ⟨A, a, M, b, C, rfl, rfl, rfl, _⟩ := h
  have e : midRow (a :: (M ++ [b])) = M := mid_of a b M
  rw [e]
  intro hm
  obtain ⟨M1, M2, rfl⟩ := List.append_of_mem hm
  rcases hx with ⟨Z, hZ⟩ | ⟨Y, hY⟩
  · cases A with
    | nil =>
      have : a = x := by simpa using congrArg List.head? hZ
      subst this
      simp at hn
    | cons y A =>
      have : y = x := by simpa using congrArg List.head? hZ
      subst this
      simp at hn
  · have hl : (A ++ ((a :: ((M1 ++ x :: M2) ++ [b])) ++ C)) = (A ++ (a :: M1)) ++ (x :: (M2 ++ ([b] ++ C))) := by simp
    rw [hl] at hY hn
    have hne : M2 ++ ([b] ++ C) ≠ [] := by simp
    obtain ⟨D, d, hD⟩ : ∃ D d, M2 ++ ([b] ++ C) = D ++ [d] := ⟨_, _, (List.dropLast_concat_getLast hne).symm⟩
    rw [hD] at hY hn
    have : d = x := by
      have := congrArg List.getLast? hY
      rw [show (A ++ (a :: M1)) ++ (x :: (D ++ [d])) = ((A ++ (a :: M1)) ++ (x :: D)) ++ [d] by simp, List.getLast?_concat, List.getLast?_concat] at this
      simpa using this
    subst this
    have h2 := (List.nodup_append.1 hn).2.1
    rw [List.nodup_cons] at h2
    exact h2.1 (by simp)
theorem hsteps_kills : ∀ {Hs : List Hk} {F F' : List Spot}, HSteps F Hs F' → ((F.map cid) ++ (Hs.flatMap (·.Br)).map cid).Nodup → (∃ Z, F = begS :: Z) → (∃ Y, F = Y ++ [endS]) → ∀ h ∈ Hs, ∀ u ∈ midRow h.N, u.alive = true → u ≠ begS ∧ u ≠ endS ∧ (u ∈ F ∨ u ∈ Hs.flatMap (·.Br))
  | [], _, _, _, _, _, _, h, hh => by simp at hh
  | x :: Hs, F, F', ⟨F1, h1, h2⟩, hn, hb, he, h, hh => by
    have hn' := hn
    simp only [List.flatMap_cons, List.map_append] at hn'
    rw [← List.append_assoc] at hn'
    have hn1 := (List.Perm.append_right ((Hs.flatMap (·.Br)).map cid) h1.cids).nodup_iff.2 hn'
    have hF := nodup_of_map (List.nodup_append.1 hn).1
    intro u hu ha
    rcases List.mem_cons.1 hh with rfl | hh
    · exact ⟨fun e => h1.mid_no hF (.inl hb) (e ▸ hu), fun e => h1.mid_no hF (.inr he) (e ▸ hu), .inl (h1.sub u (midRow_mem hu))⟩
    · obtain ⟨k1, k2, k3⟩ := hsteps_kills h2 hn1 (h1.head hb) (h1.last he) h hh u hu ha
      refine ⟨k1, k2, ?_⟩
      rcases k3 with k3 | k3
      · rcases h1.mem k3 with k3 | k3 | ⟨y, _, _, rfl⟩
        · exact .inl k3
        · exact .inr (by simp [k3])
        · cases ha
      · exact .inr (by rw [List.flatMap_cons]; exact List.mem_append.2 (.inr k3))
section
variable {ids : List Pid} {p p' : PL} {i : Pid} {c : ChM}
theorem br_fresh (h : CellsOK ids p) (hz : zid ∉ ids) (hi : i ∉ ids) (hiz : i ≠ zid) {Hs : List Hk} {j : Pid} {hv : Value} (w : ChWF i (.alter j hv Hs)) : (((framed p.S).map cid) ++ (Hs.flatMap (·.Br)).map cid).Nodup := by
  rw [List.nodup_append]
  refine ⟨cids_framed h hz, w.nd, fun a ha b hb e => ?_⟩
  obtain ⟨s, hs, rfl⟩ := List.mem_map.1 ha
  obtain ⟨t, ht, rfl⟩ := List.mem_map.1 hb
  have e1 : sid s = sid t := congrArg Prod.fst e
  rw [(w.own t ht).1] at e1
  exact fresh_framed h hi hiz s hs ⟨congrArg Pid.a e1, congrArg Pid.b e1, congrArg Pid.c e1, congrArg Pid.d e1⟩
theorem inner_ne {S : List Spot} (hn : ((framed S).map cid).Nodup) {t : Spot} (ht : t ∈ S) : cid t ≠ cid begS ∧ cid t ≠ cid endS := by
  unfold framed at hn
  rw [List.map_cons, List.map_append, List.nodup_cons, List.nodup_append] at hn
  exact ⟨fun e => hn.1 (List.mem_append.2 (.inl (List.mem_map.2 ⟨t, ht, e⟩))), fun e => hn.2.2.2 _ (List.mem_map.2 ⟨t, ht, rfl⟩) _ (by simp) e⟩
theorem app_cells (h : CellsOK ids p) (hz : zid ∉ ids) (hi : i ∉ ids) (hiz : i ≠ zid) (w : ChWF i c) (ha : AppH i c p p') : CellsOK (ids ++ [i]) p' := by
  cases c with
  | add i' l rv S =>
    obtain ⟨_, rfl, _, rfl⟩ := ha
    exact ⟨w.nd, fun s hs => ⟨by simp [(w.own s hs).1], (w.own s hs).2⟩, (fun _ => by simp), .inl (by simp), (fun hd => by cases hd)⟩
  | remove i' rv S =>
    obtain ⟨a1, rfl, rfl, rfl⟩ := ha
    refine ⟨by show ((deadRow p.S).map cid).Nodup; rw [cids_dead]; exact h.nd, fun s hs => ?_, (fun hd => by cases hd), .inl ?_, fun _ s hs => ?_⟩
    · obtain ⟨u, hu, rfl⟩ := List.mem_map.1 hs
      exact ⟨List.mem_append.2 (.inl (h.own u hu).1), (h.own u hu).2⟩
    · exact List.mem_append.2 (.inl (h.byA a1))
    · obtain ⟨u, hu, rfl⟩ := List.mem_map.1 hs
      rfl
  | alter i' hv Hs =>
    obtain ⟨a1, rfl, _, a4, a5, a6⟩ := ha
    have hn := br_fresh h hz hi hiz w
    have hn' : ((framed p'.S).map cid).Nodup := a6.cids.nodup_iff.2 hn
    refine ⟨?_, fun s hs => ?_, fun _ => ?_, .inl ?_, fun hd => by rw [a5] at hd; cases hd⟩
    · unfold framed at hn'
      rw [List.map_cons, List.map_append, List.nodup_cons, List.nodup_append] at hn'
      exact hn'.2.1
    · obtain ⟨n1, n2⟩ := inner_ne hn' hs
      have hsF : s ∈ framed p'.S := by unfold framed; simp [hs]
      obtain ⟨u, hu, e⟩ := a6.mem hsF
      have ec : cid s = cid u := by rcases e with rfl | rfl <;> rfl
      have e1 : sid s = sid u := congrArg Prod.fst ec
      have e2 : s.num = u.num := congrArg Prod.snd ec
      rw [e1, e2]
      rcases hu with hu | hu
      · rcases framed_mem hu with rfl | hu | rfl
        · exact absurd ec n1
        · exact ⟨List.mem_append.2 (.inl (h.own u hu).1), (h.own u hu).2⟩
        · exact absurd ec n2
      · obtain ⟨o1, o2⟩ := w.own u hu
        exact ⟨by simp [o1], o2⟩
    · rw [a4]; exact List.mem_append.2 (.inl (h.byA a1))
    · rw [a4]; exact List.mem_append.2 (.inl (h.byA a1))
theorem app_live (h : CellsOK ids p) (hz : zid ∉ ids) (hi : i ∉ ids) (hiz : i ≠ zid) (w : ChWF i c) (ha : AppH i c p p') : ∀ x ∈ liveC p', x ∈ liveC p ∨ x.1 = i := by
  intro x hx
  obtain ⟨l1, l2⟩ := live_inv hx
  have hc' := app_cells h hz hi hiz w ha
  cases c with
  | add i' l rv S =>
    obtain ⟨_, rfl, _, rfl⟩ := ha
    rcases l2 with rfl | ⟨s, hs, _, rfl⟩
    · exact .inr rfl
    · exact .inr (w.own s hs).1
  | remove i' rv S =>
    obtain ⟨_, _, _, rfl⟩ := ha
    cases l1
  | alter i' hv Hs =>
    obtain ⟨a1, rfl, _, a4, a5, a6⟩ := ha
    rcases l2 with rfl | ⟨s, hs, hsa, rfl⟩
    · rw [a4]
      left
      unfold liveC
      rw [if_pos a1]
      exact List.mem_cons_self
    · have hsF : s ∈ framed p'.S := by unfold framed; simp [hs]
      have h0 := (hc'.own s hs).2
      rcases a6.alive_from hsF hsa with hu | hu
      · rcases framed_mem hu with rfl | hu | rfl
        · simp [begS, edgeS] at h0
        · exact .inl (live_mem a1 hu hsa)
        · simp [endS, edgeS] at h0
      · exact .inr (w.own s hu).1
theorem app_kills (h : CellsOK ids p) (hz : zid ∉ ids) (hi : i ∉ ids) (hiz : i ≠ zid) (w : ChWF i c) (ha : AppH i c p p') : ∀ t ∈ killsOf c, t.alive = false ∧ (cid t ∈ liveC p ∨ sid t = i) := by
  cases c with
  | add i' l rv S => intro t ht; simp [killsOf] at ht
  | remove i' rv S =>
    obtain ⟨a1, rfl, rfl, rfl⟩ := ha
    intro t ht
    obtain ⟨u, hu, hua, rfl⟩ := killed_mem ht
    refine ⟨rfl, .inl ?_⟩
    rw [cid_dead]
    rcases List.mem_cons.1 hu with rfl | hu
    · unfold liveC
      rw [if_pos a1]
      exact List.mem_cons_self
    · exact live_mem a1 hu hua
  | alter i' hv Hs =>
    obtain ⟨a1, rfl, _, a4, a5, a6⟩ := ha
    intro t ht
    obtain ⟨x, hx, ht⟩ := List.mem_flatMap.1 ht
    obtain ⟨u, hu, hua, rfl⟩ := killed_mem ht
    obtain ⟨k1, k2, k3⟩ := hsteps_kills a6 (br_fresh h hz hi hiz w) ⟨_, rfl⟩ ⟨begS :: p.S, rfl⟩ x hx u hu hua
    refine ⟨rfl, ?_⟩
    rw [cid_dead]
    rcases k3 with k3 | k3
    · rcases framed_mem k3 with rfl | k3 | rfl
      · exact absurd rfl k1
      · exact .inl (live_mem a1 k3 hua)
      · exact absurd rfl k2
    · exact .inr (w.own u k3).1
theorem app_names (h : CellsOK ids p) (hz : zid ∉ ids) (hi : i ∉ ids) (hiz : i ≠ zid) (w : ChWF i c) (ha : AppH i c p p') : NamedOK (ids ++ [i]) c p' := by
  have hc' := app_cells h hz hi hiz w ha
  cases c with
  | add i' l rv S =>
    obtain ⟨a1, rfl, rfl, rfl⟩ := ha
    intro t ht
    have ht := List.mem_singleton.1 ht
    subst ht
    refine ⟨?_, fun _ hl => ?_⟩
    · rcases h.byZ with e | e
      · exact .inl (List.mem_append.2 (.inl e))
      · exact .inr e
    · obtain ⟨_, l2⟩ := live_inv hl
      rcases l2 with e | ⟨s, hs, _, e⟩
      · have e1 : p.by_ = i' := congrArg Prod.fst e
        rcases h.byZ with k | k
        · exact hi (e1 ▸ k)
        · exact hiz (e1 ▸ k)
      · have e2 : (-3 : Int) = s.num := congrArg Prod.snd e
        have := (w.own s hs).2
        omega
  | remove i' rv S =>
    obtain ⟨a1, rfl, rfl, rfl⟩ := ha
    intro t ht
    refine ⟨.inl ?_, fun _ hl => ?_⟩
    · rcases List.mem_cons.1 ht with rfl | ht
      · exact List.mem_append.2 (.inl (h.byA a1))
      · exact List.mem_append.2 (.inl (h.own t ht).1)
    · have := (live_inv hl).1
      cases this
  | alter i' hv Hs =>
    obtain ⟨a1, rfl, _, a4, a5, a6⟩ := ha
    intro t ht
    rcases List.mem_cons.1 ht with rfl | ht
    · exact ⟨.inl (List.mem_append.2 (.inl (h.byA a1))), fun hd => by cases hd⟩
    · obtain ⟨x, hx, ht⟩ := List.mem_flatMap.1 ht
      obtain ⟨⟨u, hu, e⟩, k2⟩ := hsteps_named a6 (br_fresh h hz hi hiz w) x hx t ht
      have ec : cid t = cid u := by rcases e with rfl | rfl <;> rfl
      have e1 : sid t = sid u := congrArg Prod.fst ec
      have e2 : t.num = u.num := congrArg Prod.snd ec
      have hu2 : (sid u ∈ ids ++ [i] ∨ sid u = zid) ∧ u.num ≠ -3 := by
        rcases hu with hu | hu
        · rcases framed_mem hu with rfl | hu | rfl
          · exact ⟨.inr rfl, by simp [begS, edgeS]⟩
          · have := (h.own u hu).2
            exact ⟨.inl (List.mem_append.2 (.inl (h.own u hu).1)), by omega⟩
          · exact ⟨.inr rfl, by simp [endS, edgeS]⟩
        · obtain ⟨o1, o2⟩ := w.own u hu
          exact ⟨.inl (by simp [o1]), by omega⟩
      refine ⟨by rw [e1]; exact hu2.1, fun hd hl => ?_⟩
      obtain ⟨_, l2⟩ := live_inv hl
      rcases l2 with l2 | ⟨s, hs, hsa, l2⟩
      · exact hu2.2 (by rw [← e2]; exact congrArg Prod.snd l2)
      · exact k2 hd s (by unfold framed; simp [hs]) hsa l2.symm
end
theorem CellsOK.mono {ids ids' : List Pid} {p : PL} (h : CellsOK ids p) (hs : ∀ i ∈ ids, i ∈ ids') : CellsOK ids' p :=
  ⟨h.nd, fun s k => ⟨hs _ (h.own s k).1, (h.own s k).2⟩, fun a => hs _ (h.byA a), h.byZ.imp (hs _) id, h.dead⟩
structure Hist (Ps : List PM) (s : ByteArray → PL) : Prop where
  chain : PChain Ps (fun _ => pl0) s
  nd : (Ps.map (·.id)).Nodup
  noz : zid ∉ Ps.map (·.id)
  wf : ∀ P ∈ Ps, PWF P
theorem Hist.nil : Hist [] (fun _ => pl0) := ⟨rfl, by simp, by simp, by simp⟩
theorem Hist.pre {A B : List PM} {s : ByteArray → PL} (h : Hist (A ++ B) s) : ∃ t, Hist A t ∧ PChain B t s := by
  obtain ⟨t, h1, h2⟩ := PChain.app.1 h.chain
  have hn := h.nd
  have hz := h.noz
  rw [List.map_append] at hn hz
  exact ⟨t, ⟨h1, (List.nodup_append.1 hn).1, fun k => hz (List.mem_append.2 (.inl k)), fun P hP => h.wf P (List.mem_append.2 (.inl hP))⟩, h2⟩
theorem Hist.snoc {A : List PM} {P : PM} {t s : ByteArray → PL} (h : Hist A t) (hP : PApp P t s) (w : PWF P) (hi : P.id ∉ A.map (·.id)) (hz : P.id ≠ zid) : Hist (A ++ [P]) s := by
  refine ⟨PChain.app.2 ⟨t, h.chain, s, hP, rfl⟩, ?_, ?_, fun Q hQ => ?_⟩
  · rw [List.map_append, List.nodup_append]
    exact ⟨h.nd, by simp, fun a ha b hb e => hi (by simp at hb; rw [← hb, ← e]; exact ha)⟩
  · rw [List.map_append]
    intro k
    rcases List.mem_append.1 k with k | k
    · exact h.noz k
    · simp at k
      exact hz k.symm
  · rcases List.mem_append.1 hQ with hQ | hQ
    · exact h.wf Q hQ
    · rw [List.mem_singleton.1 hQ]; exact w
theorem Hist.last {A : List PM} {P : PM} {s : ByteArray → PL} (h : Hist (A ++ [P]) s) : ∃ t, Hist A t ∧ PApp P t s ∧ PWF P ∧ P.id ∉ A.map (·.id) ∧ P.id ≠ zid := by
  obtain ⟨t, h1, s1, h2, h3⟩ := h.pre
  cases h3
  have hn := h.nd
  have hz := h.noz
  rw [List.map_append] at hn hz
  refine ⟨t, h1, h2, h.wf P (by simp), fun k => ?_, fun k => hz (List.mem_append.2 (.inr (by simp [k])))⟩
  exact (List.nodup_append.1 hn).2.2 _ k _ (by simp) rfl
theorem Hist.good_ : ∀ (n : Nat) {Ps : List PM} {s : ByteArray → PL}, Ps.length = n → Hist Ps s → (∀ x, CellsOK (Ps.map (·.id)) (s x)) ∧ ∀ P ∈ Ps, ∀ c ∈ P.Cs, NamedOK (Ps.map (·.id)) c.2 (s c.1) := by
  intro n
  induction n with
  | zero =>
    intro Ps s hl h
    have : Ps = [] := List.eq_nil_of_length_eq_zero hl
    subst this
    have e := h.chain
    cases e
    exact ⟨fun x => ⟨by simp [pl0], by simp [pl0], (fun h => by cases h), .inr rfl, by simp [pl0]⟩, by simp⟩
  | succ n ih =>
    intro Ps s hl h
    obtain ⟨A, P, rfl⟩ : ∃ A P, Ps = A ++ [P] := by
      have hne : Ps ≠ [] := by rintro rfl; simp at hl
      exact ⟨_, _, (List.dropLast_concat_getLast hne).symm⟩
    obtain ⟨t, hA, hP, w, hi, hiz⟩ := h.last
    obtain ⟨c1, c2⟩ := ih (by simpa using hl) hA
    have hz := hA.noz
    have em : (A ++ [P]).map (·.id) = A.map (·.id) ++ [P.id] := by simp
    rw [em]
    refine ⟨fun x => ?_, fun Q hQ c hc => ?_⟩
    · by_cases hx : ∃ c ∈ P.Cs, c.1 = x
      · obtain ⟨c, hc, rfl⟩ := hx
        exact app_cells (c1 c.1) hz hi hiz (w.wf c hc) (hP.app c hc)
      · rw [hP.other x (fun c hc e => hx ⟨c, hc, e⟩)]
        exact (c1 x).mono (fun i hi => List.mem_append.2 (.inl hi))
    · rcases List.mem_append.1 hQ with hQ | hQ
      · intro u hu
        obtain ⟨k1, k2⟩ := c2 Q hQ c hc u hu
        refine ⟨k1.imp (fun k => List.mem_append.2 (.inl k)) id, fun hd hl => ?_⟩
        by_cases hx : ∃ d ∈ P.Cs, d.1 = c.1
        · obtain ⟨d, hd', e⟩ := hx
          have hap := hP.app d hd'
          rw [e] at hap
          rcases app_live (c1 c.1) hz hi hiz (w.wf d hd') hap _ hl with k | k
          · exact k2 hd k
          · have k' : sid u = P.id := k
            rcases k1 with k1 | k1
            · exact hi (k' ▸ k1)
            · exact hiz (k' ▸ k1)
        · rw [hP.other c.1 (fun d hd e => hx ⟨d, hd, e⟩)] at hl
          exact k2 hd hl
      · have hQ := List.mem_singleton.1 hQ
        subst hQ
        exact app_names (c1 c.1) hz hi hiz (w.wf c hc) (hP.app c hc)
theorem Hist.good {Ps : List PM} {s : ByteArray → PL} (h : Hist Ps s) : (∀ x, CellsOK (Ps.map (·.id)) (s x)) ∧ ∀ P ∈ Ps, ∀ c ∈ P.Cs, NamedOK (Ps.map (·.id)) c.2 (s c.1) := Hist.good_ _ rfl h
theorem Hist.swap {A B : List PM} {P Q : PM} {s : ByteArray → PL} (h : Hist (A ++ P :: Q :: B) s) (hn : ¬ NeedsP Q P) : Hist (A ++ Q :: P :: B) s := by
  have hp : (A ++ Q :: P :: B).Perm (A ++ P :: Q :: B) := List.Perm.append_left _ (List.Perm.swap P Q B)
  refine ⟨chain_swap h.chain (h.wf P (by simp)) (h.wf Q (by simp)) hn, (hp.map _).nodup_iff.2 h.nd, fun k => h.noz ((hp.map _).mem_iff.1 k), fun R hR => h.wf R (hp.mem_iff.1 hR)⟩
end Go.Proofs.YtgdfipmdmgkidaaGreatDoor
