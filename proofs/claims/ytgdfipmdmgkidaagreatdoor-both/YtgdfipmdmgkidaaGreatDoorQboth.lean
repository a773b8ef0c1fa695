/- Mathematics: what fits can be laid; two that went on by themselves. -/
import Derived.Test.YtgdfipmdmgkidaaGreatDoorMpush
import Derived.Test.YtgdfipmdmgkidaaGreatDoorUdo2
import Derived.Test.YtgdfipmdmgkidaaGreatDoorUkf
import Derived.Deep.QuietTactic
import Derived.BigQuiet
import Derived.Test.YtgdfipmdmgkidaaGreatDoorUwr
namespace Go.Proofs.YtgdfipmdmgkidaaGreatDoor
open Go.RowKit
def Aparts (N1 N2 : List Spot) : Prop := (∀ t ∈ N2, t ∉ midRow N1) ∧ ∀ a M b, N1 = a :: (M ++ [b]) → ¬ (a ∈ N2 ∧ b ∈ N2)
theorem hstep_apart {F F1 F12 N1 B1 N2 B2 : List Spot} (h1 : HStep F N1 B1 F1) (h2 : HStep F1 N2 B2 F12) (hF : F.Nodup) (hb : ∀ t ∈ N2, t ∉ B1) (hk : ∀ t ∈ N2, t ∉ killsH N1) : Aparts N1 N2 := by
  obtain ⟨F2, j1, _⟩ := hstep_swap h1 h2 hb hk
  obtain ⟨A1, a1, M1, b1, C1, rfl, rfl, rfl, la1, lb1, e1⟩ := h1
  obtain ⟨A2, a2, M2, b2, C2, rfl, hF2, rfl, la2, lb2, e2⟩ := h2
  unfold killsH at hk
  rw [mid_of] at hk
  have hZ : (A1 ++ [a1]) ++ ((deadRow M1 ++ B1) ++ (b1 :: C1)) = A2 ++ ((a2 :: (M2 ++ [b2])) ++ C2) := by
    rw [← hF2]
    simp
  have hdead : ∀ t, t.alive = true → t ∈ a2 :: (M2 ++ [b2]) → t ∉ deadRow M1 ++ B1 := fun t ha ht hm => by
    rcases List.mem_append.1 hm with hm | hm
    · obtain ⟨u, _, rfl⟩ := List.mem_map.1 hm
      cases ha
    · exact hb t ht hm
  have hzn : ∃ z ∈ deadRow M1 ++ B1, z ∉ a2 :: (M2 ++ [b2]) := by
    rcases e1 with ⟨m, hm, hma⟩ | hne
    · refine ⟨deadS m, List.mem_append.2 (.inl (List.mem_map.2 ⟨m, hm, rfl⟩)), fun hh => hk _ hh (List.mem_map.2 ⟨m, List.mem_filter.2 ⟨hm, hma⟩, rfl⟩)⟩
    · obtain ⟨z, hz⟩ := List.exists_mem_of_ne_nil _ hne
      exact ⟨z, List.mem_append.2 (.inr hz), fun hh => hb z hh hz⟩
  have hc := seg_cases hZ (by simp) (fun t ht => by
    simp only [List.head?_cons, Option.some.injEq] at ht
    subst ht
    exact hdead _ la2 (by simp)) (fun t ht => by
    have : t = b2 := by
      rw [show a2 :: (M2 ++ [b2]) = (a2 :: M2) ++ [b2] by simp, List.getLast?_concat] at ht
      simpa using ht.symm
    subst this
    exact hdead _ lb2 (by simp)) hzn
  have hmid : midRow (a1 :: (M1 ++ [b1])) = M1 := mid_of a1 b1 M1
  have hnd := hF
  rw [show A1 ++ (a1 :: (M1 ++ [b1]) ++ C1) = (A1 ++ [a1]) ++ (M1 ++ (b1 :: C1)) by simp] at hnd
  obtain ⟨n1, n2, n3⟩ := List.nodup_append.1 hnd
  obtain ⟨n4, n5, n6⟩ := List.nodup_append.1 n2
  unfold Aparts
  rw [hmid]
  rcases hc with ⟨D, hX, _⟩ | ⟨D, hY, _⟩
  · have hin : ∀ t ∈ a2 :: (M2 ++ [b2]), t ∈ A1 ++ [a1] := fun t ht => by rw [hX]; simp only [List.mem_append]; exact .inr (.inl ht)
    refine ⟨fun t ht hm => n3 t (hin t ht) t (by simp [hm]) rfl, fun a M b e hab => ?_⟩
    simp only [List.cons.injEq] at e
    obtain ⟨rfl, e⟩ := e
    obtain ⟨_, e3⟩ := List.append_inj' e rfl
    simp only [List.cons.injEq, and_true] at e3
    subst e3
    exact n3 b1 (hin b1 hab.2) b1 (by simp) rfl
  · have hin : ∀ t ∈ a2 :: (M2 ++ [b2]), t ∈ b1 :: C1 := fun t ht => by rw [hY]; simp only [List.mem_append]; exact .inr (.inl ht)
    refine ⟨fun t ht hm => n6 t hm t (hin t ht) rfl, fun a M b e hab => ?_⟩
    simp only [List.cons.injEq] at e
    obtain ⟨rfl, _⟩ := e
    exact n3 a1 (by simp) a1 (by simp [hin a1 hab.1]) rfl
theorem seg_after {A : List Spot} {a : Spot} {M : List Spot} {b : Spot} {C Z A2 N2 C2 : List Spot} (hF : A ++ ((a :: (M ++ [b])) ++ C) = A2 ++ (N2 ++ C2)) (hne : N2 ≠ []) (h1 : ∀ t ∈ N2, t ∉ M) (h2 : ¬ (a ∈ N2 ∧ b ∈ N2)) : ∃ A3 C3, A ++ (a :: (Z ++ (b :: C))) = A3 ++ (N2 ++ C3) := by
  have hl := congrArg List.length hF
  simp only [List.length_append, List.length_cons, List.length_nil] at hl
  have hN : 0 < N2.length := List.length_pos_iff.2 hne
  have hat : ∀ j, j < N2.length → (A ++ ((a :: (M ++ [b])) ++ C))[A2.length + j]? = N2[j]? := fun j hj => by
    rw [hF, List.getElem?_append_right (by omega), List.getElem?_append_left (by omega)]
    congr 1
    omega
  have hg : ∀ k, A.length < k → k < A.length + 1 + M.length → (A ++ ((a :: (M ++ [b])) ++ C))[k]? = M[k - A.length - 1]? := fun k k1 k2 => by
    rw [List.getElem?_append_right (by omega), List.getElem?_append_left (by simp; omega)]
    obtain ⟨i, hi⟩ : ∃ i, k - A.length = i + 1 := ⟨k - A.length - 1, by omega⟩
    rw [hi, List.getElem?_cons_succ, List.getElem?_append_left (by omega)]
    congr 1
  have ha : (A ++ ((a :: (M ++ [b])) ++ C))[A.length]? = some a := by simp
  have hbk : (A ++ ((a :: (M ++ [b])) ++ C))[A.length + 1 + M.length]? = some b := by
    rw [List.getElem?_append_right (by omega), List.getElem?_append_left (by simp; omega)]
    rw [show A.length + 1 + M.length - A.length = M.length + 1 by omega, List.getElem?_cons_succ, List.getElem?_append_right (by omega)]
    simp
  by_cases c1 : A2.length + N2.length ≤ A.length + 1
  · -- ahead
    have e1 : A2 ++ N2 = (A ++ [a]).take (A2.length + N2.length) := by
      have t2 : (A2 ++ (N2 ++ C2)).take (A2.length + N2.length) = A2 ++ N2 := by
        rw [← List.append_assoc]
        exact List.take_left' (by simp)
      have t1 : (A ++ ((a :: (M ++ [b])) ++ C)).take (A2.length + N2.length) = (A ++ [a]).take (A2.length + N2.length) := by
        rw [show A ++ ((a :: (M ++ [b])) ++ C) = (A ++ [a]) ++ (M ++ (b :: C)) by simp]
        exact List.take_append_of_le_length (by simp; omega)
      rw [← t2, ← hF, t1]
    refine ⟨A2, (A ++ [a]).drop (A2.length + N2.length) ++ (Z ++ (b :: C)), ?_⟩
    rw [← List.append_assoc A2, e1, ← List.append_assoc, List.take_append_drop]
    simp
  · by_cases c2 : A.length + 1 + M.length ≤ A2.length
    · -- behind
      have e1 : N2 ++ C2 = (b :: C).drop (A2.length - (A.length + 1 + M.length)) := by
        have t2 : (A2 ++ (N2 ++ C2)).drop A2.length = N2 ++ C2 := List.drop_left
        have t1 : (A ++ ((a :: (M ++ [b])) ++ C)).drop A2.length = (b :: C).drop (A2.length - (A.length + 1 + M.length)) := by
          rw [show A ++ ((a :: (M ++ [b])) ++ C) = (A ++ (a :: M)) ++ (b :: C) by simp, List.drop_append, List.drop_of_length_le (by simp; omega), List.nil_append]
          congr 1
          simp
          omega
        rw [← t2, ← hF, t1]
      refine ⟨A ++ (a :: (Z ++ (b :: C).take (A2.length - (A.length + 1 + M.length)))), C2, ?_⟩
      rw [e1]
      simp [List.take_append_drop]
    · exfalso
      by_cases c3 : A.length < A2.length
      · -- it begins within
        have k := hat 0 hN
        rw [Nat.add_zero, hg A2.length c3 (by omega)] at k
        have hi : A2.length - A.length - 1 < M.length := by omega
        rw [List.getElem?_eq_getElem hi, List.getElem?_eq_getElem hN] at k
        have k2 : M[A2.length - A.length - 1] = N2[0] := Option.some.inj k
        exact h1 _ (List.getElem_mem hN) (k2 ▸ List.getElem_mem hi)
      · have kA := hat (A.length - A2.length) (by omega)
        rw [show A2.length + (A.length - A2.length) = A.length by omega, ha] at kA
        have hma : a ∈ N2 := List.mem_of_getElem? kA.symm
        by_cases hM : M.length = 0
        · have kB := hat (A.length + 1 - A2.length) (by omega)
          rw [show A2.length + (A.length + 1 - A2.length) = A.length + 1 + M.length by omega, hbk] at kB
          exact h2 ⟨hma, List.mem_of_getElem? kB.symm⟩
        · have kB := hat (A.length + 1 - A2.length) (by omega)
          rw [show A2.length + (A.length + 1 - A2.length) = A.length + 1 by omega, hg (A.length + 1) (by omega) (by omega)] at kB
          have hi : A.length + 1 - A.length - 1 < M.length := by omega
          rw [List.getElem?_eq_getElem hi] at kB
          exact h1 _ (List.mem_of_getElem? kB.symm) (List.getElem_mem hi)
def Seg (N F : List Spot) : Prop := ∃ A C, F = A ++ (N ++ C)
def HkOK (h : Hk) : Prop := ∃ a M b, h.N = a :: (M ++ [b]) ∧ a.alive = true ∧ b.alive = true ∧ ((∃ m ∈ M, m.alive = true) ∨ h.Br ≠ [])
theorem mid_of' (a b : Spot) (M : List Spot) : midRow (a :: (M ++ [b])) = M := mid_of a b M
theorem hsteps_pairs : ∀ {Hs : List Hk} {F F' : List Spot}, HSteps F Hs F' → ((F.map cid) ++ (Hs.flatMap (·.Br)).map cid).Nodup → (∀ k ∈ Hs, ∀ x ∈ Hs, ∀ t ∈ k.N, t ∉ x.Br ∧ t ∉ killsH x.N) → Hs.Pairwise (fun a b => Aparts a.N b.N) ∧ ∀ h ∈ Hs, HkOK h
  | [], _, _, _, _, _ => ⟨List.Pairwise.nil, fun h hh => by cases hh⟩
  | h :: Hs, F, F', ⟨F1, h1, h2⟩, hn, hs => by
    have hF : F.Nodup := nodup_of_map (List.nodup_append.1 hn).1
    have hn1 : ((F1.map cid) ++ (Hs.flatMap (·.Br)).map cid).Nodup := by
      simp only [List.flatMap_cons, List.map_append] at hn
      rw [← List.append_assoc] at hn
      exact (List.Perm.append_right _ h1.cids).nodup_iff.2 hn
    obtain ⟨p1, p2⟩ := hsteps_pairs h2 hn1 (fun k hk x hx => hs k (List.mem_cons_of_mem _ hk) x (List.mem_cons_of_mem _ hx))
    refine ⟨List.pairwise_cons.2 ⟨fun k hk => ?_, p1⟩, fun k hk => ?_⟩
    · obtain ⟨A, C, rfl⟩ := List.append_of_mem hk
      obtain ⟨G, g1, G2, g2, _⟩ := hsteps_app h2
      obtain ⟨F0, j1, _⟩ := hsteps_past g1 g2 (fun x hx => hs k (by simp) x (by simp [hx]))
      exact hstep_apart h1 j1 hF (fun t ht => (hs k (by simp) h (by simp) t ht).1) (fun t ht => (hs k (by simp) h (by simp) t ht).2)
    · rcases List.mem_cons.1 hk with rfl | hk
      · obtain ⟨A, a, M, b, C, e, _, _, la, lb, e1⟩ := h1
        exact ⟨a, M, b, e, la, lb, e1⟩
      · exact p2 k hk
theorem hsteps_lay : ∀ {Hs : List Hk} {F : List Spot}, Hs.Pairwise (fun a b => Aparts a.N b.N) → (∀ h ∈ Hs, HkOK h) → (∀ h ∈ Hs, Seg h.N F) → ∃ F', HSteps F Hs F'
  | [], F, _, _, _ => ⟨F, rfl⟩
  | h :: Hs, F, hp, ho, hs => by
    obtain ⟨a, M, b, e, la, lb, e1⟩ := ho h List.mem_cons_self
    obtain ⟨A, C, hF⟩ := hs h List.mem_cons_self
    have h1 : HStep F h.N h.Br (A ++ (a :: (deadRow M ++ (h.Br ++ (b :: C))))) := ⟨A, a, M, b, C, e, hF, rfl, la, lb, e1⟩
    have hp1 := List.pairwise_cons.1 hp
    obtain ⟨F', h2⟩ := hsteps_lay (Hs := Hs) (F := A ++ (a :: (deadRow M ++ (h.Br ++ (b :: C))))) hp1.2 (fun k hk => ho k (List.mem_cons_of_mem _ hk)) (fun k hk => by
      obtain ⟨A2, C2, hF2⟩ := hs k (List.mem_cons_of_mem _ hk)
      obtain ⟨q1, q2⟩ := hp1.1 k hk
      obtain ⟨a', M', b', e', _⟩ := ho k (List.mem_cons_of_mem _ hk)
      rw [e, mid_of'] at q1
      rw [hF, e] at hF2
      obtain ⟨A3, C3, h3⟩ := seg_after (Z := deadRow M ++ h.Br) hF2 (by rw [e']; simp) q1 (q2 a M b e)
      exact ⟨A3, C3, by rw [← h3]; simp⟩)
    exact ⟨F', _, h1, h2⟩
theorem fitsK_seg {F : List Spot} {h : Hk} (hf : fitsK F h = true) : Seg h.N F := by
  unfold fitsK at hf
  split at hf
  · cases hf
  · rename_i t L hN
    unfold fitsH at hf
    split at hf
    · cases hf
    · rename_i k _
      have e : (F.drop k).take h.N.length = h.N := by simpa using hf
      refine ⟨F.take k, (F.drop k).drop h.N.length, ?_⟩
      conv => lhs; rw [← List.take_append_drop k F, ← List.take_append_drop h.N.length (F.drop k), e]
theorem fits_lay {i : Pid} {c : ChM} {p p0 p1 : PL} {ids : List Pid} (h0 : AppH i c p0 p1) (hk : CellsOK ids p0) (hz : zid ∉ ids) (hi : i ∉ ids) (hiz : i ≠ zid) (w : ChWF i c) (hs : ¬ leansOn (namesOf c) i (killsOf c)) (hf : fitsC c p = true) : ∃ p', AppH i c p p' := by
  cases c with
  | add i' l rv S =>
    obtain ⟨_, rfl, _, _⟩ := h0
    have hf' : p.alive = false ∧ p.by_ = l := by simpa [fitsC] using hf
    exact ⟨_, hf'.1, rfl, hf'.2.symm, rfl⟩
  | remove i' rv S =>
    have hf' : (p.alive = true ∧ p.by_ = i') ∧ p.S = S := by simpa [fitsC] using hf
    exact ⟨_, hf'.1.1, hf'.1.2.symm, hf'.2.symm, rfl⟩
  | alter i' hv Hs =>
    have hf' : (p.alive = true ∧ p.by_ = i') ∧ ∀ h ∈ Hs, fitsK (framed p.S) h = true := by simpa [fitsC] using hf
    obtain ⟨_, _, hne, _, _, hh⟩ := h0
    obtain ⟨q1, q2⟩ := hsteps_pairs hh (br_fresh hk hz hi hiz w) (fun k hk x hx t ht => by
      have hm : t ∈ namesOf (.alter i' hv Hs) := List.mem_cons_of_mem _ (List.mem_flatMap.2 ⟨k, hk, ht⟩)
      exact ⟨fun hb => hs ⟨t, hm, .inl (w.own _ (List.mem_flatMap.2 ⟨x, hx, hb⟩)).1⟩, fun hb => hs ⟨t, hm, .inr (List.mem_flatMap.2 ⟨x, hx, hb⟩)⟩⟩)
    obtain ⟨F', h1⟩ := hsteps_lay q1 q2 (fun h hh => fitsK_seg (hf'.2 h hh))
    have e := h1.framed
    rw [e] at h1
    exact ⟨⟨i', true, midRow F'⟩, hf'.1.1, hf'.1.2.symm, hne, rfl, rfl, h1⟩
theorem Hist.fit {A C : List PM} {P : PM} {t s : ByteArray → PL} (hA : Hist A t) (hC : Hist (C ++ [P]) s) (hi : P.id ∉ A.map (·.id)) (hf : fitsP P t = true) : ∃ t', Hist (A ++ [P]) t' := by
  obtain ⟨s0, h0, hP, w, hiC, hz⟩ := hC.last
  have hf' : ∀ c ∈ P.Cs, fitsC c.2 (t c.1) = true := by
    unfold fitsP at hf
    simp only [Bool.not_eq_true', List.any_eq_false] at hf
    exact fun c hc => by simpa using hf c hc
  have key : ∀ c ∈ P.Cs, ∃ p', AppH P.id c.2 (t c.1) p' := fun c hc => fits_lay (hP.app c hc) (h0.good.1 c.1) h0.noz hiC hz (w.wf c hc) (w.self c hc) (hf' c hc)
  have key2 : ∀ x, ∃ q, (∀ c ∈ P.Cs, c.1 = x → AppH P.id c.2 (t x) q) ∧ ((∀ c ∈ P.Cs, c.1 ≠ x) → q = t x) := fun x => by
    by_cases hx : ∃ c ∈ P.Cs, c.1 = x
    · obtain ⟨c, hc, rfl⟩ := hx
      obtain ⟨q, hq⟩ := key c hc
      exact ⟨q, fun d hd e => by rw [one_name w.nd hd hc e]; exact hq, fun h => absurd rfl (h c hc)⟩
    · exact ⟨t x, fun c hc e => absurd ⟨c, hc, e⟩ hx, fun _ => rfl⟩
  exact ⟨fun x => (key2 x).choose, hA.snoc ⟨fun c hc => (key2 c.1).choose_spec.1 c hc rfl, fun x hx => (key2 x).choose_spec.2 hx⟩ w hi hz⟩
theorem fits_dead {c : ChM} {p : PL} {ids : List Pid} (hk : CellsOK ids p) (hf : fitsC c p = true) {u : Spot} (hu : u ∈ namesOf c) (hd : u.alive = false) : cid u ∉ liveC p := by
  intro hl
  obtain ⟨ha, hl⟩ := live_inv hl
  have cell : ∀ v ∈ p.S, v.alive = false → cid v = cid u → False := fun v hv hvd e => by
    rcases hl with hl | ⟨x, hx, hxa, hxe⟩
    · have h1 := (hk.own v hv).2
      have h2 : v.num = -3 := congrArg Prod.snd (e.trans hl)
      omega
    · have := nd_alive hk.nd hv hx (e.trans hxe)
      rw [this, hxa] at hvd
      cases hvd
  cases c with
  | add i' l rv S =>
    have hf' : p.alive = false ∧ p.by_ = l := by simpa [fitsC] using hf
    rw [hf'.1] at ha
    cases ha
  | remove i' rv S =>
    have hf' : (p.alive = true ∧ p.by_ = i') ∧ p.S = S := by simpa [fitsC] using hf
    rcases List.mem_cons.1 hu with rfl | hu
    · cases hd
    · exact cell u (by rw [hf'.2]; exact hu) hd rfl
  | alter i' hv Hs =>
    have hf' : (p.alive = true ∧ p.by_ = i') ∧ ∀ h ∈ Hs, fitsK (framed p.S) h = true := by simpa [fitsC] using hf
    rcases List.mem_cons.1 hu with rfl | hu
    · cases hd
    · obtain ⟨h, hh, hu⟩ := List.mem_flatMap.1 hu
      obtain ⟨A, C, e⟩ := fitsK_seg (hf'.2 h hh)
      have hm : u ∈ framed p.S := by rw [e]; simp only [List.mem_append]; exact .inr (.inl hu)
      rcases framed_mem hm with rfl | hm | rfl
      · cases hd
      · exact cell u hm hd rfl
      · cases hd
theorem chain_live : ∀ {A : List PM} {ids : List Pid} {s t : ByteArray → PL}, PChain A s t → (∀ x, CellsOK ids (s x)) → zid ∉ ids → (ids ++ A.map (·.id)).Nodup → zid ∉ A.map (·.id) → (∀ P ∈ A, PWF P) → ∀ x, ∀ y ∈ liveC (t x), y ∈ liveC (s x) ∨ y.1 ∈ A.map (·.id)
  | [], _, s, t, h, _, _, _, _, _ => by cases h; exact fun x y hy => .inl hy
  | P :: A, ids, s, t, ⟨s1, h1, h2⟩, hk, hz, hn, hzA, hw => by
    have hn' := hn
    rw [List.map_cons, show ids ++ P.id :: A.map (·.id) = (ids ++ [P.id]) ++ A.map (·.id) by simp] at hn'
    have hi : P.id ∉ ids := fun hm => (List.nodup_append.1 hn).2.2 _ hm _ (by simp) rfl
    have hiz : P.id ≠ zid := fun e => hzA (by simp [e])
    have hone : ∀ x, CellsOK (ids ++ [P.id]) (s1 x) ∧ ∀ y ∈ liveC (s1 x), y ∈ liveC (s x) ∨ y.1 = P.id := fun x => by
      by_cases hx : ∃ c ∈ P.Cs, c.1 = x
      · obtain ⟨c, hc, rfl⟩ := hx
        have w := (hw P List.mem_cons_self).wf c hc
        exact ⟨app_cells (hk c.1) hz hi hiz w (h1.app c hc), app_live (hk c.1) hz hi hiz w (h1.app c hc)⟩
      · rw [h1.other x (fun c hc e => hx ⟨c, hc, e⟩)]
        exact ⟨(hk x).mono (fun i hi => List.mem_append.2 (.inl hi)), fun y hy => .inl hy⟩
    have ih := chain_live h2 (fun x => (hone x).1) (by
      intro hm
      rcases List.mem_append.1 hm with q | q
      · exact hz q
      · exact hiz (List.mem_singleton.1 q).symm) hn' (fun hm => hzA (by simp [hm])) (fun Q hQ => hw Q (List.mem_cons_of_mem _ hQ))
    intro x y hy
    rcases ih x y hy with q | q
    · rcases (hone x).2 y q with q | q
      · exact .inl q
      · exact .inr (by simp [q])
    · exact .inr (by simp [q])
theorem no_need {C A : List PM} {b : PM} {sa sb : ByteArray → PL} (hA : HWt (C ++ A) sa) (hb : HWt (C ++ [b]) sb) (hd : ∀ a ∈ A, a.id ≠ b.id) : ∀ a ∈ A, ¬ NeedsP b a := by
  intro a ha hn
  obtain ⟨A1, A2, rfl⟩ := List.append_of_mem ha
  have hH := hA.hist
  rw [show C ++ (A1 ++ a :: A2) = (C ++ A1 ++ [a]) ++ A2 by simp] at hH
  obtain ⟨p1, hpa, _⟩ := hH.pre
  obtain ⟨p, hp, hPa, wa, hia, hza⟩ := hpa.last
  obtain ⟨sC, hC, hch⟩ := hp.pre
  obtain ⟨sC', hC', hPb, wb, hib, hzb⟩ := hb.hist.last
  have e : sC' = sC := (hA.of hC (fun P hP => List.mem_append.2 (.inl hP))).uniq (hA.of hC' (fun P hP => List.mem_append.2 (.inl hP)))
  subst e
  obtain ⟨c, hc, d, hd', hcd, u, hu, hk⟩ := hn
  have hnm := hb.hist.good.2 b (by simp) c hc u hu
  have hids : ∀ j, j ∈ (A1 ++ [a]).map (·.id) → sid u ≠ j := fun j hj hs => by
    have hjn : j ∉ C.map (·.id) := fun hm => by
      have := hpa.nd
      rw [show C ++ A1 ++ [a] = C ++ (A1 ++ [a]) by simp, List.map_append] at this
      exact (List.nodup_append.1 this).2.2 j hm j hj rfl
    have hjz : j ≠ zid := fun hz => by
      have := hpa.noz
      rw [show C ++ A1 ++ [a] = C ++ (A1 ++ [a]) by simp, List.map_append] at this
      exact this (List.mem_append.2 (.inr (hz ▸ hj)))
    rcases hnm.1 with q | q
    · rw [hs, List.map_append] at q
      rcases List.mem_append.1 q with q | q
      · exact hjn q
      · obtain ⟨R, hR, hRe⟩ := List.mem_map.1 hj
        refine hd R ?_ (hRe.trans (by simpa using q))
        rcases List.mem_append.1 hR with hR | hR
        · simp [hR]
        · simp [List.mem_singleton.1 hR]
    · exact hjz (hs.symm.trans q)
  rcases hk with hk | hk
  · exact hids a.id (by simp) hk
  · obtain ⟨k1, k2⟩ := app_kills (hp.good.1 d.1) hp.noz hia hza (wa.wf d hd') (hPa.app d hd') u hk
    rcases k2 with k2 | k2
    · have hnd : (C.map (·.id) ++ A1.map (·.id)).Nodup := by have := hp.nd; rwa [List.map_append] at this
      have hzn : zid ∉ A1.map (·.id) := fun hm => hp.noz (by rw [List.map_append]; exact List.mem_append.2 (.inr hm))
      rcases chain_live hch hC.good.1 hC.noz hnd hzn (fun P hP => hp.wf P (List.mem_append.2 (.inr hP))) d.1 _ k2 with q | q
      · rw [← hcd] at q
        exact fits_dead (hC.good.1 c.1) (app_fits (hPb.app c hc) (wb.wf c hc) (wb.self c hc) (hC.rows c.1)) hu k1 q
      · exact hids _ (by rw [List.map_append]; exact List.mem_append.2 (.inl q)) rfl
    · exact hids a.id (by simp) k2
theorem Hist.flip : ∀ {B C A : List PM} {sa sb t : ByteArray → PL}, HWt (C ++ A) sa → HWt (C ++ B) sb → (∀ a ∈ A, ∀ b ∈ B, a.id ≠ b.id) → HWt (C ++ A ++ B) t → HWt (C ++ B ++ A) t
  | [], C, A, sa, sb, t, _, _, _, h => by simpa using h
  | b :: B, C, A, sa, sb, t, hA, hB, hd, h => by
    have hb : ∃ s1, HWt (C ++ [b]) s1 := by
      have hH := hB.hist
      rw [show C ++ b :: B = (C ++ [b]) ++ B by simp] at hH
      obtain ⟨s1, h1, _⟩ := hH.pre
      exact ⟨s1, hB.of h1 (fun P hP => by simp at hP ⊢; rcases hP with q | q <;> simp [q])⟩
    obtain ⟨s1, hb⟩ := hb
    have hno := no_need hA hb (fun a ha => hd a ha b (by simp))
    have h1 := Hist.forth A h.hist hno
    have hmem : ∀ P ∈ C ++ b :: (A ++ B), P ∈ C ++ A ++ b :: B := fun P hP => by
      simp only [List.mem_append, List.mem_cons] at hP ⊢
      rcases hP with q | q | q | q <;> simp [q]
    have h2 : HWt ((C ++ [b]) ++ A ++ B) t := by
      have e : (C ++ [b]) ++ A ++ B = C ++ b :: (A ++ B) := by simp
      rw [e]
      exact h.of h1 hmem
    obtain ⟨t1, ht1, _⟩ := h2.hist.pre
    have hA2 : HWt ((C ++ [b]) ++ A) t1 := h2.of ht1 (fun P hP => List.mem_append.2 (.inl hP))
    have h3 := Hist.flip (B := B) (C := C ++ [b]) (A := A) hA2 (by simpa using hB) (fun a ha x hx => hd a ha x (List.mem_cons_of_mem _ hx)) h2
    simpa using h3
theorem HWt.far {C A B : List PM} {sa sb : ByteArray → PL} (hA : HWt (C ++ A) sa) (hB : HWt (C ++ B) sb) (hd : ∀ b ∈ B, b.id ∉ (C ++ A).map (·.id)) (hl : (C ++ A ++ B).length ≤ 40) : ∃ m t, m ≤ B.length ∧ HWt (C ++ A ++ B.take m) t ∧ (m < B.length → ∀ P, B[m]? = some P → fitsP P t = false) := by
  have okP : ∀ P ∈ B, P ∈ C ++ B := fun P hP => List.mem_append.2 (.inr hP)
  have up : ∀ k t, k ≤ B.length → Hist (C ++ A ++ B.take k) t → HWt (C ++ A ++ B.take k) t := fun k t hk h => by
    have hor : ∀ P ∈ C ++ A ++ B.take k, P ∈ C ++ A ∨ P ∈ C ++ B := fun P hP => by
      rcases List.mem_append.1 hP with q | q
      · exact .inl q
      · exact .inr (okP P (List.mem_of_mem_take q))
    refine ⟨h, ?_, ⟨fun P hP => (hor P hP).elim (hA.sm.few P) (hB.sm.few P), fun P hP => (hor P hP).elim (hA.sm.names P) (hB.sm.names P), fun P hP => (hor P hP).elim (hA.sm.small P) (hB.sm.small P)⟩, ⟨fun P hP => (hor P hP).elim (hA.li.few P) (hB.li.few P), fun P hP => (hor P hP).elim (hA.li.line P) (hB.li.line P)⟩, fun P hP => (hor P hP).elim (hA.pnm P) (hB.pnm P)⟩
    simp only [List.length_append, List.length_take] at hl ⊢
    omega
  suffices H : ∀ n k, B.length - k = n → k ≤ B.length → (∃ t, Hist (C ++ A ++ B.take k) t) → ∃ m t, m ≤ B.length ∧ HWt (C ++ A ++ B.take m) t ∧ (m < B.length → ∀ P, B[m]? = some P → fitsP P t = false) by
    exact H _ 0 rfl (Nat.zero_le _) ⟨sa, by simpa using hA.hist⟩
  intro n
  induction n with
  | zero =>
    intro k hk hkl ⟨t, h⟩
    exact ⟨k, t, hkl, up k t hkl h, fun hlt => by omega⟩
  | succ n ih =>
    intro k hk hkl ⟨t, h⟩
    have hlt : k < B.length := by omega
    obtain ⟨P, hP⟩ : ∃ P, B[k]? = some P := ⟨_, List.getElem?_eq_getElem hlt⟩
    cases hf : fitsP P t with
    | false => exact ⟨k, t, hkl, up k t hkl h, fun _ Q hQ => by rw [hP] at hQ; cases hQ; exact hf⟩
    | true =>
      have eB : B.take (k + 1) = B.take k ++ [P] := by rw [List.take_add_one, hP]; rfl
      have hpre : ∃ s1, Hist (C ++ B.take k ++ [P]) s1 := by
        have hH := hB.hist
        rw [show C ++ B = (C ++ B.take (k + 1)) ++ B.drop (k + 1) by rw [List.append_assoc, List.take_append_drop], eB] at hH
        obtain ⟨s1, h1, _⟩ := hH.pre
        exact ⟨s1, by simpa using h1⟩
      obtain ⟨s1, hs1⟩ := hpre
      have hPn : P.id ∉ (C ++ A ++ B.take k).map (·.id) := by
        rw [List.map_append]
        intro hm
        rcases List.mem_append.1 hm with q | q
        · exact hd P (List.mem_of_getElem? hP) q
        · have hnd := hs1.nd
          rw [List.map_append, List.map_append] at hnd
          exact (List.nodup_append.1 hnd).2.2 P.id (List.mem_append.2 (.inr q)) P.id (by simp) rfl
      obtain ⟨t', ht'⟩ := h.fit hs1 hPn hf
      exact ih (k + 1) (by omega) (by omega) ⟨t', by rw [eB]; simpa using ht'⟩
end Go.Proofs.YtgdfipmdmgkidaaGreatDoor

/- take, where a coming patch does not fit: its id is told, and nothing is changed. -/
namespace Go.Proofs.YtgdfipmdmgkidaaGreatDoor
open Go.RowKit
section
variable {w : World} {B pb rg : Nat} {cap : Cfg} {gb : Nat} {pv : Value} {Ps : List PM} {fb fn : Nat} {f : ByteArray → Option ByteArray} {G : List Pid}
set_option maxRecDepth 100000 in
set_option maxHeartbeats 3200000 in
theorem take133_clash (h : OneAt w B pb rg cap gb pv Ps fb fn f G) (Cm : List PM) (cv : Value) (Bc : Nat) (hc : w.ownsRow Bc 149 5 cv Cm.length (pmCells Cm)) (hcc : ∀ P ∈ Cm, CV w P.cv P.Cs) {st : Nat → Nat → ByteArray → PL} {cnt : Nat → Nat} {m : Nat} (hm : m < Cm.length) (hs : Stands (Ps ++ Cm.take m) st cnt) (hPl : Ps.length ≤ 500) (hCl : Cm.length ≤ 500) (hsm : ∀ P ∈ Cm, P.Cs.length ≤ 50 ∧ (∀ c ∈ P.Cs, ChSmall c.2) ∧ ∀ c ∈ P.Cs, c.1.size ≤ 1000) (hrow : ∀ p x, (st p 0 x).S.length ≤ 100000)
    (hfit : ∀ k P, k < m → Cm[k]? = some P → fitsP P (st (Ps.length + k) 0) = true) (hend : ∀ P, Cm[m]? = some P → fitsP P (st (Ps.length + m) 0) = false) :
    Calls Tryz.prog 133 #[.pointer (some ⟨rg, cap.r * 2, none⟩), cv] w fun e w' => ∃ P, Cm[m]? = some P ∧ e = .returned (.tuple #[.string (idText P.id), .int .i64 12]) ∧ Below w.heap.size w w' := by
  have hpvC : PV w cv Cm := pm_view hc hcc
  have HCLS := hid (clash196_any Ps Cm pv cv st cnt m w h.view hpvC (by omega) hs (by omega) (by omega) (fun P hP => ⟨by have := (hsm P hP).1; omega, (hsm P hP).2.1, (hsm P hP).2.2⟩) hrow hfit (fun _ => hend))
  have HCC := hid hcc
  have r0 := h.r0
  obtain ⟨ca, cc, rfl, -⟩ := hpvC
  obtain ⟨pa, pc, rfl, -⟩ := h.view
  clear h hc hcc hs hsm hrow hfit hend
  go_enter Tryz.func133, Tryz.ntmps133
  go_wp2_with fail
  refine HCLS.out.mono ?_
  rintro e w1 ⟨hb1, h1⟩
  obtain ⟨P, hP, rfl⟩ : ∃ P, Cm[m]? = some P ∧ e = .returned (.tuple #[pmV P, .bool true]) := by
    rcases h1 with h1 | h1
    · omega
    · exact h1
  obtain ⟨qa, qn, qc, hqv⟩ := (HCC.out P (List.mem_of_getElem? hP)).cvS
  unfold pmV
  rw [hqv]
  have HP := hid hP
  obtain ⟨w2, hw2⟩ : ∃ w2, w2 = w1.alloc (.cells #[.int .u8 P.id.a, .int .u8 P.id.b, .int .u8 P.id.c, .int .u8 P.id.d, .slice qa qn qc] 149) := ⟨_, rfl⟩
  have hb12 : Below w1.heap.size w1 w2 := by rw [hw2]; exact (Below.refl _ _).alloc (Nat.le_refl _) _
  have hk2 : w2.heap[w1.heap.size]? = some (.cells #[.int .u8 P.id.a, .int .u8 P.id.b, .int .u8 P.id.c, .int .u8 P.id.d, .slice qa qn qc] 149 (0, 0)) := by rw [hw2]; exact (MapKept.heap_alloc w1 _).1
  have hb2 : Below w.heap.size w w2 := hb1.trans (hb12.mono hb1.size)
  have HST := hid (string115_any P.id w2)
  clear h1 HCLS r0 hP hqv hb1 hb12 HCC
  go_upto_region 2 with fail
  rw [← hw2]
  clear hw2
  obtain ⟨q0, q1, q2, q3, q4⟩ := cells5_of hk2
  go_wp2_with fail
  refine HST.out.mono ?_
  rintro e w3 ⟨rfl, hb3⟩
  clear HST
  go_wp2
  go_ret2
  exact ⟨P, HP.out, rfl, hb2.trans (hb3.mono hb2.size)⟩
end
section
variable {w : World} {B pb rg : Nat} {cap : Cfg} {gb fb : Nat} {Q : List PM} {f : ByteArray → Option ByteArray} {t : ByteArray → PL} {G : List Pid}
theorem UH.clash (h : UH w B pb rg cap gb fb Q f t G) {C : List PM} {m : Nat} {t' : ByteArray → PL} (hC : HWt (Q ++ C.take m) t') (hm : m < C.length) (hend : ∀ P, C[m]? = some P → fitsP P t' = false) (hsm : SmallP C) (hCl : C.length ≤ 40) {u : World} (hu : Below w.heap.size w u) {Bc : Nat} {v : Value} (hv : u.ownsRow Bc 149 5 v C.length (pmCells C)) (hcv : ∀ P ∈ C, CV u P.cv P.Cs) :
    Calls Tryz.prog 133 #[.pointer (some ⟨rg, cap.r * 2, none⟩), v] u fun e w' => ∃ P : PM, e = .returned (.tuple #[.string (idText P.id), .int .i64 12]) ∧ Below u.heap.size u w' := by
  obtain ⟨pv, h1⟩ := h.one
  obtain ⟨st, cnt, hS, hse, _, hrow⟩ := hC.stands2
  have hl := h.hw.len
  have hfit := hC.fits hS
  have htl : (C.take m).length = m := by rw [List.length_take]; omega
  refine (take133_clash (h1.below hu) C v Bc hv hcv hm hS (by omega) (by omega) (fun P hP => ⟨hsm.few P hP, hsm.small P hP, hsm.names P hP⟩) (fun p x => by have := hrow p x; omega) (fun k P hk hP => hfit k P (by rw [List.getElem?_take, if_pos hk]; exact hP)) (fun P hP => ?_)).mono ?_
  · have := hend P hP
    rw [← hse, List.length_append, htl] at this
    exact this
  · rintro e w' ⟨P, _, rfl, hb⟩
    exact ⟨P, rfl, hb⟩
theorem UH.pull_clash (h : UH w B pb rg cap gb fb Q (keptO t) t G) {d : Nat} (hd : cap.oth d) (hd3 : d < 3) {m : Nat} {t' : ByteArray → PL} (hC : HWt (Q ++ (missP Q (cap.rep d).Ps).take m) t') (hm : m < (missP Q (cap.rep d).Ps).length) (hend : ∀ P, (missP Q (cap.rep d).Ps)[m]? = some P → fitsP P t' = false) (hsm : SmallP (cap.rep d).Ps) (hol : (cap.rep d).Ps.length ≤ 40) :
    Calls Tryz.prog 17 #[.pointer (some ⟨pb, 0, none⟩), .int .i64 cap.r, .string (pullHead d)] w fun e w' => ∃ P : PM, e = .returned (.tuple #[.string (idText P.id), .int .i64 12]) ∧ Below w.heap.size w w' := by
  obtain ⟨pv, h1⟩ := h.one
  obtain ⟨w1, w2, w3, _⟩ := pull_words d (List.mem_range.2 hd3)
  have hl := h.hw.len
  have hml : (missP Q (cap.rep d).Ps).length ≤ 40 := Nat.le_trans (List.length_filter_le _ _) hol
  have hsm' : SmallP (missP Q (cap.rep d).Ps) := ⟨fun P hP => hsm.few P (List.mem_filter.1 hP).1, fun P hP => hsm.names P (List.mem_filter.1 hP).1, fun P hP => hsm.small P (List.mem_filter.1 hP).1⟩
  refine (do12_any h1 (pullHead d) w1 (fun x c w' => c = 12 ∧ (∃ P : PM, x = idText P.id) ∧ Below w.heap.size w w') (fun u va vc hu ho => ?_)).mono ?_
  · rw [w2] at ho ⊢
    obtain ⟨wb, rfl, htb, hcap, hcl⟩ := words_at ho (by simp)
    refine (carry45_pull2 pb rg (cap.r * 2) wb 0 vc _ u _ (hcl 0 (by simp)) (hcl 1 (by simp)) htb hcap (fun u' na nc hu' => ?_)).mono (fun e w' ⟨x, cd, k1, k2⟩ => ⟨x, cd, k1, k2⟩)
    have hb' : Below w.heap.size w u' := hu.trans (hu'.mono hu.size)
    have hU := h.below hb'
    obtain ⟨o1, o2, o3, o4⟩ := hU.other hd
    refine pull76_any (h1.below hb') (by omega) d hd.1 (by omega) _ w3 na 0 nc (cap.rep d).Ps (by omega) (fun x c w' => (c = 12 ∧ (∃ P : PM, x = idText P.id) ∧ Below w.heap.size w w') ∧ HeldT (· = 9) u' w') (fun u2 hu2 => ?_) (fun u2 v hu2 hv hcv => ?_) |>.mono (fun e w' ⟨x, cd, k1, k2, k3⟩ => ⟨x, cd, k1, k2, k3⟩)
    · obtain ⟨ao, cc, hsh⟩ := own_shape o3
      refine (offered132_all (cap.rep d).pv rg (d * 2) na nc u2 ⟨_, _, _, hsh⟩ ((hu2.cell (p := ⟨rg, d * 2, none⟩) o2).trans o1)).mono ?_
      rintro e w' ⟨rfl, hb⟩
      have hb3 := hu2.trans (hb.mono hu2.size)
      exact ⟨_, rfl, (pm_view o3 o4).below hb3 (Nat.le_refl _), hb⟩
    · refine (hU.clash hC hm hend hsm' hml hu2 hv (fun P hP => hcv P (List.mem_filter.1 hP).1)).mono ?_
      rintro e w' ⟨P, rfl, k1⟩
      have hb3 : Below w.heap.size w u2 := hb'.trans (hu2.mono hb'.size)
      exact ⟨_, _, rfl, ⟨rfl, ⟨P, rfl⟩, hb3.trans (k1.mono hb3.size)⟩, HeldT.of_below (hu2.trans (k1.mono hu2.size))⟩
  · rintro e w' ⟨x, c, rfl, rfl, ⟨P, rfl⟩, k⟩
    exact ⟨P, rfl, k⟩
end
end Go.Proofs.YtgdfipmdmgkidaaGreatDoor

/- Texts of ids; where a text stands; alike. -/
namespace Go.Proofs.YtgdfipmdmgkidaaGreatDoor
open Go.RowKit
theorem same21_any {Z : List ByteArray} {k : Nat} (hz : Z.length = k) {ao bo : Option Addr} {ca cb A B : Nat} {w : World} (ha : w.ownsRow A 9 1 (.slice ao k ca) k (strs Z)) (hb : w.ownsRow B 9 1 (.slice bo k cb) k (strs Z)) (hl : k ≤ 1000000) :
    Calls Tryz.prog 21 #[.slice ao k ca, .slice bo k cb] w fun e w' => e = .returned (.bool true) ∧ Below w.heap.size w w' := by
  subst hz
  refine (ksame16_any Z ao bo ca cb A B w ha hb hl).mono ?_
  rintro e w' ⟨rfl, q, rfl⟩
  exact ⟨rfl, below_drewN (Below.refl _ _) q⟩
def texts (X : List PM) : List ByteArray := (X.map (·.id)).map idText
theorem texts_len (X : List PM) : (texts X).length = X.length := by simp [texts]
theorem texts_at {X : List PM} {k : Nat} {P : PM} (h : X[k]? = some P) : (texts X)[k]? = some (idText P.id) := by
  unfold texts
  rw [List.getElem?_map, List.getElem?_map, h]
  rfl
theorem texts_cell {w : World} {BL g c m : Nat} {X : List PM} (h : w.ownsRow BL 9 1 (.slice (some ⟨g, 0, none⟩) m c) m (strs (texts X))) {k : Nat} {P : PM} (hP : X[k]? = some P) (hk : k < m) : w.cell? ⟨g, k, none⟩ = some (.string (idText P.id)) := by
  rw [h.cellAt k (by omega)]
  unfold strs
  rw [List.getElem?_map, texts_at hP]
  rfl
set_option maxRecDepth 100000 in
set_option maxHeartbeats 3200000 in
theorem place32_any (L : List ByteArray) (b o c k : Nat) (x : ByteArray) (w : World) (hc : ∀ j y, L[j]? = some y → w.cell? ⟨b, o + j, none⟩ = some (.string y)) (hl : L.length ≤ 1000) (hk : L[k]? = some x) (hf : ∀ j, j < k → L[j]? ≠ some x) :
    Calls Tryz.prog 32 #[.slice (some ⟨b, o, none⟩) L.length c, .string x] w fun e w' => e = .returned (.int .i64 k) ∧ w' = w := by
  have HC := hid hc
  have HK := hid hk
  have HF := hid hf
  have hkl : k < L.length := (List.getElem?_eq_some_iff.1 hk).1
  clear hc hk hf
  go_enter Tryz.func32, Tryz.ntmps32
  go_wp2
  go_loopw [5] (fun i wr => ∃ j : Nat, j ≤ k ∧ i = .int .i64 j ∧ Hid (wr = w)) (fun i _ => k + 1 - (intOf i).toNat)
  case atStart => exact ⟨0, Nat.zero_le _, rfl, rfl⟩
  case round =>
    obtain ⟨j, hj, rfl, hwr⟩ := hrel
    have hwr2 := hwr.out.symm
    subst hwr2
    clear hwr
    have hjl : j < L.length := by omega
    have hj1 : (j : Int) < (L.length : Int) := by omega
    obtain ⟨y, hy⟩ : ∃ y, L[j]? = some y := ⟨_, List.getElem?_eq_getElem hjl⟩
    have c0 := HC.out j y hy
    by_cases hjk : j = k
    · subst hjk
      have e : y = x := by
        have := hy.symm.trans HK.out
        simpa using this
      subst e
      clear hy
      go_wp2
      go_ret
      exact ⟨rfl, rfl⟩
    · have hyx : ¬ y = x := fun e => HF.out j (by omega) (by rw [hy, e])
      have hyb : (y.toList == x.toList) = false := by rw [eq_bytes]; simp [hyx]
      clear hy
      go_wp2
      go_roundw
      case rel => exact ⟨j + 1, by omega, by go_num, trivial⟩
      case measure => simp [intOf]; omega
end Go.Proofs.YtgdfipmdmgkidaaGreatDoor

/- alike: two repositories have the same patches, and keep the same. -/
namespace Go.Proofs.YtgdfipmdmgkidaaGreatDoor
open Go.RowKit
theorem RG.lg {w : World} {B rb pb rg : Nat} {cap : Cfg} {gb fb n : Nat} {Ps : List PM} {f : ByteArray → Option ByteArray} {s : ByteArray → PL} {G : List Pid} (h : RG w B rb pb rg cap gb fb n Ps f s G) :
    Calls Tryz.prog 27 #[.pointer (some ⟨rb, 0, none⟩), .int .i64 cap.r, .string wdLog] w fun e w' => ∃ ao c, e = .returned (.tuple #[.slice ao Ps.length c, .bool true]) ∧ w'.ownsRow w.heap.size 9 1 (.slice ao Ps.length c) Ps.length (strs (texts Ps)) ∧ Below w.heap.size w w' := by
  have hl := h.uw.hw.len
  have := run_ids h wdLog (Ps.map (·.id)) (by rw [List.length_map]; omega) h.uw.log
  refine this.mono ?_
  rintro e w' ⟨v, rfl, hown, hb⟩
  have e1 : ((Ps.map (·.id)).map idText).length = Ps.length := by simp
  rw [e1] at hown
  obtain ⟨ao, c, rfl⟩ := own_shape hown
  exact ⟨ao, c, rfl, hown, hb⟩
theorem texts_find {Qs : List PM} {i : Pid} (h : i ∈ Qs.map (·.id)) : ∃ k, k < Qs.length ∧ (texts Qs)[k]? = some (idText i) ∧ ∀ j, j < k → (texts Qs)[j]? ≠ some (idText i) := by
  have hm : idText i ∈ texts Qs := List.mem_map.2 ⟨i, h, rfl⟩
  obtain ⟨k, hk⟩ : ∃ k, (texts Qs).findIdx? (fun y => decide (y = idText i)) = some k := by
    cases hf : (texts Qs).findIdx? (fun y => decide (y = idText i)) with
    | none =>
      rw [List.findIdx?_eq_none_iff] at hf
      have := hf _ hm
      simp at this
    | some k => exact ⟨k, rfl⟩
  rw [List.findIdx?_eq_some_iff_getElem] at hk
  obtain ⟨h1, h2, h3⟩ := hk
  refine ⟨k, by rwa [texts_len] at h1, by rw [List.getElem?_eq_getElem h1]; simpa using h2, fun j hj e => ?_⟩
  have h4 := h3 j hj
  rw [List.getElem?_eq_getElem (by omega)] at e
  simp at e
  simp [e] at h4
set_option maxRecDepth 100000 in
set_option maxHeartbeats 6400000 in
theorem alike33_true {w : World} {B rb pb rg : Nat} {c c' : Cfg} {gb fb fb' n : Nat} {Ps Qs : List PM} {f f' : ByteArray → Option ByteArray} {s s' : ByteArray → PL} {G : List Pid} (hr : RG w B rb pb rg c gb fb n Ps f s G) (hq : RG w B rb pb rg c' gb fb' n Qs f' s' G) (hlen : Ps.length = Qs.length) (hm : ∀ P ∈ Ps, P.id ∈ Qs.map (·.id)) (hk : keptX s 3 = keptX s' 3) :
    Calls Tryz.prog 33 #[.pointer (some ⟨rb, 0, none⟩), .int .i64 c.r, .int .i64 c'.r] w fun e w' => e = .returned (.bool true) ∧ Below w.heap.size w w' := by
  obtain ⟨m, hm0⟩ : ∃ m, Ps.length = m := ⟨_, rfl⟩
  have hml : m ≤ 40 := by rw [← hm0]; exact hr.uw.hw.len
  have HLA := hr.lg
  rw [hm0] at HLA
  have HLA := hid HLA
  have HLB : Hid (∀ u, Below w.heap.size w u → Calls Tryz.prog 27 #[.pointer (some ⟨rb, 0, none⟩), .int .i64 c'.r, .string wdLog] u fun e w' => ∃ ao cc, e = .returned (.tuple #[.slice ao m cc, .bool true]) ∧ w'.ownsRow u.heap.size 9 1 (.slice ao m cc) m (strs (texts Qs)) ∧ Below u.heap.size u w') := fun u hu => by
    have := (hq.below hu).lg
    rw [← hlen, hm0] at this
    exact this
  obtain ⟨Y, hY⟩ : ∃ Y, keptX s 3 = Y := ⟨_, rfl⟩
  have hYl : Y.length = 3 := by rw [← hY]; simp [keptX]
  have HKA : Hid (∀ u, Below w.heap.size w u → Calls Tryz.prog 26 #[.pointer (some ⟨rb, 0, none⟩), .int .i64 c.r] u fun e w' => ∃ ao cc, e = .returned (.slice ao 3 cc) ∧ w'.ownsRow u.heap.size 9 1 (.slice ao 3 cc) 3 (strs Y) ∧ Below u.heap.size u w') := fun u hu => by
    have := run_kept (hr.below hu)
    rw [hY, hYl] at this
    refine this.mono ?_
    rintro e w' ⟨v, rfl, hown, hb⟩
    obtain ⟨ao, cc, rfl⟩ := own_shape hown
    exact ⟨ao, cc, rfl, hown, hb⟩
  have HKB : Hid (∀ u, Below w.heap.size w u → Calls Tryz.prog 26 #[.pointer (some ⟨rb, 0, none⟩), .int .i64 c'.r] u fun e w' => ∃ ao cc, e = .returned (.slice ao 3 cc) ∧ w'.ownsRow u.heap.size 9 1 (.slice ao 3 cc) 3 (strs Y) ∧ Below u.heap.size u w') := fun u hu => by
    have := run_kept (hq.below hu)
    rw [← hk, hY, hYl] at this
    refine this.mono ?_
    rintro e w' ⟨v, rfl, hown, hb⟩
    obtain ⟨ao, cc, rfl⟩ := own_shape hown
    exact ⟨ao, cc, rfl, hown, hb⟩
  have HF : Hid (∀ (j : Nat) (P : PM), Ps[j]? = some P → ∃ k, k < m ∧ (texts Qs)[k]? = some (idText P.id) ∧ ∀ i, i < k → (texts Qs)[i]? ≠ some (idText P.id)) := fun j P hj => by
    rw [← hm0, hlen]
    exact texts_find (hm P (List.mem_of_getElem? hj))
  have HQL : Hid ((texts Qs).length = m) := by show _ = _; rw [texts_len, ← hlen, hm0]
  have HPL := hid hm0
  obtain ⟨rr, hrr⟩ : ∃ rr : Int, (c.r : Int) = rr := ⟨_, rfl⟩
  obtain ⟨qq, hqq⟩ : ∃ qq : Int, (c'.r : Int) = qq := ⟨_, rfl⟩
  rw [hrr] at HLA HKA ⊢
  rw [hqq] at HLB HKB ⊢
  clear hr hq hlen hm hk hm0 hY hrr hqq
  go_enter Tryz.func33, Tryz.ntmps33
  go_wp2_with fail
  refine HLA.out.mono ?_
  rintro e w1 ⟨aa, ac, rfl, ha, hb1⟩
  have HA := hid ha
  have HB1 := hid hb1
  have HL2 := hid (HLB.out w1 hb1)
  clear HLA HLB ha
  go_wp2_with fail
  refine HL2.out.mono ?_
  rintro e w2 ⟨ba, bc, rfl, hbo, hb2⟩
  have hb02 : Below w.heap.size w w2 := hb1.trans (hb2.mono hb1.size)
  have HA2 := hid (own_below HA.out hb2 (Nat.le_refl _))
  have HBO := hid hbo
  have HB2 := hid hb02
  clear HL2 HA hbo hb1 hb2 hb02
  go_wp2_with fail
  go_loopw [11] (fun x wr => ∃ j : Nat, j ≤ m ∧ x = .int .i64 j ∧ Hid (wr = w2)) (fun x _ => m - (intOf x).toNat)
  case atStart => exact ⟨0, Nat.zero_le _, rfl, rfl⟩
  case round =>
    obtain ⟨j, hj, rfl, hwr⟩ := hrel
    have hwr2 := hwr.out.symm
    subst hwr2
    clear hwr
    by_cases hlt : j < m
    · obtain ⟨P, hP⟩ : ∃ P, Ps[j]? = some P := ⟨_, List.getElem?_eq_getElem (by rw [HPL.out]; exact hlt)⟩
      obtain ⟨k, hkm, hk1, hk2⟩ := HF.out j P hP
      obtain ⟨ga, rfl, _, _⟩ := own_at HA2.out (by omega)
      obtain ⟨gq, rfl, _, _⟩ := own_at HBO.out (by omega)
      have ca := texts_cell HA2.out hP hlt
      have HPC : Hid (Calls Tryz.prog 32 #[.slice (some ⟨gq, 0, none⟩) m bc, .string (idText P.id)] w2 fun e w' => e = .returned (.int .i64 k) ∧ w' = w2) := by
        have := place32_any (texts Qs) gq 0 bc k (idText P.id) w2 (fun i y hy => by
          have hi : i < m := by rw [← HQL.out]; exact (List.getElem?_eq_some_iff.1 hy).1
          rw [Nat.zero_add, HBO.out.cellAt i (by omega)]
          unfold strs
          rw [List.getElem?_map, hy]
          rfl) (by rw [HQL.out]; omega) hk1 hk2
        rw [HQL.out] at this
        exact this
      have q1 : (j : Int) < (m : Int) := by omega
      clear hP hk1 hk2
      go_wp2_with fail
      refine HPC.out.mono ?_
      rintro e w' ⟨rfl, rfl⟩
      clear HPC
      go_wp2
      go_roundw
      case rel => exact ⟨j + 1, by omega, by go_num, trivial⟩
      case measure => simp [intOf]; omega
    · have e : j = m := by omega
      subst e
      have HK1 := hid (HKA.out w2 HB2.out)
      go_wp2_with fail
      refine HK1.out.mono ?_
      rintro e w3 ⟨ka, kc, rfl, hka, hb3⟩
      have hb03 : Below w.heap.size w w3 := HB2.out.trans (hb3.mono HB2.out.size)
      have HKO := hid hka
      have HK2 := hid (HKB.out w3 hb03)
      clear HK1 HKA HKB hka
      go_wp2_with fail
      refine HK2.out.mono ?_
      rintro e w4 ⟨la, lc, rfl, hla, hb4⟩
      have hb04 : Below w.heap.size w w4 := hb03.trans (hb4.mono hb03.size)
      have HSM := hid (same21_any hYl (own_below HKO.out hb4 (Nat.le_refl _)) hla (by omega))
      clear HK2 HKO hla
      go_wp2_with fail
      refine HSM.out.mono ?_
      rintro e w5 ⟨rfl, hb5⟩
      clear HSM
      go_wp2
      go_ret
      exact ⟨rfl, hb04.trans (hb5.mono hb04.size)⟩
end Go.Proofs.YtgdfipmdmgkidaaGreatDoor

/- Repositories that are looked at in turn; a repository that takes another's patches, one by one. -/
namespace Go.Proofs.YtgdfipmdmgkidaaGreatDoor
open Go.RowKit
theorem keptO_nil : (fun _ => none : ByteArray → Option ByteArray) = keptO (fun _ => pl0) := by
  funext x
  simp [keptO, pl0]
section
variable {w : World} {B rb pb rg : Nat} {c : Cfg} {gb fb n : Nat} {Q : List PM} {f : ByteArray → Option ByteArray} {t : ByteArray → PL} {G : List Pid}
theorem RG.look (h : RG w B rb pb rg c gb fb n Q f t G) {i : Nat} (hi : c.oth i) {s : ByteArray → PL} (hw : HWt (c.rep i).Ps s) (hf : ∀ x, ((c.rep i).f x).isSome = true → x ∈ names3) :
    ∃ c', c'.r = i ∧ c'.nr = c.nr ∧ (∃ pv, c'.rep c.r = ⟨pv, Q, fb, 3, f⟩) ∧ (∀ j, j ≠ c.r → c'.rep j = c.rep j) ∧ RG w B rb pb rg c' gb (c.rep i).fb n (c.rep i).Ps (c.rep i).f s G := by
  obtain ⟨pv, h1⟩ := h.uw.one
  exact ⟨c.turn i ⟨pv, Q, fb, 3, f⟩, rfl, rfl, ⟨pv, c.turn_old i _⟩, fun j hj => Cfg.turn_other hj, ⟨hw, hf, _, (h1.turn hi).few (N := names3) hf⟩, h.run⟩
end
theorem RW.rg_ {w : World} {B rb pb rg : Nat} {cap : Cfg} {gb fb n : Nat} {Ps : List PM} {f : ByteArray → Option ByteArray} {s : ByteArray → PL} (h : RW w B rb pb rg cap gb fb n Ps f s) : RG w B rb pb rg cap gb fb n Ps f s (idsTo n) := ⟨h.uw.uh, h.run⟩
theorem RG.moved {w w' : World} {B rb pb rg : Nat} {c : Cfg} {gb fb n : Nat} {Q Q' : List PM} {f f' : ByteArray → Option ByteArray} {t t' : ByteArray → PL} {G : List Pid} (h : RG w B rb pb rg c gb fb n Q f t G) (hu : UH w' B pb rg c gb fb Q' f' t' G) (hh : HeldT kin w w') : RG w' B rb pb rg c gb fb n Q' f' t' G :=
  ⟨hu, (hh.keep _ _ ⟨_, _, h.run⟩ (.inr rfl)).trans h.run⟩
end Go.Proofs.YtgdfipmdmgkidaaGreatDoor
