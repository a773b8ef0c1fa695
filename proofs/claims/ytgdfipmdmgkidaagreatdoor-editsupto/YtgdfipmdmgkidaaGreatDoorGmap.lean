/- A repository of the program: a map of files, against the document's list of files. -/
import Derived.Test.YtgdfipmdmgkidaaGreatDoorGset
import Derived.Maps.OwnSet
namespace Go.Proofs.YtgdfipmdmgkidaaGreatDoor
open Go.RowKit
open Go.ChangeMaps Go.MapKept

theorem whr_cons (a : ByteArray) (L : List ByteArray) (s : ByteArray) : whr (a :: L) s = if a = s then some 0 else (whr L s).map (· + 1) := by
  unfold whr
  rw [List.findIdx?_cons]
  by_cases h : a = s
  · simp [h]
  · simp [h]
theorem fileOf_cons (p : ByteArray × ByteArray) (F : Repo) (x : ByteArray) : fileOf (p :: F) x = if p.1 = x then some p.2 else fileOf F x := by
  unfold fileOf
  show (whr (p.1 :: nms F) x).bind (fun k => (p.2 :: txs F)[k]?) = _
  rw [whr_cons]
  by_cases h : p.1 = x
  · simp [h]
  · simp only [if_neg h]
    cases whr (nms F) x <;> simp
theorem gone_cons (p : ByteArray × ByteArray) (F : Repo) (x : ByteArray) : goneF (p :: F) x = if p.1 = x then F else p :: goneF F x := by
  unfold goneF
  show (match whr (p.1 :: nms F) x with | some k => (p :: F).eraseIdx k | none => p :: F) = _
  rw [whr_cons]
  by_cases h : p.1 = x
  · simp [h]
  · simp only [if_neg h]
    cases whr (nms F) x <;> simp
theorem fileOf_mem {F : Repo} {x : ByteArray} : (fileOf F x).isSome = true ↔ x ∈ nms F := by
  induction F with
  | nil => simp [fileOf, whr, nms]
  | cons p F ih =>
    rw [fileOf_cons]
    show _ ↔ x ∈ p.1 :: nms F
    rw [List.mem_cons]
    by_cases h : p.1 = x
    · simp [h]
    · rw [if_neg h, ih]
      exact ⟨Or.inr, fun o => o.resolve_left (fun e => h e.symm)⟩
theorem fileOf_snoc (F : Repo) (a t x : ByteArray) : fileOf (F ++ [(a, t)]) x = (fileOf F x).or (if a = x then some t else none) := by
  induction F with
  | nil =>
    show fileOf [(a, t)] x = _
    rw [fileOf_cons]
    rfl
  | cons p F ih =>
    show fileOf (p :: (F ++ [(a, t)])) x = _
    rw [fileOf_cons, fileOf_cons, ih]
    by_cases h : p.1 = x <;> simp [h]
theorem fileOf_gone {F : Repo} (hn : (nms F).Nodup) (a x : ByteArray) : fileOf (goneF F a) x = if a = x then none else fileOf F x := by
  induction F with
  | nil => simp [goneF, fileOf, whr, nms]
  | cons p F ih =>
    have hn' : (p.1 :: nms F).Nodup := hn
    rw [List.nodup_cons] at hn'
    rw [gone_cons, fileOf_cons]
    by_cases h : p.1 = a
    · rw [if_pos h]
      by_cases h2 : a = x
      · rw [if_pos h2]
        cases e : fileOf F x with
        | none => rfl
        | some t => exact absurd (fileOf_mem.1 (by rw [e]; rfl)) (by rw [← h2, ← h]; exact hn'.1)
      · rw [if_neg h2, if_neg (by rw [h]; exact h2)]
    · rw [if_neg h, fileOf_cons, ih hn'.2]
      by_cases h2 : a = x
      · rw [if_pos h2, if_neg (by rw [← h2]; exact h)]; simp [h2]
      · simp [h2]
theorem gone_sub (F : Repo) (a : ByteArray) : (goneF F a).Sublist F := by
  unfold goneF
  split
  · exact List.eraseIdx_sublist _ _
  · exact List.Sublist.refl _
theorem gone_nodup {F : Repo} (hn : (nms F).Nodup) (a : ByteArray) : (nms (goneF F a)).Nodup := hn.sublist ((gone_sub F a).map _)
theorem set_nodup {F : Repo} (hn : (nms F).Nodup) (a t : ByteArray) (b : Bool) : (nms (setF F a t b)).Nodup := by
  unfold setF
  split
  · rw [nms_snoc, List.nodup_append]
    refine ⟨gone_nodup hn a, by simp, fun x hx y hy e => ?_⟩
    rw [List.mem_singleton] at hy
    subst hy e
    have := fileOf_mem.2 hx
    rw [fileOf_gone hn, if_pos rfl] at this
    cases this
  · exact gone_nodup hn a
theorem fileOf_set {F : Repo} (hn : (nms F).Nodup) (a t x : ByteArray) : fileOf (setF F a t true) x = if a = x then some t else fileOf F x := by
  show fileOf (goneF F a ++ [(a, t)]) x = _
  rw [fileOf_snoc, fileOf_gone hn]
  by_cases h : a = x <;> simp [h]
theorem gone_len2 {F : Repo} (a : ByteArray) : (goneF F a).length + (if (fileOf F a).isSome = true then 1 else 0) = F.length := by
  cases hk : whr (nms F) a with
  | none => rw [fileOf_none hk, gone_none hk]; simp
  | some k =>
    obtain ⟨t, _, e⟩ := fileOf_some hk
    rw [e]
    have := gone_len_some' hk
    simpa using this
where
  gone_len_some' {F : Repo} {name : ByteArray} {k : Nat} (h : whr (nms F) name = some k) : (goneF F name).length + 1 = F.length := by
    have hk := whr_lt h
    rw [nms_len] at hk
    rw [gone_some h, List.length_eraseIdx_of_lt hk]
    omega

/-- How a file reads. -/
def fileElem : Value → Option (DataW Unit × List MemPlace)
  | .agg cs => match cs.toList with
    | [.string s] => some (.lit (.string s.data.toList), [])
    | _ => none
  | _ => none
theorem fileElem_mk (s : ByteArray) : fileElem (.agg #[.string s]) = some (.lit (.string s.data.toList), []) := rfl
theorem fileElem_inv {v : Value} {z : DataW Unit × List MemPlace} (h : fileElem v = some z) : ∃ s, v = .agg #[.string s] ∧ z = (.lit (.string s.data.toList), []) := by
  unfold fileElem at h
  split at h
  · rename_i cs
    split at h
    · rename_i s e
      refine ⟨s, ?_, by cases h; rfl⟩
      congr 1
      rw [← Array.toList_inj, e]
    · cases h
  · cases h
theorem bytes_inj {s t : ByteArray} (h : s.data.toList = t.data.toList) : s = t := ByteArray.ext (Array.toList_inj.1 h)

def kl (s : ByteArray) : Lit := .string s.data.toList
theorem kl_inj {s t : ByteArray} (h : kl s = kl t) : s = t := by
  unfold kl at h
  injection h with h
  exact bytes_inj h
theorem kl_key (s : ByteArray) : WideAt.IsKeyLit (kl s) := trivial
theorem kl_of {s : ByteArray} (hs : s.size ≤ maxLen) : keyOf Tryz.prog 9 (.string s) = some (kl s) := WideMaps.keyOf_string_mk Tryz.underlying9 hs

/-- The datum of a map is the document's list of files. -/
structure Reads (D : DataW Unit) (F : Repo) : Prop where
  has : ∀ x, Maps.has D (kl x) = (fileOf F x).isSome
  at_ : ∀ x t, fileOf F x = some t → ∀ z, D.atKey (kl x) z = .lit (.string t.data.toList)
  size : Maps.size D = F.length
  nodup : (nms F).Nodup

theorem Reads.nil : Reads (.map []) [] where
  has := fun x => by simp [Maps.has, fileOf, whr, nms]
  at_ := fun x t h => by simp [fileOf, whr, nms] at h
  size := rfl
  nodup := by simp [nms]

theorem Reads.put {D : DataW Unit} {F : Repo} (h : Reads D F) (hT : Maps.Tidy D) (a t : ByteArray) : Reads (D.put (kl a) (.lit (.string t.data.toList))) (setF F a t true) where
  has := fun x => by
    rw [fileOf_set h.nodup]
    by_cases e : a = x
    · subst e; rw [Maps.has_put_same hT.isMap (kl_key a)]; simp
    · rw [Maps.has_put_other (fun q => e (kl_inj q).symm), h.has, if_neg e]
  at_ := fun x u hu z => by
    rw [fileOf_set h.nodup] at hu
    by_cases e : a = x
    · subst e; simp at hu; subst hu; exact Maps.atKey_put_same hT.isMap (kl_key a) _ _
    · rw [if_neg e] at hu
      rw [Maps.atKey_put_other (fun q => e (kl_inj q).symm)]; exact h.at_ x u hu z
  size := by
    rw [Maps.size_put hT, h.has, h.size]
    show _ = (goneF F a ++ [(a, t)]).length
    have := gone_len2 (F := F) a
    rw [List.length_append, List.length_singleton]
    split at this <;> simp_all
  nodup := set_nodup h.nodup a t true

theorem Reads.del {D : DataW Unit} {F : Repo} (h : Reads D F) (hT : Maps.Tidy D) (a : ByteArray) : Reads (D.del (kl a)) (goneF F a) where
  has := fun x => by
    rw [fileOf_gone h.nodup]
    by_cases e : a = x
    · subst e; rw [Maps.has_del_same]; simp
    · rw [Maps.has_del_other (fun q => e (kl_inj q).symm), h.has, if_neg e]
  at_ := fun x u hu z => by
    rw [fileOf_gone h.nodup] at hu
    by_cases e : a = x
    · subst e; simp at hu
    · rw [if_neg e] at hu
      rw [Maps.atKey_del_other (fun q => e (kl_inj q).symm)]; exact h.at_ x u hu z
  size := by
    have e1 := Maps.size_del (k := kl a) hT
    rw [h.has, h.size] at e1
    have := gone_len2 (F := F) a
    omega
  nodup := gone_nodup h.nodup a

/-- Block mb is a map that holds the files F. -/
def FAt (w : World) (mb : Nat) (F : Repo) : Prop := ∃ D : DataW Unit, w.ownsMap Tryz.prog 9 fileElem mb F.length D ∧ Reads D F

theorem own_tight {w : World} {mb n : Nat} {D : DataW Unit} (h : w.ownsMap Tryz.prog 9 fileElem mb n D) : w.ownsMap Tryz.prog 9 fileElem mb (Maps.size D) D := by
  obtain ⟨es, clock, hb, F, _, hD⟩ := h
  exact ⟨es, clock, hb, F, by rw [hD]; simp [Maps.size, length_sorted], hD⟩
theorem FAt.of {w : World} {mb n : Nat} {D : DataW Unit} {F : Repo} (h : w.ownsMap Tryz.prog 9 fileElem mb n D) (r : Reads D F) : FAt w mb F := ⟨D, by rw [← r.size]; exact own_tight h, r⟩
theorem FAt.kept {w w' : World} {mb : Nat} {F : Repo} {row : Option Nat} (h : FAt w mb F) (hg : w.grownBy w' row) (hne : some mb ≠ row) : FAt w' mb F := by
  obtain ⟨D, h1, h2⟩ := h
  exact ⟨D, h1.kept hg hne, h2⟩
theorem FAt.lt {w : World} {mb : Nat} {F : Repo} (h : FAt w mb F) : mb < w.heap.size := by
  obtain ⟨D, h1, _⟩ := h
  exact h1.lt
theorem FAt.block {w : World} {mb : Nat} {F : Repo} (h : FAt w mb F) : ∃ es clock, w.heap[mb]? = some (.map es clock) := by
  obtain ⟨D, ⟨es, clock, hb, _⟩, _⟩ := h
  exact ⟨es, clock, hb⟩
theorem FAt.made (w : World) : FAt (w.alloc (.map #[] 0)) w.heap.size [] := ⟨_, World.ownsMap_made w _ _ _, Reads.nil⟩
end Go.Proofs.YtgdfipmdmgkidaaGreatDoor
