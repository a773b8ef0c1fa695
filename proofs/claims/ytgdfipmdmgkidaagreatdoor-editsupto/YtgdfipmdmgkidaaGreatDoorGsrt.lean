/- Lists of names in the order of their bytes: the document's and the library's are one. -/
import Derived.Test.YtgdfipmdmgkidaaGreatDoorGmap
import Derived.Test.YtgdfipmdmgkidaaGreatDoorIter
namespace Go.Proofs.YtgdfipmdmgkidaaGreatDoor
open Go.RowKit

def byt (s : ByteArray) : List UInt8 := s.data.toList
theorem byt_inj {s t : ByteArray} (h : byt s = byt t) : s = t := bytes_inj h
theorem bl_lt (x y : ByteArray) : bl x y = decide (byt x < byt y) := by
  unfold bl
  rw [bytesLess_eq, Lib.toList_data, Lib.toList_data]
  rfl
theorem ins_perm (x : ByteArray) : ∀ l : List ByteArray, (ins x l).Perm (x :: l)
  | [] => List.Perm.refl _
  | y :: r => by
    unfold ins
    split
    · exact List.Perm.refl _
    · exact ((ins_perm x r).cons y).trans (List.Perm.swap x y r)
def Up (l : List ByteArray) : Prop := l.Pairwise fun a b => byt a ≤ byt b
theorem ins_up (x : ByteArray) : ∀ l : List ByteArray, Up l → Up (ins x l)
  | [], _ => List.pairwise_singleton _ _
  | y :: r, h => by
    unfold Up at h
    rw [List.pairwise_cons] at h
    unfold ins
    split
    · rename_i hb
      rw [bl_lt, decide_eq_true_eq] at hb
      have hle : byt x ≤ byt y := List.le_of_lt hb
      refine List.pairwise_cons.2 ⟨fun a ha => ?_, List.pairwise_cons.2 h⟩
      rcases List.mem_cons.1 ha with rfl | ha
      · exact hle
      · exact List.le_trans hle (h.1 a ha)
    · rename_i hb
      rw [bl_lt, decide_eq_true_eq] at hb
      have hle : byt y ≤ byt x := List.not_lt.1 hb
      refine List.pairwise_cons.2 ⟨fun a ha => ?_, ins_up x r h.2⟩
      rcases List.mem_cons.1 ((ins_perm x r).mem_iff.1 ha) with rfl | ha
      · exact hle
      · exact h.1 a ha
theorem put1_new {out : List ByteArray} {x : ByteArray} (h : x ∉ out) : put1 out x = ins x out := by
  unfold put1
  rw [whr_miss (fun i hi e => h (by rw [← e]; exact List.getElem_mem hi))]
  rfl
theorem srt_go : ∀ (L acc : List ByteArray), Up acc → (acc ++ L).Nodup → Up (L.foldl put1 acc) ∧ (L.foldl put1 acc).Perm (acc ++ L)
  | [], acc, h, _ => ⟨h, by simp⟩
  | x :: L, acc, h, hn => by
    have hx : x ∉ acc := fun hm => by
      rw [List.nodup_append] at hn
      exact hn.2.2 x hm x (by simp) rfl
    show Up (L.foldl put1 (put1 acc x)) ∧ _
    rw [List.foldl_cons, put1_new hx]
    have hp : (ins x acc ++ L).Perm (acc ++ x :: L) := ((ins_perm x acc).append_right L).trans (List.perm_middle.symm)
    have R := srt_go L (ins x acc) (ins_up x acc h) ((hp.nodup_iff).2 hn)
    exact ⟨R.1, R.2.trans hp⟩
theorem srt_up {L : List ByteArray} (hn : L.Nodup) : Up (srt L) ∧ (srt L).Perm L := by
  have := srt_go L [] List.Pairwise.nil (by simpa using hn)
  simpa [srt] using this
theorem sorted_eq {L : List ByteArray} (hn : L.Nodup) {ss : List (List UInt8)} (hp : ss.Perm (L.map byt)) : ss.mergeSort leB = (srt L).map byt := by
  have tr : ∀ a b c : List UInt8, leB a b = true → leB b c = true → leB a c = true := fun a b c h1 h2 => by simp only [leB, decide_eq_true_eq] at *; exact List.le_trans h1 h2
  have to : ∀ a b : List UInt8, (leB a b || leB b a) = true := fun a b => by simp only [leB, Bool.or_eq_true, decide_eq_true_eq]; exact List.le_total a b
  refine List.Perm.eq_of_pairwise (le := fun a b => leB a b = true) (fun a b _ _ h1 h2 => ?_) (List.pairwise_mergeSort tr to ss) ?_ (((List.mergeSort_perm ss leB).trans hp).trans ((srt_up hn).2.map byt).symm)
  · simp only [leB, decide_eq_true_eq] at h1 h2
    exact List.le_antisymm h1 h2
  · rw [List.pairwise_map]
    exact (srt_up hn).1.imp fun h => by simp only [leB, decide_eq_true_eq]; exact h

theorem keys_perm {w : World} {mb n : Nat} {D : DataW Unit} {F : Repo} (hown : w.ownsMap Tryz.prog 9 fileElem mb n D) (hR : Reads D F) : (strKeys D).Perm ((nms F).map byt) := by
  obtain ⟨es, hD, hpw⟩ := hown.tidy (Maps.string_keyed Tryz.underlying9)
  obtain ⟨es', hD', hko⟩ := hown.keysOf
  obtain rfl : es = es' := by rw [hD] at hD'; simpa using hD'
  have hh := hR.has
  rw [hD] at hh ⊢
  refine (perm_strKeys hpw (fun p hp => by obtain ⟨v, hv⟩ := hko p hp; obtain ⟨x, _, hx, _⟩ := Maps.keyOf_str Tryz.underlying9 hv; exact ⟨x, hx⟩) ?_ ?_).symm
  · exact List.pairwise_map.2 (hR.nodup.imp fun hne e => hne (byt_inj e))
  · intro x
    have e : (Lit.string x) = kl ⟨x.toArray⟩ := by simp [kl]
    rw [e, hh, fileOf_mem, List.mem_map]
    constructor
    · rintro ⟨a, ha, rfl⟩
      have : (⟨(byt a).toArray⟩ : ByteArray) = a := by simp [byt]
      rw [this]; exact ha
    · intro h
      exact ⟨_, h, by simp [byt]⟩

theorem enc_strs (L : List ByteArray) : (L.map byt).map encStr = strs L := by
  rw [List.map_map]
  unfold strs
  apply List.map_congr_left
  intro a _
  simp [byt, encStr]

set_option maxRecDepth 100000 in
set_option maxHeartbeats 1600000 in
theorem names83_any (b o mb : Nat) (F : Repo) (hF : F.length ≤ 5) (w : World) (hc : w.cell? ⟨b, o + 1, none⟩ = some (.map (some mb))) (h : FAt w mb F) :
    Calls Tryz.prog 168 #[.pointer (some ⟨b, o, none⟩)] w fun e w' => ∃ v, e = .returned v ∧ w'.ownsRow w.heap.size 9 1 v (srt (nms F)).length (strs (srt (nms F))) ∧ Below w.heap.size w w' := by
  obtain ⟨D, hown, hR⟩ := h
  have hsz := hR.size
  have HR : Hid (Reads D F) := hR
  clear hR
  refine (callsIn_wide (n := 6)).1 ?_
  have hfK : Fence.wide.fn 214 := trivial
  have hfS : Fence.wide.fn 177 := trivial
  refine callsIn_of_wp Tryz.func168 rfl trivial ?_ rfl
  simp only [Tryz.ntmps168, List.size_toArray, List.length_cons, List.length_nil, Nat.reduceAdd, Nat.reduceSub, Array.replicate_succ, Array.replicate_zero, List.push_toArray, List.append_toArray, List.nil_append, List.cons_append]
  gi_wp2_with (first
    | (gi_at_call 214; refine (Tryz.maps_Keys_214 _ _).mono ?_; rintro e w' ⟨rfl, rfl⟩)
    | (gi_at_call 177; refine (Tryz.slices_Sorted_keys_177_214 mb _ D fileElem w hown (by unfold maxLen; omega) (by omega)).mono ?_; rintro e w' ⟨v, ss, rfl, hS, hrow, hnil, hb⟩))
  go_ret
  have hp := hS.trans (keys_perm hown HR.out)
  have e1 := sorted_eq HR.out.nodup hp
  have e2 : ss.length = (srt (nms F)).length := by rw [hp.length_eq, List.length_map, (srt_up HR.out.nodup).2.length_eq]
  have hrow2 : w'.ownsRow w.heap.size 9 1 v ss.length ((ss.mergeSort leB).map encStr) := ownsRow_base_a hrow (by simp)
  rw [e1, enc_strs, e2] at hrow2
  exact ⟨v, rfl, hrow2, ((Below.refl _ w).alloc (Nat.le_refl _) _).trans (hb.mono (by simp))⟩
end Go.Proofs.YtgdfipmdmgkidaaGreatDoor
