/- Mathematics: how a change that is made now is told: by the texts alone, whatever its id. -/
import Derived.Test.YtgdfipmdmgkidaaGreatDoorQstnd
import Derived.Test.YtgdfipmdmgkidaaGreatDoorWcomm
namespace Go.Proofs.YtgdfipmdmgkidaaGreatDoor
open Go.RowKit

section
variable {S : List Spot} {N : List ByteArray} {i : Pid} {n : Int} {Q : List Quad} {Hs : List Hk}
theorem made_tells2 (name : ByteArray) (hname : name.size ≤ 1000) (hm : Made (framed S) i n N Q Hs) (hg : GapsR (rowLines S) N 0 0 Q) (hF : (framed S).Nodup) (hS : S.length ≤ 9000) (hN : N.length ≤ 400) (h98 : (rowLines S).length < 98) (hlo : ∀ l ∈ rowLines S, l.size ≤ 1000) (hln : ∀ l ∈ N, l.size ≤ 1000) :
    Tells (framed S) Hs (gSeq name (rowLines S) N Q) := by
  have ho := hg.ord (Nat.zero_le _) (Nat.zero_le _)
  have hok := hg.ok (Nat.zero_le _) (Nat.zero_le _)
  have hlen := ho.len
  have hrl := rowLines_len S
  have hlf := living_framed S
  have hQH : Hs.length = Q.length := hm.1
  have hFl : (framed S).length = S.length + 2 := by simp [framed]
  refine ⟨fun k h hk => ?_, fun k hk => ?_⟩
  · obtain ⟨q, e1, e2, e3, e4⟩ := qb_at hm hk
    obtain ⟨o1, o2, o3, o4⟩ := hok q (List.mem_of_getElem? e1)
    have hqi : q.i < (living (framed S)).length := by omega
    have hqk : q.k + 1 < (living (framed S)).length := by omega
    have a2 := living_lt (framed S) (show q.i < q.k + 1 by omega) hqk
    have a3 := living_in (framed S) hqk
    have ea : (living (framed S)).getD q.i 0 = (living (framed S))[q.i] := getD_living _ hqi
    have eb : (living (framed S)).getD (q.k + 1) 0 = (living (framed S))[q.k + 1] := getD_living _ hqk
    have hN0 : (namedOf (framed S) q)[0]? = some ((framed S)[(living (framed S))[q.i]]'(by omega)) := by
      unfold namedOf
      rw [ea, eb, List.getElem?_drop, List.getElem?_take_of_lt (by omega), List.getElem?_eq_getElem (by omega)]
      rfl
    have hnl : (namedOf (framed S) q).length = (living (framed S))[q.k + 1] + 1 - (living (framed S))[q.i] := by
      unfold namedOf
      rw [ea, eb]
      simp
      omega
    have hidx := idx_at (P := []) hF (Nat.zero_le _) (show (living (framed S))[q.i] < (framed S).length by omega) (by simp)
    simp only [List.nil_append, List.drop_zero, List.length_nil, Nat.zero_add, Nat.sub_zero] at hidx
    have hkl := killed_lines S q o1 o2
    have hbl : rowLines h.Br = linesAt N q := by rw [e4, rowLines_bring]
    have hcnt := ahead_count (framed S) hqi
    have hml : (midRow (namedOf (framed S) q)).length ≤ (namedOf (framed S) q).length := by unfold midRow; simp; omega
    refine ⟨_, _, by rw [e3]; exact hN0, hidx, by omega, by rw [e3, hnl]; omega, ⟨by rw [e3]; omega, fun l hl => ?_⟩, ⟨by rw [e4, bring_len]; have := linesAt_len N q; omega, fun l hl => ?_⟩, by rw [e3, hnl]; omega, by rw [hcnt]; omega, ?_⟩
    · rw [e3, hkl] at hl
      exact hlo l (List.mem_of_mem_take (List.mem_of_mem_drop hl))
    · rw [hbl] at hl
      exact hln l (List.mem_of_mem_take (List.mem_of_mem_drop hl))
    · rw [hTell_cat (O := rowLines S) (T := N) (q := q) hcnt (by rw [e3]; exact hkl) hbl]
      obtain ⟨hkQ, hke⟩ := List.getElem?_eq_some_iff.1 e1
      unfold gSeq
      rw [List.take_succ_eq_append_getElem hkQ, List.flatMap_append, catB_app, hke, List.flatMap_cons, List.flatMap_nil, List.append_nil, app_assoc]
  · have hall : ∀ R : List Quad, (∀ q ∈ R, q ∈ Q) → (catB (R.flatMap (hunkL (rowLines S) N))).size ≤ R.length * 1000000 := by
      intro R
      induction R with
      | nil => intro _; simp [catB, ByteArray.size]
      | cons q R ih =>
        intro hR
        rw [List.flatMap_cons, catB_app, ByteArray.size_append, List.length_cons, Nat.add_mul]
        have := ih (fun x hx => hR x (by simp [hx]))
        have := hunk_size (q := q) hlo hln (by omega) (by omega) (by have := hok q (hR q (by simp)); omega)
        omega
    have h1 := hall (Q.take k) (fun q hq => List.mem_of_mem_take hq)
    have h2 : (Q.take k).length ≤ 100 := by simp; omega
    have h3 : (Q.take k).length * 1000000 ≤ 100 * 1000000 := Nat.mul_le_mul_right _ h2
    unfold gSeq alterHead
    rw [ByteArray.size_append, ByteArray.size_append, ByteArray.size_append]
    have e7 : (⟨#[97, 108, 116, 101, 114, 32]⟩ : ByteArray).size = 6 := rfl
    have e8 : (⟨#[10]⟩ : ByteArray).size = 1 := rfl
    omega
end

/-- How the change of a name's file is told. -/
def TellOf (p : PL) (there : Bool) (text name T : ByteArray) : Prop :=
  (p.alive = false ∧ T = addHead name ++ ⟨(tellL ⟨#[43]⟩ (cutAll text)).toArray⟩) ∨ (p.alive = true ∧ there = false ∧ T = removeHead name ++ tellB ⟨#[45]⟩ p.S) ∨
  (p.alive = true ∧ there = true ∧ ∃ Q, GapsR (rowLines p.S) (cutAll text) 0 0 Q ∧ T = alterHead name ++ catB (Q.flatMap (hunkL (rowLines p.S) (cutAll text))))
theorem TellOf.det {p : PL} {there : Bool} {text name T T' : ByteArray} (h : TellOf p there text name T) (h' : TellOf p there text name T') : T = T' := by
  rcases h with ⟨a, rfl⟩ | ⟨a, b, rfl⟩ | ⟨a, b, Q, hQ, rfl⟩ <;> rcases h' with ⟨a', rfl⟩ | ⟨a', b', rfl⟩ | ⟨a', b', Q', hQ', rfl⟩
  · rfl
  · rw [a] at a'; cases a'
  · rw [a] at a'; cases a'
  · rw [a] at a'; cases a'
  · rfl
  · rw [b] at b'; cases b'
  · rw [a] at a'; cases a'
  · rw [b] at b'; cases b'
  · rw [hQ.det hQ']

theorem told_len (mk : ByteArray) (hm : mk.size ≤ 10) (L : List ByteArray) (hl : L.length ≤ 20) (hz : ∀ l ∈ L, l.size ≤ 1000) : (tellL mk L).length ≤ 40000 := by
  have h := tellL_small mk hm L hz
  have : L.length * 2000 ≤ 20 * 2000 := Nat.mul_le_mul_right _ hl
  omega
/-- How a change that is made now is told. -/
theorem made_told {ids : List Pid} {p : PL} (h : CellsOK ids p) (hz : zid ∉ ids) {i : Pid} {n n' : Int} {there : Bool} {text : ByteArray} {c : ChM} (hc : ChMade p i n there text c n') (name : ByteArray) (hname : name.size ≤ 1000) (hS : p.S.length ≤ 900) (hR : (rowLines p.S).length ≤ 20) (hRz : ∀ l ∈ rowLines p.S, l.size ≤ 1000) (hN : (cutAll text).length ≤ 20) (hNz : ∀ l ∈ cutAll text, l.size ≤ 1000) :
    ∃ T, TellsP c name p T ∧ TellOf p there text name T ∧ T.size ≤ 1000000 ∧ 0 < T.size := by
  cases c with
  | add i' l rv S =>
    obtain ⟨h1, rfl, _, rfl, _⟩ := hc
    have e : tellB ⟨#[43]⟩ (bring i' n (cutAll text)) = ⟨(tellL ⟨#[43]⟩ (cutAll text)).toArray⟩ := by unfold tellB; rw [rowLines_bring]
    have hl := told_len ⟨#[43]⟩ (by decide) (cutAll text) hN hNz
    refine ⟨_, ⟨⟨by rw [bring_len]; omega, by rw [rowLines_bring]; exact hNz⟩, rfl⟩, .inl ⟨h1, by rw [e]⟩, ?_, ?_⟩
    · rw [e, ByteArray.size_append]
      have : (⟨(tellL ⟨#[43]⟩ (cutAll text)).toArray⟩ : ByteArray).size = (tellL ⟨#[43]⟩ (cutAll text)).length := by simp [ByteArray.size]
      have hh : (addHead name).size ≤ 1005 := by
        unfold addHead
        rw [ByteArray.size_append, ByteArray.size_append]
        have e1 : (⟨#[97, 100, 100, 32]⟩ : ByteArray).size = 4 := rfl
        have e2 : (⟨#[10]⟩ : ByteArray).size = 1 := rfl
        omega
      omega
    · rw [ByteArray.size_append]
      unfold addHead
      rw [ByteArray.size_append, ByteArray.size_append]
      have e1 : (⟨#[97, 100, 100, 32]⟩ : ByteArray).size = 4 := rfl
      omega
  | remove i' rv S =>
    obtain ⟨h1, h2, rfl, rfl, _⟩ := hc
    have hl := told_len ⟨#[45]⟩ (by decide) (rowLines p.S) hR hRz
    have e3 : (tellB ⟨#[45]⟩ p.S).size = (tellL ⟨#[45]⟩ (rowLines p.S)).length := by simp [tellB, ByteArray.size]
    refine ⟨_, ⟨⟨by omega, hRz⟩, rfl⟩, .inr (.inl ⟨h1, h2, rfl⟩), ?_, ?_⟩
    · rw [ByteArray.size_append]
      unfold removeHead
      rw [ByteArray.size_append, ByteArray.size_append]
      have e1 : (⟨#[114, 101, 109, 111, 118, 101, 32]⟩ : ByteArray).size = 7 := rfl
      have e2 : (⟨#[10]⟩ : ByteArray).size = 1 := rfl
      omega
    · rw [ByteArray.size_append]
      unfold removeHead
      rw [ByteArray.size_append, ByteArray.size_append]
      have e1 : (⟨#[114, 101, 109, 111, 118, 101, 32]⟩ : ByteArray).size = 7 := rfl
      omega
  | alter i' hv Hs =>
    obtain ⟨h1, h2, rfl, Q, hg, hm, _⟩ := hc
    have hF := nodup_of_map (cids_framed h hz)
    have ht := made_tells2 name hname hm hg hF (by omega) (by omega) (by omega) hRz hNz
    have hQ := hg.len (Nat.zero_le _) (Nat.zero_le _)
    have hok := hg.ok (Nat.zero_le _) (Nat.zero_le _)
    have hHs : Hs.length = Q.length := hm.1
    have e0 : gSeq name (rowLines p.S) (cutAll text) Q 0 = alterHead name := by
      unfold gSeq
      rw [List.take_zero, List.flatMap_nil, catB_nil]
      exact ByteArray.ext (by simp)
    have e1 : gSeq name (rowLines p.S) (cutAll text) Q Hs.length = alterHead name ++ catB (Q.flatMap (hunkL (rowLines p.S) (cutAll text))) := by
      unfold gSeq
      rw [hHs, List.take_length]
    refine ⟨_, ⟨gSeq name (rowLines p.S) (cutAll text) Q, e0, ht, e1.symm, by omega, by omega⟩, .inr (.inr ⟨h1, h2, Q, hg, rfl⟩), ?_, ?_⟩
    · have hall : ∀ R : List Quad, (∀ q ∈ R, q ∈ Q) → (catB (R.flatMap (hunkL (rowLines p.S) (cutAll text)))).size ≤ R.length * 45000 := by
        intro R
        induction R with
        | nil => intro _; simp [catB, ByteArray.size]
        | cons q R ih =>
          intro hRq
          rw [List.flatMap_cons, catB_app, ByteArray.size_append, List.length_cons, Nat.add_mul]
          have := ih (fun x hx => hRq x (by simp [hx]))
          have hq := hok q (hRq q (by simp))
          have hc2 := cat_size (hunkL (rowLines p.S) (cutAll text) q) 1003 (fun l hl => by
            unfold hunkL at hl
            rcases List.mem_cons.1 hl with rfl | hl
            · have := atA_size (n := q.i + 1) (by omega); omega
            · rcases List.mem_append.1 hl with hl | hl
              · obtain ⟨x, hx, rfl⟩ := List.mem_map.1 hl
                have := tlA_size 45 x
                have := hRz x (List.mem_of_mem_take (List.mem_of_mem_drop hx))
                omega
              · obtain ⟨x, hx, rfl⟩ := List.mem_map.1 hl
                have := tlA_size 43 x
                have := hNz x (List.mem_of_mem_take (List.mem_of_mem_drop hx))
                omega)
          have hlen : (hunkL (rowLines p.S) (cutAll text) q).length ≤ 41 := by
            unfold hunkL
            simp only [List.length_cons, List.length_append, List.length_map]
            have := linesAt_len (cutAll text) q
            have : (midOf (rowLines p.S) q.i q.k).length ≤ (rowLines p.S).length := by unfold midOf; simp; omega
            omega
          have : (hunkL (rowLines p.S) (cutAll text) q).length * 1003 ≤ 41 * 1003 := Nat.mul_le_mul_right _ hlen
          omega
      have h3 := hall Q (fun _ h => h)
      have h4 : Q.length * 45000 ≤ 21 * 45000 := Nat.mul_le_mul_right _ (by omega)
      rw [ByteArray.size_append]
      unfold alterHead
      rw [ByteArray.size_append, ByteArray.size_append]
      have e7 : (⟨#[97, 108, 116, 101, 114, 32]⟩ : ByteArray).size = 6 := rfl
      have e8 : (⟨#[10]⟩ : ByteArray).size = 1 := rfl
      omega
    · rw [ByteArray.size_append]
      unfold alterHead
      rw [ByteArray.size_append, ByteArray.size_append]
      have e7 : (⟨#[97, 108, 116, 101, 114, 32]⟩ : ByteArray).size = 6 := rfl
      omega
end Go.Proofs.YtgdfipmdmgkidaaGreatDoor

/- The files of a repository: a map of few names; Text, Erase. -/
namespace Go.Proofs.YtgdfipmdmgkidaaGreatDoor
open Go.RowKit
open Go.ChangeMaps Go.MapKept

theorem own_tight2 {w : World} {mb n : Nat} {D : DataW Value} (h : w.ownsMap Tryz.prog 9 latElem mb n D) : w.ownsMap Tryz.prog 9 latElem mb (Maps.size D) D := by
  obtain ⟨es, clock, hb, F, _, hD⟩ := h
  exact ⟨es, clock, hb, F, by rw [hD]; simp [Maps.size, length_sorted], hD⟩
theorem nodup_len {α : Type} [DecidableEq α] : ∀ {L M : List α}, L.Nodup → (∀ x ∈ L, x ∈ M) → L.length ≤ M.length
  | [], _, _, _ => Nat.zero_le _
  | x :: L, M, h, hs => by
    rw [List.nodup_cons] at h
    have hx := hs x (by simp)
    have ih := nodup_len (L := L) (M := M.erase x) h.2 (fun y hy => (List.mem_erase_of_ne (fun e : y = x => h.1 (e ▸ hy))).2 (hs y (by simp [hy])))
    rw [List.length_erase_of_mem hx] at ih
    have : 0 < M.length := List.length_pos_of_mem hx
    rw [List.length_cons]
    omega
/-- No more files than names. -/
theorem FK.few {w : World} {mb n : Nat} {f : ByteArray → Option ByteArray} (h : FK w mb f n) {N : List ByteArray} (hN : ∀ x, (f x).isSome = true → x ∈ N) : FK w mb f N.length := by
  obtain ⟨D, h1, h2, h3⟩ := h
  obtain ⟨k1, k2⟩ := keys_facts h1
  have hsz : Maps.size D = (strKeys D).length := by
    obtain ⟨es, hD, _⟩ := h1.keysOf
    rw [hD]
    simp [strKeys, Maps.size]
  have hle : Maps.size D ≤ N.length := by
    rw [hsz]
    have hsub : (strKeys D) ⊆ N.map (fun x => x.data.toList) := fun x hx => by
      have h5 : (f ⟨x.toArray⟩).isSome = true := by
        rw [← h3]
        have e : kl ⟨x.toArray⟩ = .string x := by simp [kl]
        rw [e]
        exact (k2 x).1 hx
      refine List.mem_map.2 ⟨⟨x.toArray⟩, hN _ h5, by simp⟩
    have := nodup_len k1 hsub
    simpa using this
  obtain ⟨es, clock, hb, F, hn, hD⟩ := own_tight2 h1
  exact ⟨D, ⟨es, clock, hb, F, by omega, hD⟩, h2, h3⟩
theorem FK.del {w' : World} {mb n : Nat} {f : ByteArray → Option ByteArray} {D : DataW Value} (h2 : ∀ x, D.atKey (kl x) (.held (fileS ⟨#[]⟩)) = .held (fileS ((f x).getD ⟨#[]⟩))) (h3 : ∀ x, Maps.has D (kl x) = (f x).isSome) (_hT : Maps.Tidy D) (a : ByteArray) (h1 : w'.ownsMap Tryz.prog 9 latElem mb n (D.del (kl a))) : FK w' mb (fun x => if x = a then none else f x) n := by
  refine ⟨_, h1, fun x => ?_, fun x => ?_⟩
  · show _ = DataW.held (fileS ((if x = a then none else f x).getD ⟨#[]⟩))
    by_cases e : x = a
    · subst e
      rw [Maps.atKey_del_same, if_pos rfl]; rfl
    · rw [Maps.atKey_del_other (fun q => e (kl_inj q)), h2, if_neg e]
  · show _ = (if x = a then none else f x).isSome
    by_cases e : x = a
    · subst e
      rw [Maps.has_del_same, if_pos rfl]; rfl
    · rw [Maps.has_del_other (fun q => e (kl_inj q)), h3, if_neg e]

section
variable {B pb rg cap gb : Nat} {pv : Value} {Ps : List PM} {fb fn : Nat} {f : ByteArray → Option ByteArray} {G : List Pid}
set_option maxRecDepth 100000 in
set_option maxHeartbeats 1600000 in
theorem text79_fk {w : World} (h : OneAt w B pb rg cap gb pv Ps fb fn f G) (x : ByteArray) (hx : x.size ≤ 1000) (hn : nameB x = true) :
    Calls Tryz.prog 79 #[.pointer (some ⟨rg, 0, none⟩), .string x] w fun e w' => e = .returned (.tuple #[.string ((f x).getD ⟨#[]⟩), .int .i64 (if (f x).isSome = true then 0 else 5)]) ∧ Below w.heap.size w w' := by
  have HN : Hid (Calls Tryz.prog 61 #[.string x] w fun e w' => e = .returned (.bool true) ∧ Below w.heap.size w w') := by
    have := isName42_any x w
    rw [hn] at this
    exact this
  have HO : Hid (OneAt w B pb rg cap gb pv Ps fb fn f G) := h
  clear h hn
  obtain ⟨t, ht⟩ : ∃ t, (f x).getD ⟨#[]⟩ = t := ⟨_, rfl⟩
  rw [ht]
  cases hs : (f x).isSome
  · have ht0 : t = ⟨#[]⟩ := by rw [← ht]; cases hf : f x <;> simp_all
    have HT0 : Hid (t = ⟨#[]⟩) := ht0
    have HL : Hid (∀ u, Below w.heap.size w u → (Instr.lookup 85 (.map (some fb)) (.string x) true).run Tryz.prog u = .ok (.tuple #[.agg #[.string t], .bool false]) u) := fun u hu => by
      have := (HO.out.below hu).files.look x (by omega)
      rw [ht, hs] at this
      exact this
    clear ht hs ht0
    go_enter Tryz.func79, Tryz.ntmps79
    go_wp2_with fail
    refine HN.out.mono ?_
    rintro e w1 ⟨rfl, hb⟩
    clear HN
    have c1 := (HO.out.below hb).r1
    have hlk := HL.out w1 hb
    have hr := (HO.out.below hb).lts.2.1
    clear HL
    go_wp2
    go_ret2
    rw [HT0.out]
    exact ⟨rfl, hb.alloc hb.size _⟩
  · have HL : Hid (∀ u, Below w.heap.size w u → (Instr.lookup 85 (.map (some fb)) (.string x) true).run Tryz.prog u = .ok (.tuple #[.agg #[.string t], .bool true]) u) := fun u hu => by
      have := (HO.out.below hu).files.look x (by omega)
      rw [ht, hs] at this
      exact this
    clear ht hs
    go_enter Tryz.func79, Tryz.ntmps79
    go_wp2_with fail
    refine HN.out.mono ?_
    rintro e w1 ⟨rfl, hb⟩
    clear HN
    have c1 := (HO.out.below hb).r1
    have hlk := HL.out w1 hb
    have hr := (HO.out.below hb).lts.2.1
    clear HL
    go_wp2
    go_ret2
    exact ⟨rfl, hb.alloc hb.size _⟩

set_option maxRecDepth 100000 in
set_option maxHeartbeats 1600000 in
/-- World.Text. -/
theorem text50_one {w : World} (h : OneAt w B pb rg cap gb pv Ps fb fn f G) (x : ByteArray) (hx : x.size ≤ 1000) (hn : nameB x = true) :
    Calls Tryz.prog 50 #[.pointer (some ⟨pb, 0, none⟩), .int .i64 0, .string x] w fun e w' => e = .returned (.tuple #[.string ((f x).getD ⟨#[]⟩), .int .i64 (if (f x).isSome = true then 0 else 5)]) ∧ Below w.heap.size w w' := by
  have HA : Hid (Calls Tryz.prog 42 #[.pointer (some ⟨pb, 0, none⟩), .int .i64 0] w fun e w' => e = .returned (.bool true) ∧ w' = w) := has26_zero h
  have HK : Hid (Calls Tryz.prog 79 #[.pointer (some ⟨rg, 0, none⟩), .string x] w fun e w' => e = .returned (.tuple #[.string ((f x).getD ⟨#[]⟩), .int .i64 (if (f x).isSome = true then 0 else 5)]) ∧ Below w.heap.size w w') := text79_fk h x hx hn
  have c0 := h.c0
  have hcap := h.cap1
  obtain ⟨T, hTe⟩ : ∃ T, (f x).getD ⟨#[]⟩ = T := ⟨_, rfl⟩
  obtain ⟨c, hce⟩ : ∃ c : Int, (if (f x).isSome = true then 0 else 5) = c := ⟨_, rfl⟩
  rw [hTe, hce] at HK ⊢
  clear h hTe hce
  go_enter Tryz.func50, Tryz.ntmps50
  go_wp2_with fail
  refine HA.out.mono ?_
  rintro e w0 ⟨rfl, rfl⟩
  clear HA
  go_wp2_with fail
  refine HK.out.mono ?_
  rintro e w1 ⟨rfl, h2⟩
  clear HK
  go_wp2
  go_ret2
  exact ⟨rfl, h2⟩

set_option maxRecDepth 100000 in
set_option maxHeartbeats 1600000 in
theorem erase136_fk {w : World} (h : OneAt w B pb rg cap gb pv Ps fb fn f G) (hB : B ≤ w.heap.size) (x : ByteArray) (hx : x.size ≤ 1000) (hn : nameB x = true) :
    Calls Tryz.prog 136 #[.pointer (some ⟨rg, 0, none⟩), .string x] w fun e w' => e = .returned (.int .i64 (if (f x).isSome = true then 0 else 5)) ∧ OneAt w' B pb rg cap gb pv Ps fb fn (fun y => if y = x then none else f y) G ∧ Below B w w' ∧ HeldT (fun t => t = 9 ∨ t = 53 ∨ t = 45) w w' := by
  have HK : Hid (Calls Tryz.prog 79 #[.pointer (some ⟨rg, 0, none⟩), .string x] w fun e w' => e = .returned (.tuple #[.string ((f x).getD ⟨#[]⟩), .int .i64 (if (f x).isSome = true then 0 else 5)]) ∧ Below w.heap.size w w') := text79_fk h x hx hn
  have HO : Hid (OneAt w B pb rg cap gb pv Ps fb fn f G) := h
  clear h
  obtain ⟨t, ht⟩ : ∃ t, (f x).getD ⟨#[]⟩ = t := ⟨_, rfl⟩
  rw [ht] at HK
  clear ht
  cases hs : (f x).isSome
  · have HE : Hid ((fun y => if y = x then none else f y) = f) := by
      show _ = _
      funext y
      by_cases e : y = x
      · subst e; rw [if_pos rfl]; cases hf : f y <;> simp_all
      · rw [if_neg e]
    rw [hs] at HK
    clear hs
    go_enter Tryz.func136, Tryz.ntmps136
    go_wp2_with fail
    refine HK.out.mono ?_
    rintro e w1 ⟨rfl, hb⟩
    clear HK
    go_wp2
    go_ret
    rw [HE.out]
    exact ⟨rfl, HO.out.below hb, hb.mono hB, HeldT.of_below hb⟩
  · rw [hs] at HK
    clear hs
    go_enter Tryz.func136, Tryz.ntmps136
    go_wp2_with fail
    refine HK.out.mono ?_
    rintro e w1 ⟨rfl, hb⟩
    clear HK
    have c1 := (HO.out.below hb).r1
    obtain ⟨D, hown, h2, h3⟩ := (HO.out.below hb).files
    have H2 : Hid (∀ x, D.atKey (kl x) (.held (fileS ⟨#[]⟩)) = .held (fileS ((f x).getD ⟨#[]⟩))) := h2
    have H3 : Hid (∀ x, Maps.has D (kl x) = (f x).isSome) := h3
    have HB : Hid (Below w.heap.size w w1) := hb
    clear h2 h3 hb
    go_wp2_with (at_delete; refine wpList_delete_own _ rfl _ _ 85 9 rfl 105 (Maps.string_keyed Tryz.underlying9) Tryz.underlying85 latElem fb _ D rfl hown _ (kl x) rfl (kl_of (by unfold maxLen; omega)) ?_; intro w2 hown2 hturn2)
    go_ret
    have hO1 := HO.out.below HB.out
    have hg := hturn2.grown
    have hs1 := HB.out.size
    refine ⟨rfl, hO1.map_put hg hO1.files.map (hO1.given.same (hg.block gb hO1.lts.2.2.1 (by simp; exact HO.out.ne))) (FK.del H2.out H3.out (hown.tidy (Maps.string_keyed Tryz.underlying9)) x hown2), (HB.out.mono hB).trans ⟨hg.os, hg.tape, hg.output, hg.size, fun k hk => hg.block k (by omega) (by have := HO.out.lo; simp; omega)⟩, (HeldT.of_below HB.out).trans (HeldT.of_map hg hO1.files.map)⟩

set_option maxRecDepth 100000 in
set_option maxHeartbeats 1600000 in
/-- World.Erase. -/
theorem erase80_one {w : World} (h : OneAt w B pb rg cap gb pv Ps fb fn f G) (hB : B ≤ w.heap.size) (x : ByteArray) (hx : x.size ≤ 1000) (hn : nameB x = true) :
    Calls Tryz.prog 80 #[.pointer (some ⟨pb, 0, none⟩), .int .i64 0, .string x] w fun e w' => ∃ c : Int, e = .returned (.int .i64 c) ∧ (c = 0 ∨ c = 5) ∧ OneAt w' B pb rg cap gb pv Ps fb fn (fun y => if y = x then none else f y) G ∧ Below B w w' ∧ HeldT (fun t => t = 9 ∨ t = 53 ∨ t = 45) w w' := by
  have HA : Hid (Calls Tryz.prog 42 #[.pointer (some ⟨pb, 0, none⟩), .int .i64 0] w fun e w' => e = .returned (.bool true) ∧ w' = w) := has26_zero h
  have HK : Hid (Calls Tryz.prog 136 #[.pointer (some ⟨rg, 0, none⟩), .string x] w fun e w' => ∃ c : Int, e = .returned (.int .i64 c) ∧ (c = 0 ∨ c = 5) ∧ OneAt w' B pb rg cap gb pv Ps fb fn (fun y => if y = x then none else f y) G ∧ Below B w w' ∧ HeldT (fun t => t = 9 ∨ t = 53 ∨ t = 45) w w') := (erase136_fk h hB x hx hn).mono fun e w' ⟨h1, h2, h3⟩ => ⟨_, h1, by split <;> simp, h2, h3⟩
  have c0 := h.c0
  have hcap := h.cap1
  clear h
  go_enter Tryz.func80, Tryz.ntmps80
  go_wp2_with fail
  refine HA.out.mono ?_
  rintro e w0 ⟨rfl, rfl⟩
  clear HA
  go_wp2_with fail
  refine HK.out.mono ?_
  rintro e w1 ⟨c, rfl, h1, h2, h3⟩
  clear HK
  have H2 : Hid (OneAt w1 B pb rg cap gb pv Ps fb fn (fun y => if y = x then none else f y) G) := h2
  clear h2
  go_wp2
  go_ret
  exact ⟨c, rfl, h1, H2.out, h3⟩
set_option maxRecDepth 100000 in
set_option maxHeartbeats 1600000 in
/-- World.Write. -/
theorem write16_one {w : World} (h : OneAt w B pb rg cap gb pv Ps fb fn f G) (hB : B ≤ w.heap.size) (name text : ByteArray) (hfn : fn ≤ 1000) (hs : name.size ≤ 1000) (hn : nameB name = true) (hl : linesOk text = true) (hf : (f name).isSome = true ∨ fn < 5) :
    Calls Tryz.prog 16 #[.pointer (some ⟨pb, 0, none⟩), .int .i64 0, .string name, .string text] w fun e w' => e = .returned (.int .i64 0) ∧ OneAt w' B pb rg cap gb pv Ps fb (fn + 1) (fun x => if x = name then some text else f x) G ∧ Below B w w' ∧ HeldT (fun t => t = 9 ∨ t = 53 ∨ t = 45) w w' := by
  have HA : Hid (Calls Tryz.prog 42 #[.pointer (some ⟨pb, 0, none⟩), .int .i64 0] w fun e w' => e = .returned (.bool true) ∧ w' = w) := has26_zero h
  have HW : Hid (Calls Tryz.prog 43 #[.pointer (some ⟨rg, 0, none⟩), .string name, .string text] w fun e w' => e = .returned (.int .i64 0) ∧ OneAt w' B pb rg cap gb pv Ps fb (fn + 1) (fun x => if x = name then some text else f x) G ∧ Below B w w' ∧ HeldT (fun t => t = 9 ∨ t = 53 ∨ t = 45) w w') := by
    refine (write27_yes f fb fn rg 0 name text w h.files hfn h.r1 h.lts.2.1 hs hn hl hf).mono ?_
    rintro e w' ⟨rfl, u, hu, h1, h2⟩
    have hO := h.below hu
    have hus := hu.size
    refine ⟨rfl, hO.map_put h2 hO.files.map (hO.given.same (h2.block gb hO.lts.2.2.1 (by simp; exact h.ne))) h1, (hu.mono hB).trans ⟨h2.os, h2.tape, h2.output, h2.size, fun k hk => h2.block k (by omega) (by have := h.lo; simp; omega)⟩, (HeldT.of_below hu).trans (HeldT.of_map h2 hO.files.map)⟩
  have c0 := h.c0
  have hcap := h.cap1
  clear h hn hl hf
  go_enter Tryz.func16, Tryz.ntmps16
  go_wp2_with fail
  refine HA.out.mono ?_
  rintro e w0 ⟨rfl, rfl⟩
  clear HA
  go_wp2_with fail
  refine HW.out.mono ?_
  rintro e w1 ⟨rfl, h2, h3⟩
  clear HW
  have HX : Hid (OneAt w1 B pb rg cap gb pv Ps fb (fn + 1) (fun x => if x = name then some text else f x) G) := h2
  clear h2
  go_wp2
  go_ret
  exact ⟨rfl, HX.out, h3⟩
/-- As few as the names. -/
theorem OneAt.few {w : World} (h : OneAt w B pb rg cap gb pv Ps fb fn f G) {N : List ByteArray} (hN : ∀ x, (f x).isSome = true → x ∈ N) : OneAt w B pb rg cap gb pv Ps fb N.length f G :=
  ⟨h.lo, h.wb, h.row, h.given, h.own, h.chs, h.files.few hN, h.ne, h.cap1⟩
end
end Go.Proofs.YtgdfipmdmgkidaaGreatDoor

/- The files are laid as they are kept. -/
namespace Go.Proofs.YtgdfipmdmgkidaaGreatDoor
open Go.RowKit
open Go.ChangeMaps Go.MapKept

structure LayS (rg fb N : Nat) (x : ByteArray) (t : ByteArray) (w : World) : Prop where
  m : w.cell? ⟨rg, 1, none⟩ = some (.map (some fb))
  n : w.cell? ⟨N, 0, none⟩ = some (.string x)
  t : w.cell? ⟨N, 2, none⟩ = some (.string t)
section
variable {B pb rg cap gb : Nat} {pv : Value} {Ps : List PM} {fb fn : Nat} {f : ByteArray → Option ByteArray} {G : List Pid}
set_option maxRecDepth 100000 in
set_option maxHeartbeats 3200000 in
theorem lay190_there {w : World} (h : OneAt w B pb rg cap gb pv Ps fb fn f G) (hB : B ≤ w.heap.size) (hfn : fn ≤ 1000) (x t : ByteArray) (hx : x.size ≤ 1000) :
    Calls Tryz.prog 190 #[.pointer (some ⟨rg, 0, none⟩), .agg #[.string x, .bool true, .string t]] w fun e w' => e = .returned (.tuple #[]) ∧ OneAt w' B pb rg cap gb pv Ps fb (fn + 1) (fun y => if y = x then some t else f y) G ∧ Below B w w' ∧ HeldT (fun _ => True) w w' ∧ ∀ k, k < w.heap.size → k ≠ fb → w'.heap[k]? = w.heap[k]? := by
  obtain ⟨w1, hw1⟩ : ∃ w1, w1 = w.alloc (.cells #[.string x, .bool true, .string t] 118) := ⟨_, rfl⟩
  have hb1 : Below w.heap.size w w1 := by rw [hw1]; exact (Below.refl _ _).alloc (Nat.le_refl _) _
  have hk1 : w1.heap[w.heap.size]? = some (.cells #[.string x, .bool true, .string t] 118 (0, 0)) := by rw [hw1]; exact (MapKept.heap_alloc w _).1
  have hs1 : w.heap.size < w1.heap.size := by rw [hw1]; simp
  obtain ⟨r0, r1, r2⟩ := cells3_at hk1
  have h1 := h.below hb1
  have HS1 : Hid (LayS rg fb w.heap.size x t w1.drew) := ⟨h1.r1, r0, r2⟩
  obtain ⟨w2, hup, hF2, hg2⟩ := h1.drew.files.put (by omega) x t (by omega)
  have hg2' : w1.grownBy w2 (some fb) := ⟨hg2.os, hg2.tape, hg2.output, hg2.size, hg2.block⟩
  have HX : Hid (OneAt w2 B pb rg cap gb pv Ps fb (fn + 1) (fun y => if y = x then some t else f y) G ∧ Below B w w2 ∧ HeldT (fun _ => True) w w2 ∧ ∀ k, k < w.heap.size → k ≠ fb → w2.heap[k]? = w.heap[k]?) := by
    refine ⟨h1.map_put hg2' h1.files.map (h1.given.same (hg2'.block gb h1.lts.2.2.1 (by simp; exact h.ne))) hF2, (hb1.mono hB).trans ⟨hg2'.os, hg2'.tape, hg2'.output, hg2'.size, fun k hk => hg2'.block k (by omega) (by have := h.lo; simp; omega)⟩, (HeldT.of_below hb1).trans (HeldT.of_map hg2' h1.files.map), fun k hk hne => (hg2'.block k (by omega) (by simp; exact hne)).trans (hb1.block k hk)⟩
  unfold fileS at hup
  clear h h1 hk1 hF2 hg2 hg2' hb1
  go_enter Tryz.func190, Tryz.ntmps190
  go_wp2_with fail
  rw [← hw1]
  clear hw1
  go_wp2_with fail
  refine wp_region_Z (LayS rg fb w.heap.size x t) 9 (by kernel_rfl) ?_
  refine wpZ_take 0 _ (v := ?z1) rfl (by kernel_rfl) (by kernel_rfl) (by kernel_rfl) (fun _ _ _ h => h) (by kernel_rfl) (by decide) HS1.out rfl (fun w0 hS0 => ?hy) ?_
  case hy =>
    obtain ⟨s1, s2, s3⟩ := hS0
    go_simp
    with_reducible rfl
  simp only [Act.put, List.setIfInBounds_toArray]
  refine wpZ_take 1 _ (v := ?z2) rfl (by kernel_rfl) (by kernel_rfl) (by kernel_rfl) (fun _ _ _ h => h) (by kernel_rfl) (by decide) HS1.out rfl (fun w0 hS0 => ?hy) ?_
  case hy =>
    obtain ⟨s1, s2, s3⟩ := hS0
    go_simp
    with_reducible rfl
  simp only [Act.put]
  refine wpZ_take 2 _ (v := ?z3) rfl (by kernel_rfl) (by kernel_rfl) (by kernel_rfl) (fun _ _ _ h => h) (by kernel_rfl) (by decide) HS1.out rfl (fun w0 hS0 => ?hy) ?_
  case hy =>
    obtain ⟨s1, s2, s3⟩ := hS0
    go_simp
    with_reducible rfl
  simp only [Act.put]
  refine wpZ_take 3 _ (v := ?z4) rfl (by kernel_rfl) (by kernel_rfl) (by kernel_rfl) (fun _ _ _ h => h) (by kernel_rfl) (by decide) HS1.out rfl (fun w0 hS0 => ?hy) ?_
  case hy =>
    obtain ⟨s1, s2, s3⟩ := hS0
    go_simp
    with_reducible rfl
  simp only [Act.put]
  refine wpZ_take 4 _ (v := ?z5) rfl (by kernel_rfl) (by kernel_rfl) (by kernel_rfl) (fun _ _ _ h => h) (by kernel_rfl) (by decide) HS1.out rfl (fun w0 hS0 => ?hy) ?_
  case hy =>
    obtain ⟨s1, s2, s3⟩ := hS0
    go_simp
    with_reducible rfl
  simp only [Act.put]
  refine wpZ_take 5 _ (v := ?z6) rfl (by kernel_rfl) (by kernel_rfl) (by kernel_rfl) (fun _ _ _ h => h) (by kernel_rfl) (by decide) HS1.out rfl (fun w0 hS0 => ?hy) ?_
  case hy =>
    obtain ⟨s1, s2, s3⟩ := hS0
    go_simp
    with_reducible rfl
  simp only [Act.put]
  refine wpZ_take 6 _ (v := ?z7) rfl (by kernel_rfl) (by kernel_rfl) (by kernel_rfl) (fun _ _ _ h => h) (by kernel_rfl) (by decide) HS1.out rfl (fun w0 hS0 => ?hy) ?_
  case hy =>
    obtain ⟨s1, s2, s3⟩ := hS0
    go_simp
    with_reducible rfl
  simp only [Act.put]
  refine wpZ_take 7 _ (v := ?z8) rfl (by kernel_rfl) (by kernel_rfl) (by kernel_rfl) (fun _ _ _ h => h) (by kernel_rfl) (by decide) HS1.out rfl (fun w0 hS0 => ?hy) ?_
  case hy =>
    obtain ⟨s1, s2, s3⟩ := hS0
    go_simp
    with_reducible rfl
  simp only [Act.put]
  refine wpZ_take 8 _ (v := ?z9) rfl (by kernel_rfl) (by kernel_rfl) (by kernel_rfl) (fun _ _ _ h => h) (by kernel_rfl) (by decide) HS1.out rfl (fun w0 hS0 => ?hy) ?_
  case hy =>
    obtain ⟨s1, s2, s3⟩ := hS0
    go_simp
    with_reducible rfl
  simp only [Act.put]
  refine wpZ_one 9 _ rfl (by kernel_rfl) (fun KK hK => ?_)
  go_simp
  refine hK.out _ _ (fun h => absurd rfl h) ?_
  clear hK hup
  refine wpZ_done (by kernel_rfl) ?_ _
  go_wp2
  refine bodyPost_end (results_none rfl _ _ _) rfl ?_
  exact ⟨rfl, HX.out⟩

set_option maxRecDepth 100000 in
set_option maxHeartbeats 3200000 in
theorem lay190_gone {w : World} (h : OneAt w B pb rg cap gb pv Ps fb fn f G) (hB : B ≤ w.heap.size) (_hfn : fn ≤ 1000) (x : ByteArray) (hx : x.size ≤ 1000) :
    Calls Tryz.prog 190 #[.pointer (some ⟨rg, 0, none⟩), .agg #[.string x, .bool false, .string ⟨#[]⟩]] w fun e w' => e = .returned (.tuple #[]) ∧ OneAt w' B pb rg cap gb pv Ps fb fn (fun y => if y = x then none else f y) G ∧ Below B w w' ∧ HeldT (fun _ => True) w w' ∧ ∀ k, k < w.heap.size → k ≠ fb → w'.heap[k]? = w.heap[k]? := by
  obtain ⟨w1, hw1⟩ : ∃ w1, w1 = w.alloc (.cells #[.string x, .bool false, .string ⟨#[]⟩] 118) := ⟨_, rfl⟩
  have hb1 : Below w.heap.size w w1 := by rw [hw1]; exact (Below.refl _ _).alloc (Nat.le_refl _) _
  have hk1 : w1.heap[w.heap.size]? = some (.cells #[.string x, .bool false, .string ⟨#[]⟩] 118 (0, 0)) := by rw [hw1]; exact (MapKept.heap_alloc w _).1
  have hs1 : w.heap.size < w1.heap.size := by rw [hw1]; simp
  obtain ⟨r0, r1, r2⟩ := cells3_at hk1
  have h1 := h.below hb1
  have HS1 : Hid (LayS rg fb w.heap.size x ⟨#[]⟩ w1.drew) := ⟨h1.r1, r0, r2⟩
  obtain ⟨D, hown, k2, k3⟩ := h1.drew.files
  obtain ⟨w2, hdel, hown2, hturn2⟩ := hown.drop (Maps.string_keyed Tryz.underlying9) Tryz.underlying85 (kl_of (s := x) (by unfold maxLen; omega)) 0
  have hg2 := hturn2.grown
  have hF2 := FK.del k2 k3 (hown.tidy (Maps.string_keyed Tryz.underlying9)) x hown2
  have hg2' : w1.grownBy w2 (some fb) := ⟨hg2.os, hg2.tape, hg2.output, hg2.size, hg2.block⟩
  have HX : Hid (OneAt w2 B pb rg cap gb pv Ps fb fn (fun y => if y = x then none else f y) G ∧ Below B w w2 ∧ HeldT (fun _ => True) w w2 ∧ ∀ k, k < w.heap.size → k ≠ fb → w2.heap[k]? = w.heap[k]?) := by
    refine ⟨h1.map_put hg2' h1.files.map (h1.given.same (hg2'.block gb h1.lts.2.2.1 (by simp; exact h.ne))) hF2, (hb1.mono hB).trans ⟨hg2'.os, hg2'.tape, hg2'.output, hg2'.size, fun k hk => hg2'.block k (by omega) (by have := h.lo; simp; omega)⟩, (HeldT.of_below hb1).trans (HeldT.of_map hg2' h1.files.map), fun k hk hne => (hg2'.block k (by omega) (by simp; exact hne)).trans (hb1.block k hk)⟩
  have HS2 : Hid (LayS rg fb w.heap.size x ⟨#[]⟩ w2) := by
    have hfb := h.lts.2.2.2
    have e := hg2'.block w.heap.size (by omega) (by simp; omega)
    obtain ⟨a0, a1, a2⟩ := cells3_at (e.trans hk1)
    exact ⟨HX.out.1.r1, a0, a2⟩
  clear h h1 hk1 hF2 hg2 hg2' hb1 hown hown2 hturn2 k2 k3
  go_enter Tryz.func190, Tryz.ntmps190
  go_wp2_with fail
  rw [← hw1]
  clear hw1
  go_wp2_with fail
  refine wp_region_Z (LayS rg fb w.heap.size x ⟨#[]⟩) 99 (by kernel_rfl) ?_
  refine wpZ_take 0 _ (v := ?z10) rfl (by kernel_rfl) (by kernel_rfl) (by kernel_rfl) (fun _ _ _ h => h) (by kernel_rfl) (by decide) HS1.out rfl (fun w0 hS0 => ?hy) ?_
  case hy =>
    obtain ⟨s1, s2, s3⟩ := hS0
    go_simp
    with_reducible rfl
  simp only [Act.put, List.setIfInBounds_toArray]
  refine wpZ_take 1 _ (v := ?z11) rfl (by kernel_rfl) (by kernel_rfl) (by kernel_rfl) (fun _ _ _ h => h) (by kernel_rfl) (by decide) HS1.out rfl (fun w0 hS0 => ?hy) ?_
  case hy =>
    obtain ⟨s1, s2, s3⟩ := hS0
    go_simp
    with_reducible rfl
  simp only [Act.put]
  refine wpZ_take 2 _ (v := ?z12) rfl (by kernel_rfl) (by kernel_rfl) (by kernel_rfl) (fun _ _ _ h => h) (by kernel_rfl) (by decide) HS1.out rfl (fun w0 hS0 => ?hy) ?_
  case hy =>
    obtain ⟨s1, s2, s3⟩ := hS0
    go_simp
    with_reducible rfl
  simp only [Act.put]
  refine wpZ_take 3 _ (v := ?z13) rfl (by kernel_rfl) (by kernel_rfl) (by kernel_rfl) (fun _ _ _ h => h) (by kernel_rfl) (by decide) HS1.out rfl (fun w0 hS0 => ?hy) ?_
  case hy =>
    obtain ⟨s1, s2, s3⟩ := hS0
    go_simp
    with_reducible rfl
  simp only [Act.put]
  refine wpZ_take 4 _ (v := ?z14) rfl (by kernel_rfl) (by kernel_rfl) (by kernel_rfl) (fun _ _ _ h => h) (by kernel_rfl) (by decide) HS1.out rfl (fun w0 hS0 => ?hy) ?_
  case hy =>
    obtain ⟨s1, s2, s3⟩ := hS0
    go_simp
    with_reducible rfl
  simp only [Act.put]
  refine wpZ_take 5 _ (v := ?z15) rfl (by kernel_rfl) (by kernel_rfl) (by kernel_rfl) (fun _ _ _ h => h) (by kernel_rfl) (by decide) HS1.out rfl (fun w0 hS0 => ?hy) ?_
  case hy =>
    obtain ⟨s1, s2, s3⟩ := hS0
    go_simp
    with_reducible rfl
  simp only [Act.put]
  refine wpZ_one 6 _ rfl (by kernel_rfl) (fun KK hK => ?_)
  go_simp
  refine hK.out _ _ (fun _ => HS2.out) ?_
  clear hK hdel
  refine wpZ_done (by kernel_rfl) ?_ _
  go_wp2
  refine bodyPost_end (results_none rfl _ _ _) rfl ?_
  exact ⟨rfl, HX.out⟩
end
end Go.Proofs.YtgdfipmdmgkidaaGreatDoor
