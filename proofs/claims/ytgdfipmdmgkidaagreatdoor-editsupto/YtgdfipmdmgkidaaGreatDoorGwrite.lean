/- The program's write on one repository, and a new repository. -/
import Derived.Test.YtgdfipmdmgkidaaGreatDoorGtext
namespace Go.Proofs.YtgdfipmdmgkidaaGreatDoor
open Go.RowKit

theorem wFiles_no {F : Repo} {name text : ByteArray} {c : Int} (h : wCode F name text = c) (hc : c ≠ 0) : wFiles F name text = F := by unfold wFiles; rw [h, if_neg hc]
theorem wFiles_yes {F : Repo} {name text : ByteArray} (h : wCode F name text = 0) : wFiles F name text = setF F name text true := by unfold wFiles; rw [h, if_pos rfl]
theorem fgrown_block {w w' : World} {mb : Nat} {F : Repo} (_h : FAt w mb F) (hb : Below w.heap.size w w') : w.grownBy w' (some mb) := grown_of_below hb

set_option maxRecDepth 100000 in
set_option maxHeartbeats 3200000 in
theorem write77_any (name text : ByteArray) (hs : name.size ≤ 10000000) (b o mb : Nat) (F : Repo) (hF : F.length ≤ 5) (w : World) (hc : w.cell? ⟨b, o + 1, none⟩ = some (.map (some mb))) (hlt : b < w.heap.size) (h : FAt w mb F) :
    Calls Tryz.prog 43 #[.pointer (some ⟨b, o, none⟩), .string name, .string text] w fun e w' => e = .returned (.int .i64 (wCode F name text)) ∧ FAt w' mb (wFiles F name text) ∧ w.grownBy w' (some mb) := by
  have HW : Hid (FAt w mb F) := h
  clear h
  cases hn : nameB name
  · have e1 : wCode F name text = 2 := by unfold wCode; rw [hn]; rfl
    rw [e1, wFiles_no e1 (by decide)]
    have HN : Hid (nameB name = false) := hn
    clear hn e1
    go_enter Tryz.func43, Tryz.ntmps43
    go_wp2_with fail
    refine (isName42_any name _).mono ?_
    rw [HN.out]
    rintro e w1 ⟨rfl, hb⟩
    go_wp2
    go_ret
    exact ⟨rfl, HW.out.below hb, grown_of_below hb⟩
  · have HN : Hid (nameB name = true) := hn
    cases hl : linesOk text
    · have e1 : wCode F name text = 3 := by unfold wCode; rw [hn, hl]; rfl
      rw [e1, wFiles_no e1 (by decide)]
      have HL : Hid (linesOk text = false) := hl
      clear hn e1 hl
      go_enter Tryz.func43, Tryz.ntmps43
      go_wp2_with fail
      refine (isName42_any name _).mono ?_
      rw [HN.out]
      rintro e w1 ⟨rfl, hb⟩
      go_wp2_with fail
      refine (lines12_any text _).mono ?_
      rw [HL.out]
      rintro e w2 ⟨v, rfl, hown, hb2⟩
      have hb3 : Below w.heap.size w w2 := hb.trans (hb2.mono hb.size)
      obtain ⟨va, vc, rfl⟩ := own_shape hown
      clear hown hb2 hb
      go_wp2
      go_ret
      exact ⟨rfl, HW.out.below hb3, grown_of_below hb3⟩
    · have HL : Hid (linesOk text = true) := hl
      cases hf : (fileOf F name).isSome
      · have HF : Hid ((fileOf F name).isSome = false) := hf
        have hf2 : (whr (nms F) name).isNone = true := by rw [whr_none_iff, hf]; rfl
        by_cases h5 : 5 ≤ F.length
        · have e1 : wCode F name text = 4 := by unfold wCode; rw [hn, hl, hf2]; simp [h5]
          rw [e1, wFiles_no e1 (by decide)]
          clear hn e1 hl hf hf2
          go_enter Tryz.func43, Tryz.ntmps43
          go_wp2_with fail
          refine (isName42_any name _).mono ?_
          rw [HN.out]
          rintro e w1 ⟨rfl, hb⟩
          go_wp2_with fail
          refine (lines12_any text _).mono ?_
          rw [HL.out]
          rintro e w2 ⟨v, rfl, hown, hb2⟩
          have hb3 : Below w.heap.size w w2 := hb.trans (hb2.mono hb.size)
          obtain ⟨va, vc, rfl⟩ := own_shape hown
          clear hown hb2 hb
          have c1 := (hb3.cell (p := ⟨b, o + 1, none⟩) hlt).trans hc
          obtain ⟨D, hown, hR⟩ := HW.out.below hb3
          have HH : Hid (Maps.has D (kl name) = false) := by show _ = _; rw [hR.has]; exact HF.out
          have hsz : 5 ≤ Maps.size D := by rw [hR.size]; exact h5
          have HB : Hid (Below w.heap.size w w2) := hb3
          have c2 : ∀ ob, (w2.alloc ob).cell? ⟨b, o + 1, none⟩ = some (.map (some mb)) := fun ob => (((Below.refl w2.heap.size w2).alloc (Nat.le_refl _) ob).cell (p := ⟨b, o + 1, none⟩) (Nat.lt_of_lt_of_le hlt hb3.size)).trans c1
          have hlen := fun ob => (hown.alloc ob).len Tryz.underlying85 3
          clear hR hc hb3
          go_wp2_with (first | (at_lookup; refine wpList_lookup_own_ok _ rfl _ _ 85 rfl 9 105 (Maps.string_keyed Tryz.underlying9) Tryz.underlying85 fileElem (zero95 _) _ [] (fileElem_mk _) mb _ D rfl hown _ (kl name) rfl (kl_of (by unfold maxLen; omega)) ?_; intro v ps hv; rw [HH.out]; obtain ⟨s, rfl, hz⟩ := fileElem_inv hv; clear hv hz))
          go_ret
          exact ⟨rfl, HW.out.below (HB.out.alloc HB.out.size _), grown_of_below (HB.out.alloc HB.out.size _)⟩
        · have e1 : wCode F name text = 0 := by unfold wCode; rw [hn, hl, hf2]; simp [h5]
          rw [e1, wFiles_yes e1]
          clear hn e1 hl hf hf2
          go_enter Tryz.func43, Tryz.ntmps43
          go_wp2_with fail
          refine (isName42_any name _).mono ?_
          rw [HN.out]
          rintro e w1 ⟨rfl, hb⟩
          go_wp2_with fail
          refine (lines12_any text _).mono ?_
          rw [HL.out]
          rintro e w2 ⟨v, rfl, hown, hb2⟩
          have hb3 : Below w.heap.size w w2 := hb.trans (hb2.mono hb.size)
          obtain ⟨va, vc, rfl⟩ := own_shape hown
          clear hown hb2 hb
          have c1 := (hb3.cell (p := ⟨b, o + 1, none⟩) hlt).trans hc
          obtain ⟨D, hown, hR⟩ := HW.out.below hb3
          have HH : Hid (Maps.has D (kl name) = false) := by show _ = _; rw [hR.has]; exact HF.out
          have hsz : Maps.size D < 5 := by rw [hR.size]; omega
          have HB : Hid (Below w.heap.size w w2) := hb3
          have c2 : ∀ ob, (w2.alloc ob).cell? ⟨b, o + 1, none⟩ = some (.map (some mb)) := fun ob => (((Below.refl w2.heap.size w2).alloc (Nat.le_refl _) ob).cell (p := ⟨b, o + 1, none⟩) (Nat.lt_of_lt_of_le hlt hb3.size)).trans c1
          have hlen := fun ob => (hown.alloc ob).len Tryz.underlying85 3
          have HR : Hid (Reads D F) := hR
          clear hR hc hb3
          go_wp2_with (first | (at_lookup; refine wpList_lookup_own_ok _ rfl _ _ 85 rfl 9 105 (Maps.string_keyed Tryz.underlying9) Tryz.underlying85 fileElem (zero95 _) _ [] (fileElem_mk _) mb _ D rfl hown _ (kl name) rfl (kl_of (by unfold maxLen; omega)) ?_; intro v ps hv; rw [HH.out]; obtain ⟨s, rfl, hz⟩ := fileElem_inv hv; clear hv hz) | (at_mapUpdate; refine wpList_mapUpdate_own _ rfl _ _ _ 85 rfl 9 105 (Maps.string_keyed Tryz.underlying9) Tryz.underlying85 _ mb _ D rfl (hown.alloc _) (by unfold maxLen; omega) _ _ (kl name) rfl rfl (kl_of (by unfold maxLen; omega)) _ [] (fileElem_mk text) ?_; intro w3 hown3 hg3))
          go_ret
          exact ⟨rfl, FAt.of hown3 (HR.out.put (hown.tidy (Maps.string_keyed Tryz.underlying9)) name text), grown_tr (grown_of_below (HB.out.alloc HB.out.size _)) hg3⟩
      · have HF : Hid ((fileOf F name).isSome = true) := hf
        have hf2 : (whr (nms F) name).isNone = false := by rw [whr_none_iff, hf]; rfl
        have e1 : wCode F name text = 0 := by unfold wCode; rw [hn, hl, hf2]; simp
        rw [e1, wFiles_yes e1]
        clear hn e1 hl hf hf2
        go_enter Tryz.func43, Tryz.ntmps43
        go_wp2_with fail
        refine (isName42_any name _).mono ?_
        rw [HN.out]
        rintro e w1 ⟨rfl, hb⟩
        go_wp2_with fail
        refine (lines12_any text _).mono ?_
        rw [HL.out]
        rintro e w2 ⟨v, rfl, hown, hb2⟩
        have hb3 : Below w.heap.size w w2 := hb.trans (hb2.mono hb.size)
        obtain ⟨va, vc, rfl⟩ := own_shape hown
        clear hown hb2 hb
        have c1 := (hb3.cell (p := ⟨b, o + 1, none⟩) hlt).trans hc
        obtain ⟨D, hown, hR⟩ := HW.out.below hb3
        have HH : Hid (Maps.has D (kl name) = true) := by show _ = _; rw [hR.has]; exact HF.out
        have HB : Hid (Below w.heap.size w w2) := hb3
        have c2 : ∀ ob, (w2.alloc ob).cell? ⟨b, o + 1, none⟩ = some (.map (some mb)) := fun ob => (((Below.refl w2.heap.size w2).alloc (Nat.le_refl _) ob).cell (p := ⟨b, o + 1, none⟩) (Nat.lt_of_lt_of_le hlt hb3.size)).trans c1
        have hlen := fun ob => (hown.alloc ob).len Tryz.underlying85 3
        have HR : Hid (Reads D F) := hR
        clear hR hc hb3
        go_wp2_with (first | (at_lookup; refine wpList_lookup_own_ok _ rfl _ _ 85 rfl 9 105 (Maps.string_keyed Tryz.underlying9) Tryz.underlying85 fileElem (zero95 _) _ [] (fileElem_mk _) mb _ D rfl hown _ (kl name) rfl (kl_of (by unfold maxLen; omega)) ?_; intro v ps hv; rw [HH.out]; obtain ⟨s, rfl, hz⟩ := fileElem_inv hv; clear hv hz) | (at_mapUpdate; refine wpList_mapUpdate_own _ rfl _ _ _ 85 rfl 9 105 (Maps.string_keyed Tryz.underlying9) Tryz.underlying85 _ mb _ D rfl (hown.alloc _) (by unfold maxLen; omega) _ _ (kl name) rfl rfl (kl_of (by unfold maxLen; omega)) _ [] (fileElem_mk text) ?_; intro w3 hown3 hg3))
        go_ret
        exact ⟨rfl, FAt.of hown3 (HR.out.put (hown.tidy (Maps.string_keyed Tryz.underlying9)) name text), grown_tr (grown_of_below (HB.out.alloc HB.out.size _)) hg3⟩

theorem FAt.made' (w : World) (mb : Nat) (h : mb = w.heap.size) : FAt (w.alloc (.map #[] 0)) mb [] := by subst h; exact FAt.made w

set_option maxRecDepth 100000 in
set_option maxHeartbeats 1600000 in
theorem newRepo46_any (w : World) :
    Calls Tryz.prog 41 #[] w fun e w' => ∃ mb, e = .returned (.agg #[.slice none 0 0, .map (some mb)]) ∧ w.heap.size ≤ mb ∧ FAt w' mb [] ∧ Below w.heap.size w w' := by
  have hmm : ∀ w, (Instr.makeMap 85 none).run Tryz.prog w = .ok (.map (some w.heap.size)) (w.alloc (.map #[] 0)) := fun _ => by kernel_rfl
  go_enter Tryz.func41, Tryz.ntmps41
  go_wp2
  refine bodyPost_ret (by simp [results, Tryz.results41, go_sem]; try rfl) rfl ?_
  exact ⟨_, rfl, Nat.le_succ _, FAt.made' _ _ (by simp), ((Below.refl _ _).alloc (Nat.le_refl _) _).alloc (by simp) _⟩
end Go.Proofs.YtgdfipmdmgkidaaGreatDoor
