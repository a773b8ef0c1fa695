/- The program's calls on one repository. -/
import Derived.Test.YtgdfipmdmgkidaaGreatDoorGmap
import Derived.Test.YtgdfipmdmgkidaaGreatDoorGrefe
import Derived.Test.YtgdfipmdmgkidaaGreatDoorWids
import Derived.Test.YtgdfipmdmgkidaaGreatDoorWsize
namespace Go.Proofs.YtgdfipmdmgkidaaGreatDoor
open Go.RowKit

theorem zero95 (w : World) : (zeroValue 105).run Tryz.prog w = .ok (.agg #[.string ⟨#[]⟩]) w := by kernel_rfl

theorem FAt.below {w w' : World} {mb : Nat} {F : Repo} (h : FAt w mb F) (hb : Below w.heap.size w w') : FAt w' mb F := h.kept (row := none) (grown_of_below hb) (by simp)

set_option maxRecDepth 100000 in
set_option maxHeartbeats 1600000 in
theorem text23_bad (name : ByteArray) (hn : nameB name = false) (p : Addr) (w : World) :
    Calls Tryz.prog 79 #[.pointer (some p), .string name] w fun e w' => e = .returned (.tuple #[.string ⟨#[]⟩, .int .i64 2]) ∧ Below w.heap.size w w' := by
  have HN : Hid (nameB name = false) := hn
  clear hn
  go_enter Tryz.func79, Tryz.ntmps79
  go_wp2_with fail
  refine (isName42_any name _).mono ?_
  rw [HN.out]
  rintro e w1 ⟨rfl, hb⟩
  go_wp2
  go_ret2
  exact ⟨rfl, hb⟩

set_option maxRecDepth 100000 in
set_option maxHeartbeats 1600000 in
theorem text23_ok (name : ByteArray) (hs : name.size ≤ 10000000) (hn : nameB name = true) (b o mb : Nat) (F : Repo) (w : World) (hc : w.cell? ⟨b, o + 1, none⟩ = some (.map (some mb))) (hlt : b < w.heap.size) (h : FAt w mb F) :
    Calls Tryz.prog 79 #[.pointer (some ⟨b, o, none⟩), .string name] w fun e w' => e = .returned (.tuple #[.string (tText F name), .int .i64 (tCode F name)]) ∧ Below w.heap.size w w' := by
  have HN : Hid (nameB name = true) := hn
  have HC : Hid (tCode F name = if (fileOf F name).isSome = true then 0 else 5) := by show _ = _; unfold tCode; rw [hn]; rfl
  have HX : Hid (tText F name = (fileOf F name).getD ⟨#[]⟩) := by show _ = _; unfold tText; rw [hn]; rfl
  clear hn
  go_enter Tryz.func79, Tryz.ntmps79
  go_wp2_with fail
  refine (isName42_any name _).mono ?_
  rw [HN.out]
  rintro e w1 ⟨rfl, hb⟩
  have c1 := (hb.cell (p := ⟨b, o + 1, none⟩) hlt).trans hc
  obtain ⟨D, hown, hR⟩ := h.below hb
  cases hf : fileOf F name with
  | none =>
    have hh : Maps.has D (kl name) = false := by rw [hR.has, hf]; rfl
    have HH : Hid (Maps.has D (kl name) = false) := hh
    have HF : Hid (fileOf F name = none) := hf
    clear hh hf hc h hR
    go_wp2_with (at_lookup; refine wpList_lookup_own_ok _ rfl _ _ 85 rfl 9 105 (Maps.string_keyed Tryz.underlying9) Tryz.underlying85 fileElem (zero95 _) _ [] (fileElem_mk _) mb _ D rfl hown _ (kl name) rfl (kl_of (by unfold maxLen; omega)) ?_; intro v ps hv; rw [HH.out]; obtain ⟨s, rfl, hz⟩ := fileElem_inv hv; clear hv hz)
    go_ret2
    rw [HC.out, HX.out, HF.out]
    exact ⟨rfl, hb.alloc hb.size _⟩
  | some t =>
    have hh : Maps.has D (kl name) = true := by rw [hR.has, hf]; rfl
    have HH : Hid (Maps.has D (kl name) = true) := hh
    have HF : Hid (fileOf F name = some t) := hf
    have HA : Hid (∀ z, D.atKey (kl name) z = .lit (.string t.data.toList)) := hR.at_ name t hf
    clear hh hf hc h hR
    go_wp2_with (at_lookup; refine wpList_lookup_own_ok _ rfl _ _ 85 rfl 9 105 (Maps.string_keyed Tryz.underlying9) Tryz.underlying85 fileElem (zero95 _) _ [] (fileElem_mk _) mb _ D rfl hown _ (kl name) rfl (kl_of (by unfold maxLen; omega)) ?_; intro v ps hv; rw [HH.out]; obtain ⟨s, rfl, hz⟩ := fileElem_inv hv; have HZ : Hid (s = t) := (by rw [HA.out] at hz; injection hz with h1 _; injection h1 with h1; injection h1 with h1; exact (bytes_inj h1).symm); clear hv hz)
    go_ret2
    rw [HC.out, HX.out, HF.out, HZ.out]
    exact ⟨rfl, hb.alloc hb.size _⟩

theorem text23_any (name : ByteArray) (hs : name.size ≤ 10000000) (b o mb : Nat) (F : Repo) (w : World) (hc : w.cell? ⟨b, o + 1, none⟩ = some (.map (some mb))) (hlt : b < w.heap.size) (h : FAt w mb F) :
    Calls Tryz.prog 79 #[.pointer (some ⟨b, o, none⟩), .string name] w fun e w' => e = .returned (.tuple #[.string (tText F name), .int .i64 (tCode F name)]) ∧ Below w.heap.size w w' := by
  cases hn : nameB name
  · have e1 : tCode F name = 2 := by unfold tCode; rw [hn]; rfl
    have e2 : tText F name = ⟨#[]⟩ := by unfold tText; rw [hn]; rfl
    rw [e1, e2]
    exact text23_bad name hn _ w
  · exact text23_ok name hs hn b o mb F w hc hlt h

theorem whr_none_iff {F : Repo} {name : ByteArray} : (whr (nms F) name).isNone = !(fileOf F name).isSome := by
  cases hk : whr (nms F) name with
  | none => rw [fileOf_none hk]; rfl
  | some k =>
    obtain ⟨t, _, e⟩ := fileOf_some hk
    rw [e]; rfl
theorem eCode_t (F : Repo) (name : ByteArray) : eCode F name = tCode F name := by
  unfold eCode tCode
  rw [whr_none_iff]
  cases (fileOf F name).isSome <;> simp

def eFiles (F : Repo) (name : ByteArray) : Repo := if eCode F name = 0 then goneF F name else F
def wFiles (F : Repo) (name text : ByteArray) : Repo := if wCode F name text = 0 then setF F name text true else F

set_option maxRecDepth 100000 in
set_option maxHeartbeats 1600000 in
theorem erase81_any (name : ByteArray) (hs : name.size ≤ 10000000) (b o mb : Nat) (F : Repo) (w : World) (hc : w.cell? ⟨b, o + 1, none⟩ = some (.map (some mb))) (hlt : b < w.heap.size) (h : FAt w mb F) :
    Calls Tryz.prog 136 #[.pointer (some ⟨b, o, none⟩), .string name] w fun e w' => e = .returned (.int .i64 (eCode F name)) ∧ FAt w' mb (eFiles F name) ∧ w.grownBy w' (some mb) := by
  have ht := text23_any name hs b o mb F w hc hlt h
  unfold eFiles
  rw [eCode_t]
  by_cases h0 : tCode F name = 0
  · rw [if_pos h0]
    rw [h0] at ht ⊢
    have HT : Hid (Calls Tryz.prog 79 #[.pointer (some ⟨b, o, none⟩), .string name] w fun e w' => e = .returned (.tuple #[.string (tText F name), .int .i64 0]) ∧ Below w.heap.size w w') := ht
    clear ht h0
    have HW : Hid (FAt w mb F) := h
    clear h
    generalize tText F name = t at *
    go_enter Tryz.func136, Tryz.ntmps136
    go_wp2_with fail
    refine HT.out.mono ?_
    rintro e w1 ⟨rfl, hb⟩
    have c1 := (hb.cell (p := ⟨b, o + 1, none⟩) hlt).trans hc
    obtain ⟨D, hown, hR⟩ := HW.out.below hb
    have HR : Hid (Reads D F) := hR
    have HB : Hid (Below w.heap.size w w1) := hb
    clear hR hc hb
    go_wp2_with (at_delete; refine wpList_delete_own _ rfl _ _ 85 9 rfl 105 (Maps.string_keyed Tryz.underlying9) Tryz.underlying85 fileElem mb _ D rfl hown _ (kl name) rfl (kl_of (by unfold maxLen; omega)) ?_; intro w2 hown2 hturn2)
    go_ret
    exact ⟨rfl, FAt.of hown2 (HR.out.del (hown.tidy (Maps.string_keyed Tryz.underlying9)) name), grown_tr (grown_of_below HB.out) hturn2.grown⟩
  · rw [if_neg h0]
    have hcs : tCode F name = 2 ∨ tCode F name = 5 := by
      unfold tCode at h0 ⊢
      split at h0
      · split at h0
        · exact absurd rfl h0
        · rename_i h1 h2; rw [if_pos h1, if_neg h2]; exact Or.inr rfl
      · rename_i h1; rw [if_neg h1]; exact Or.inl rfl
    obtain ⟨c, hcc, hc0⟩ : ∃ c : Int, tCode F name = c ∧ (c = 2 ∨ c = 5) := ⟨_, rfl, hcs⟩
    rw [hcc] at ht ⊢
    have HT : Hid (Calls Tryz.prog 79 #[.pointer (some ⟨b, o, none⟩), .string name] w fun e w' => e = .returned (.tuple #[.string (tText F name), .int .i64 c]) ∧ Below w.heap.size w w') := ht
    clear ht h0 hcc hcs
    have HW : Hid (FAt w mb F) := h
    clear h
    generalize tText F name = t at *
    have hne : (c != 0) = true := by rw [bne_iff_ne]; omega
    clear hc0
    go_enter Tryz.func136, Tryz.ntmps136
    go_wp2_with fail
    refine HT.out.mono ?_
    rintro e w1 ⟨rfl, hb⟩
    go_wp2
    go_ret
    exact ⟨rfl, HW.out.below hb, grown_of_below hb⟩
end Go.Proofs.YtgdfipmdmgkidaaGreatDoor
