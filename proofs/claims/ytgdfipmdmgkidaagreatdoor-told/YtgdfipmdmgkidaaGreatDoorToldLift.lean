/- Told returns true at every two lists of numbers, of any length, and leaves them as they were: no condition but that the package-level variables which the card lists start as the program's text lays them (the tie is given). -/
import Derived.Test.YtgdfipmdmgkidaaGreatDoorRows
import Derived.LaidMore
import Derived.Stop.Joined
import Derived.Test.YtgdfipmdmgkidaaGreatDoorPtold
import Derived.WalkKit
import Derived.ProofKit
import Derived.OpenShut
import Derived.ChangeOld
import Derived.Below
import Derived.ChangeSlices
import Derived.Carry
namespace Go.Proofs.YtgdfipmdmgkidaaGreatDoor
open Go.ChangeShapes Go.WideShapes Go.ChangeAt Go.RowKit

theorem told_own : ownKnob Tryz.prog.godebug = none := by kernel_rfl
theorem told_laidOut : laidOutB Tryz.prog = true := by kernel_rfl
theorem told_cells3 : Tryz.prog.cellsOf 3 = 1 := by kernel_rfl
theorem told_wf {x : Int} (h : (Lit.int .i64 x).wf = true) : -9223372036854775808 ≤ x ∧ x ≤ 9223372036854775807 := by
  simp [Lit.wf, IntKind.min, IntKind.max, IntKind.signed, IntKind.bits] at h
  omega

set_option maxRecDepth 100000 in
theorem open_list {H : Type} {enc : TypeId × Value → H} {W : World} {spare : Nat → Bool} {held : Bool} {v : Value} {d : DataW H} {ps : List MemPlace}
    (h : DataW.Trod enc Tryz.prog W 0 spare held 25 v d ps) (hsl : ∃ a len cap, v = .slice a len cap) (hlt : ∀ x ∈ ps, x.block < W.heap.size) :
    ∃ R : List Int, IV W v R ∧ ∀ x ∈ R, -9223372036854775808 ≤ x ∧ x ≤ 9223372036854775807 := by
  obtain ⟨a0, len, cap, rfl⟩ := hsl
  obtain ⟨fuel, hf⟩ := h
  rcases open_ints Tryz.underlying25 Tryz.underlying3 told_cells3 hf with ⟨hcs, _⟩ | ⟨a, len', cap', zs, hcs, _, hl, hm, hz, hx, hc, hw⟩
  · simp [Value.cells] at hcs
    obtain ⟨rfl, rfl, rfl⟩ := hcs
    exact ⟨[], ⟨none, 0, rfl, fun k hk => by simp at hk⟩, fun x hx => by cases hx⟩
  · simp [Value.cells] at hcs
    obtain ⟨rfl, rfl, rfl⟩ := hcs
    simp only [Prod.mk.injEq] at hx
    obtain ⟨rfl, rfl⟩ := hx
    have hlz : len ≤ zs.length := by rw [hz]; split <;> omega
    refine ⟨zs.take len, ⟨some a, cap, by rw [List.length_take, Nat.min_eq_left hlz], fun k hk => ?_⟩, fun x hx => told_wf (hw x (List.mem_of_mem_take hx))⟩
    have hk' : k < zs.length := by rw [List.length_take] at hk; omega
    have h1 := hc k hk'
    have hspot : ∀ {A : Addr} {u : Value}, W.cell? A = some u → A.spot = none := by
      intro A u h
      unfold World.cell? at h
      split at h
      · split at h
        · cases h
        · rename_i hs; simpa using hs
      · cases h
    have hsp := hspot (hc 0 (by omega))
    obtain ⟨bl, off, sp⟩ := a
    obtain rfl : sp = none := by simpa [Addr.add] using hsp
    have e : (⟨bl, off, none⟩ : Addr).add k = ⟨bl, off + k, none⟩ := by
      unfold Addr.add
      split
      · rename_i h; subst h; rfl
      · rfl
    rw [e] at h1
    refine ⟨bl, off, rfl, hlt (.cell bl off) (MemPlace.mem_row.2 ⟨0, by omega, by simp⟩), ?_⟩
    rw [h1, List.getElem_take, List.getD_eq_getElem?_getD, List.getElem?_eq_getElem hk']
    rfl

/-- The door's own heap meets the condition. -/
theorem door_met (os : Os) (args : Array Value) : laidMetH Tryz.prog Rows.toldRow.laid ((World.doorLaid Tryz.prog 400 os).forCall (fun _ _ => 0) ⟨#[], args, []⟩).memory :=
  laidMetH_of_parts3 (fuel := 8) (laidMet_of_run' 8 (by kernel_rfl) (by kernel_rfl)) (by kernel_rfl) (by kernel_rfl)

set_option maxRecDepth 100000 in
theorem told_lifted (os : Os) (started : os.Started) (H : Type) (enc : TypeId × Value → H) :
    ReturnsInHanded {} Tryz.checked os 5 .any (fun w args => (Rows.toldSpec.pre enc Tryz.prog Tryz.f5 [] false w args ∧ laidMetH Tryz.prog Rows.toldRow.laid w) ∧ sizedMet enc Tryz.prog Tryz.f5 (OpenSpec.ofChange Rows.toldSpec) false w args)
      (Rows.toldSpec.post enc Tryz.prog Tryz.f5 false true false false) := by
  refine returnsInHanded_of_change_and (C := Tryz.checked) (X := fun w _ => laidMetH Tryz.prog Rows.toldRow.laid w) (fun _ _ _ hh h => h.of_heap hh) told_own started (by kernel_rfl) Tryz.func5
    (ChangeSpec.witness_shaped (enc := enc) (C := Tryz.checked) (os := os) (X := fun w _ => laidMetH Tryz.prog Rows.toldRow.laid w) false (World.doorLaid Tryz.prog 400 os) #[.slice none 0 0, .slice none 0 0] 8 rfl (World.shaped_of_RefB (by kernel_rfl) (by kernel_rfl)) (by kernel_rfl) (by kernel_rfl) (by kernel_rfl) (door_met os _)) ?_
  intro W base args ds gs before hval0 hW _ _ _ _
  have hval : ∀ (j : Nat) t v, Tryz.f5.params[j]? = some t → args[j]? = some v → Value.okWide Tryz.prog W .any base t v := hval0
  have hW' := hW
  obtain ⟨p, q, hA0, hV, rfl, hfz, hnd⟩ := hW
  have hA : DataW.TrodAll enc Tryz.prog W 0 (fun _ => true) true Tryz.f5.params.toList args.toList ds p := hA0
  rw [Tryz.params5] at hA hval
  obtain ⟨v0, v1, d0, d1, p0, p1, rfl, rfl, rfl, h0, h1⟩ := trodAll_two hA
  obtain ⟨rfl, rfl⟩ := trodVars_none hV
  clear hA0 hval0
  simp only [List.append_nil] at hW'
  have hlt : ∀ x ∈ p0 ++ p1, x.block < W.heap.size := fun x hx => by simpa using hW'.lt x hx
  have hlt0 : ∀ x ∈ p0, x.block < W.heap.size := fun x hx => hlt x (List.mem_append_left _ hx)
  have hlt1 : ∀ x ∈ p1, x.block < W.heap.size := fun x hx => hlt x (List.mem_append_right _ hx)
  obtain ⟨R0, i0, w0⟩ := open_list h0 (okWide_slice Tryz.underlying25 (hval 0 25 v0 rfl rfl)) hlt0
  obtain ⟨R1, i1, w1⟩ := open_list h1 (okWide_slice Tryz.underlying25 (hval 1 25 v1 rfl rfl)) hlt1
  have hargs : ∀ (W' : World) v d q, Below W.heap.size W W' → (∀ x ∈ q, x.block < W.heap.size) → DataW.Trod enc Tryz.prog W 0 (fun _ => true) true 25 v d q → DataW.Trod enc Tryz.prog W' 0 (fun b => decide (b < W.heap.size)) true 25 v d q :=
    fun W' v d q hn hl h => Below.trod told_laidOut (by kernel_rfl) (of_decide_eq_true (by kernel_rfl)) h hn hl
  refine (told5_any R0 R1 w0 w1 v0 v1 W i0 i1).mono fun e W' ⟨he, bel⟩ => ?_
  subst he
  refine ⟨_, rfl, _, _, _, [], p0 ++ p1, [], hW', ?_, ?_, rfl, bel.frame _, fun h => by cases h⟩
  · exact trodAll_mk1 (shut_bool Tryz.underlying4 _)
  · exact trodAll_mk2 (hargs W' v0 d0 p0 bel hlt0 h0) (hargs W' v1 d1 p1 bel hlt1 h1)

end Go.Proofs.YtgdfipmdmgkidaaGreatDoor
