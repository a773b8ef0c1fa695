/-
  Edits answers true at every script whose values and letters are together at most 1048576, and leaves the script as it was: every Lines, Words, New, Write, Erase, Files and Text of the program answers as the document does, in every order, on any number of worlds. Condition: the bulk of what comes in is at most 1048576.
-/
import Derived.Test.YtgdfipmdmgkidaaGreatDoorRows
import Derived.Test.YtgdfipmdmgkidaaGreatDoorGedits
import Derived.WalkKit
import Derived.ProofKit
import Derived.OpenShut
import Derived.JoinedCond
import Derived.Deep.DeepHandedRow
import Derived.Deep.DeepWitnessRowRef
import Derived.LaidMore
import Derived.Stop.Joined
import Derived.Deep.Slices
import Derived.Carry
namespace Go.Proofs.YtgdfipmdmgkidaaGreatDoor
open Go.ChangeShapes Go.WideShapes Go.ChangeAt Go.RowKit Go.Deep

theorem edits_own : ownKnob Tryz.prog.godebug = none := by kernel_rfl
theorem edits_laidOut : laidOutB Tryz.prog = true := by kernel_rfl
theorem edits_cells3 : Tryz.prog.cellsOf 3 = 1 := by kernel_rfl
theorem edits_cells9 : Tryz.prog.cellsOf 9 = 1 := by kernel_rfl
theorem edits_cells34 : Tryz.prog.cellsOf 76 = 5 := by kernel_rfl

/-- What one step of the script reads as. -/
def opD {H : Type} (p : Stp) : DataW H := .agg [.lit (.int .i64 p.kind), .lit (.int .i64 p.on), .lit (.int .i64 p.r), .lit (.string p.s.data.toList), .lit (.string p.u.data.toList)]

set_option maxRecDepth 100000 in
theorem open_op {H : Type} {enc : TypeId × Value → H} {w : World} {base : Nat} {spare : Nat → Bool} {held : Bool} {n : Nat} {cs : List Value} {x : DataW H × List MemPlace} (h : DataW.trod enc Tryz.prog w base spare held n 76 cs = some x) :
    ∃ p : Stp, cs = [.int .i64 p.kind, .int .i64 p.on, .int .i64 p.r, .string p.s, .string p.u] ∧ x.1 = opD p ∧ (Lit.int .i64 p.kind).wf = true ∧ (Lit.int .i64 p.on).wf = true := by
  obtain ⟨xs, n, _, rfl, hl, hlen, hf⟩ := DataW.trod_struct Tryz.underlying76 h
  rw [edits_cells34] at hl
  match cs, hl with
  | [a, b, c, d, e], _ =>
    match xs, hlen with
    | [y0, y1, y2, y3, y4], _ =>
      have t0 := hf 0 _ rfl
      have t1 := hf 1 _ rfl
      have t2 := hf 2 _ rfl
      have t3 := hf 3 _ rfl
      have t4 := hf 4 _ rfl
      obtain ⟨k, e0, f0, w0⟩ := DataW.trod_int Tryz.underlying3 t0
      obtain ⟨o, e1, f1, w1⟩ := DataW.trod_int Tryz.underlying3 t1
      obtain ⟨r, e2, f2, w2⟩ := DataW.trod_int Tryz.underlying3 t2
      obtain ⟨s, e3, f3, w3⟩ := DataW.trod_string Tryz.underlying9 t3
      obtain ⟨u, e4, f4, w4⟩ := DataW.trod_string Tryz.underlying9 t4
      have g0 : List.take (Tryz.prog.cellsOf 3) (List.drop 0 [a, b, c, d, e]) = [.int .i64 k] := e0
      have g1 : List.take (Tryz.prog.cellsOf 3) (List.drop 1 [a, b, c, d, e]) = [.int .i64 o] := e1
      have g2 : List.take (Tryz.prog.cellsOf 3) (List.drop 2 [a, b, c, d, e]) = [.int .i64 r] := e2
      have g3 : List.take (Tryz.prog.cellsOf 9) (List.drop 3 [a, b, c, d, e]) = [.string s] := e3
      have g4 : List.take (Tryz.prog.cellsOf 9) (List.drop 4 [a, b, c, d, e]) = [.string u] := e4
      rw [edits_cells3] at g0 g1 g2
      rw [edits_cells9] at g3 g4
      clear e0 e1 e2 e3 e4
      simp only [List.drop, List.take, List.cons.injEq, and_true] at g0 g1 g2 g3 g4
      obtain rfl := g0
      obtain rfl := g1
      obtain rfl := g2
      obtain rfl := g3
      obtain rfl := g4
      clear hf t0 t1 t2 t3 t4
      subst f0 f1 f2 f3 f4
      exact ⟨⟨k, o, r, s, u⟩, rfl, by simp [opD], w0, w1⟩

theorem bulk_ops {H : Type} (L : List Stp) : L.length ≤ Rows.uptoBulkAll (L.map (opD (H := H))) ∧ ∀ p ∈ L, p.s.size ≤ Rows.uptoBulkAll (L.map (opD (H := H))) := by
  induction L with
  | nil => exact ⟨Nat.le_refl _, fun p hp => by cases hp⟩
  | cons q L ih =>
    have e : q.s.data.toList.length = q.s.size := by rw [Array.length_toList]; rfl
    have e1 : Rows.uptoBulkAll ((q :: L).map (opD (H := H))) = (1 + (1 + (1 + (q.s.data.toList.length + 1 + (q.u.data.toList.length + 1)))) + 1) + Rows.uptoBulkAll (L.map (opD (H := H))) := by
      simp only [List.map_cons, opD, Rows.uptoBulkAll, Rows.uptoBulk, Nat.add_zero]
    rw [e1, e]
    refine ⟨by simp only [List.length_cons]; omega, fun p hp => ?_⟩
    rcases List.mem_cons.1 hp with rfl | hp
    · omega
    · have := ih.2 p hp
      omega

theorem wf_bounds {x : Int} (h : (Lit.int .i64 x).wf = true) : -9223372036854775808 ≤ x ∧ x ≤ 9223372036854775807 := by
  simp [Lit.wf, IntKind.min, IntKind.max, IntKind.signed, IntKind.bits] at h
  omega

theorem addr_add2 (b o j k : Nat) : ((⟨b, o, none⟩ : Addr).add j).add k = ⟨b, o + j + k, none⟩ := by
  have h : ∀ o n, (⟨b, o, none⟩ : Addr).add n = ⟨b, o + n, none⟩ := by
    intro o n
    unfold Addr.add
    split
    · rename_i h; subst h; rfl
    · rfl
  rw [h, h]

set_option maxRecDepth 100000 in
/-- The slice of steps, opened. -/
theorem open_script {H : Type} {enc : TypeId × Value → H} {W : World} {spare : Nat → Bool} {held : Bool} {a0 : Option Addr} {len cap : Nat} {d : DataW H} {ps : List MemPlace}
    (h : DataW.Trod enc Tryz.prog W 0 spare held 22 (.slice a0 len cap) d ps) (hlt : ∀ x ∈ ps, x.block < W.heap.size) (hk : Rows.uptoSmall H [d] = true) :
    ∃ L : List Stp, len = L.length ∧ L.length ≤ 1048576 ∧ Script W a0 L ∧ ∀ p ∈ L, OpOk p.kind p.on p.r p.s p.u := by
  obtain ⟨fuel, hf⟩ := h
  have hb : Rows.uptoBulkAll [d] ≤ 1048576 := of_decide_eq_true hk
  rcases open_slice Tryz.underlying22 hf with ⟨hcs, _⟩ | ⟨a, len', cap', m, n, D, Pl, hcs, _, hl, hm, hmm, hx, hel⟩
  · simp [Value.cells] at hcs
    obtain ⟨rfl, rfl, rfl⟩ := hcs
    exact ⟨[], rfl, by simp, Or.inl rfl, fun p hp => by cases hp⟩
  · simp [Value.cells] at hcs
    obtain ⟨rfl, rfl, rfl⟩ := hcs
    simp only [Prod.mk.injEq] at hx
    obtain ⟨rfl, rfl⟩ := hx
    have hmn : len ≤ m := by rw [hmm]; split <;> omega
    rw [edits_cells34] at hel
    have : Inhabited Stp := ⟨⟨0, 0, 0, .empty, .empty⟩⟩
    obtain ⟨f, hfp⟩ := choose_lt (α := Stp) (n := len) (p := fun i p => W.cells? 0 (a.add (i * 5)) 5 = some [.int .i64 p.kind, .int .i64 p.on, .int .i64 p.r, .string p.s, .string p.u] ∧ D i = opD p ∧ (Lit.int .i64 p.kind).wf = true ∧ (Lit.int .i64 p.on).wf = true) (fun i hi => by
      obtain ⟨cs', h1, h2⟩ := hel i (by omega)
      obtain ⟨p, rfl, h3, h4, h5⟩ := open_op h2
      exact ⟨p, h1, h3, h4, h5⟩)
    have hD : (List.range len).map D = ((List.range len).map f).map opD := by
      rw [List.map_map]
      refine List.map_congr_left fun i hi => ?_
      exact (hfp i (List.mem_range.1 hi)).2.1
    rw [hD] at hb
    obtain ⟨b1, b2⟩ := bulk_ops (H := H) ((List.range len).map f)
    simp only [Rows.uptoBulkAll, Rows.uptoBulk, Nat.add_zero] at hb
    have hlen : len = ((List.range len).map f).length := by simp
    refine ⟨(List.range len).map f, hlen, by omega, ?_, fun p hp => ?_⟩
    · by_cases h0 : len = 0
      · left; subst h0; rfl
      right
      have hspot : ∀ {A : Addr} {v : Value}, W.cell? A = some v → A.spot = none := by
        intro A v h
        unfold World.cell? at h
        split at h
        · split at h
          · cases h
          · rename_i hs; simpa using hs
        · cases h
      obtain ⟨_, _, hc0⟩ := World.cells?_some (hfp 0 (by omega)).1
      have hc00 := hc0 0 (by omega)
      have hs0 : a.spot = none := by
        have := hspot hc00
        simpa [Addr.add] using this
      obtain ⟨bl, off, sp⟩ := a
      obtain rfl : sp = none := hs0
      refine ⟨bl, off, rfl, hlt (.cell bl off) (List.mem_append_left _ (MemPlace.mem_row.2 ⟨0, by rw [edits_cells34]; omega, by simp⟩)), fun i p hp => ?_⟩
      have hi : i < len := by
        have := (List.getElem?_eq_some_iff.1 hp).1
        simpa using this
      have hpe : p = f i := by
        rw [List.getElem?_map, List.getElem?_range hi] at hp
        simpa using hp.symm
      subst hpe
      obtain ⟨_, _, hc⟩ := World.cells?_some (hfp i hi).1
      have hadd : ∀ k, ((⟨bl, off, none⟩ : Addr).add (i * 5)).add k = ⟨bl, off + i * 5 + k, none⟩ := fun k => addr_add2 bl off (i * 5) k
      have k0 := hc 0 (by omega)
      have k1 := hc 1 (by omega)
      have k2 := hc 2 (by omega)
      have k3 := hc 3 (by omega)
      have k4 := hc 4 (by omega)
      rw [hadd] at k0 k1 k2 k3 k4
      exact ⟨k0, k1, k2, k3, k4⟩
    · have hs := b2 p hp
      obtain ⟨i, hi, rfl⟩ := List.mem_map.1 hp
      obtain ⟨_, _, w1, w2⟩ := hfp i (List.mem_range.1 hi)
      exact ⟨(wf_bounds w2).1, (wf_bounds w2).2, by omega, (wf_bounds w1).1, (wf_bounds w1).2⟩

set_option maxRecDepth 100000 in
theorem edits_contract (H : Type) (enc : TypeId × Value → H) (W : World) (base : Nat) (args : Array Value) (ds gs : List (DataW H)) (before : List MemPlace)
    (hval : ∀ (j : Nat) t v, Tryz.f3.params[j]? = some t → args[j]? = some v → Value.okWide Tryz.prog W .any base t v)
    (hW : DataW.Whole enc Tryz.prog Tryz.f3.params.toList Rows.editsSpec.vars false W args.toList ds gs before) (hk : Rows.uptoSmall H (ds ++ gs) = true) :
    Calls Tryz.prog 3 args W fun e W' => ∃ v, e = .returned v ∧ Rows.editsSpec.post enc Tryz.prog Tryz.f3 false true false false W args v W' := by
  have hW' := hW
  obtain ⟨p, q, hA0, hV, rfl, _, _⟩ := hW
  have hA : DataW.TrodAll enc Tryz.prog W 0 (fun _ => true) true Tryz.f3.params.toList args.toList ds p := hA0
  rw [Tryz.params3] at hA hval
  obtain ⟨v0, d0, rfl, rfl, h0⟩ := trodAll_one hA
  obtain ⟨rfl, rfl⟩ := trodVars_none hV
  obtain ⟨a0, len, cap, rfl⟩ := okWide_slice Tryz.underlying22 (hval 0 22 v0 rfl rfl)
  clear hA0
  simp only [List.append_nil] at hW' hk
  have hlt : ∀ x ∈ p, x.block < W.heap.size := fun x hx => by simpa using hW'.lt x hx
  have hargs : ∀ (W' : World), Below W.heap.size W W' → DataW.Trod enc Tryz.prog W' 0 (fun b => decide (b < W.heap.size)) true 22 (.slice a0 len cap) d0 p :=
    fun W' hn => Below.trod edits_laidOut (by kernel_rfl) (of_decide_eq_true (by kernel_rfl)) h0 hn hlt
  obtain ⟨L, rfl, hL, hS, hok⟩ := open_script h0 hlt hk
  refine (edits3_any W a0 cap L hL hS hok).mono fun e W' ⟨he, hb⟩ => ?_
  subst he
  refine ⟨_, rfl, _, _, _, [], p, [], hW', ?_, ?_, rfl, hb.frame _, fun h => by cases h⟩
  · exact trodAll_mk1 (shut_bool Tryz.underlying4 _)
  · exact trodAll_mk1 (hargs _ hb)

/-- The door's own heap meets the condition. -/
theorem door_met (os : Os) (args : Array Value) : laidMetH Tryz.prog Rows.editsUptoRow.laid ((World.doorLaid Tryz.prog 400 os).forCall (fun _ _ => 0) ⟨#[], args, []⟩).memory :=
  laidMetH_of_parts3 (fuel := 8) (laidMet_of_run' 8 (by kernel_rfl) (by kernel_rfl)) (by kernel_rfl) (by kernel_rfl)
theorem door_reads (os : Os) {H : Type} (enc : TypeId × Value → H) : ∃ places, DataW.whole enc Tryz.prog ((World.doorLaid Tryz.prog 400 os).forCall (fun _ _ => 0) ⟨#[], #[.slice none 0 0], []⟩).memory Tryz.f3.params.toList Rows.editsSpec.vars false #[Value.slice none 0 0].toList 8 = some ([.nil], [], places) :=
  ⟨[], by kernel_rfl⟩

set_option maxRecDepth 100000 in
theorem edits_lifted (os : Os) (started : os.Started) (H : Type) (enc : TypeId × Value → H) (F : Stop.Interp) :
    ReturnsInHanded {} Tryz.checked os 3 .any ((Rows.OpenSpec.upto Rows.editsSpec).preRow enc Tryz.prog Tryz.f3 Rows.editsUptoRow.domain false Rows.editsUptoRow.laid) (((Rows.OpenSpec.upto Rows.editsSpec).at F).post enc Tryz.prog Tryz.f3 false true false false) := by
  obtain ⟨places, hx⟩ := door_reads os enc
  refine returnsInHanded_of_row (C := Tryz.checked) (s := Rows.OpenSpec.upto Rows.editsSpec) edits_own started (by kernel_rfl) Tryz.func3
    (witness_row_atRef (enc := enc) (C := Tryz.checked) false (World.doorLaid Tryz.prog 400 os) #[.slice none 0 0] rfl (by kernel_rfl) (by kernel_rfl) (by kernel_rfl)
      (OpenSpec.preRow_of_cond 8 hx (by kernel_rfl) (fun k hk => by cases hk; kernel_rfl) (by kernel_rfl) (door_met os _))) ?_
  intro W base args ds gs before hval hW _ hcond _ _ _ _
  exact edits_contract H enc W base args ds gs before hval hW (hcond _ rfl)
end Go.Proofs.YtgdfipmdmgkidaaGreatDoor
