/- Both returns true at every three scripts, and leaves them as they were: no condition but that the package-level variables which the card lists start as the program's text lays them (the tie is given). -/
import Derived.Test.YtgdfipmdmgkidaaGreatDoorRows
import Derived.LaidMore
import Derived.Stop.Joined
import Derived.Test.YtgdfipmdmgkidaaGreatDoorMbth
import Derived.WalkKit
import Derived.ProofKit
import Derived.OpenShut
import Derived.ChangeOld
import Derived.Below
import Derived.ChangeSlices
import Derived.Deep.Slices
import Derived.Carry
set_option maxRecDepth 100000
namespace Go.Proofs.YtgdfipmdmgkidaaGreatDoor
open Go.ChangeShapes Go.WideShapes Go.ChangeAt Go.RowKit Go.Deep
theorem und_own : ownKnob Tryz.prog.godebug = none := by kernel_rfl
theorem und_laidOut : laidOutB Tryz.prog = true := by kernel_rfl
theorem und_cells3 : Tryz.prog.cellsOf 3 = 1 := by kernel_rfl
theorem und_cells45 : Tryz.prog.cellsOf 45 = 4 := by kernel_rfl
theorem und_wf {x : Int} (h : (Lit.int .i64 x).wf = true) : i64R x := by
  simp [Lit.wf, IntKind.min, IntKind.max, IntKind.signed, IntKind.bits] at h
  exact ⟨by omega, by omega⟩
theorem open_ed {H : Type} {enc : TypeId × Value → H} {w : World} {base : Nat} {spare : Nat → Bool} {held : Bool} {n : Nat} {cs : List Value} {x : DataW H × List MemPlace} (h : DataW.trod enc Tryz.prog w base spare held n 45 cs = some x) :
    ∃ p : Ed, cs = [.int .i64 p.kd, .int .i64 p.a, .int .i64 p.b, .int .i64 p.c] ∧ EdOK p := by
  obtain ⟨xs, n, _, rfl, hl, hlen, hf⟩ := DataW.trod_struct Tryz.underlying45 h
  rw [und_cells45] at hl
  match cs, hl with
  | [a, b, c, d], _ =>
    match xs, hlen with
    | [y0, y1, y2, y3], _ =>
      have t0 := hf 0 _ rfl
      have t1 := hf 1 _ rfl
      have t2 := hf 2 _ rfl
      have t3 := hf 3 _ rfl
      obtain ⟨k, e0, f0, w0⟩ := DataW.trod_int Tryz.underlying3 t0
      obtain ⟨o, e1, f1, w1⟩ := DataW.trod_int Tryz.underlying3 t1
      obtain ⟨r, e2, f2, w2⟩ := DataW.trod_int Tryz.underlying3 t2
      obtain ⟨s, e3, f3, w3⟩ := DataW.trod_int Tryz.underlying3 t3
      have g0 : List.take (Tryz.prog.cellsOf 3) (List.drop 0 [a, b, c, d]) = [.int .i64 k] := e0
      have g1 : List.take (Tryz.prog.cellsOf 3) (List.drop 1 [a, b, c, d]) = [.int .i64 o] := e1
      have g2 : List.take (Tryz.prog.cellsOf 3) (List.drop 2 [a, b, c, d]) = [.int .i64 r] := e2
      have g3 : List.take (Tryz.prog.cellsOf 3) (List.drop 3 [a, b, c, d]) = [.int .i64 s] := e3
      rw [und_cells3] at g0 g1 g2 g3
      clear e0 e1 e2 e3
      simp only [List.drop, List.take, List.cons.injEq, and_true] at g0 g1 g2 g3
      obtain rfl := g0
      obtain rfl := g1
      obtain rfl := g2
      obtain rfl := g3
      exact ⟨⟨k, o, r, s⟩, rfl, und_wf w0, und_wf w1, und_wf w2, und_wf w3⟩
theorem addr_add2 (b o j k : Nat) : ((⟨b, o, none⟩ : Addr).add j).add k = ⟨b, o + j + k, none⟩ := by
  have h : ∀ o n, (⟨b, o, none⟩ : Addr).add n = ⟨b, o + n, none⟩ := by
    intro o n
    unfold Addr.add
    split
    · rename_i h; subst h; rfl
    · rfl
  rw [h, h]
theorem open_eds {H : Type} {enc : TypeId × Value → H} {W : World} {spare : Nat → Bool} {held : Bool} {a0 : Option Addr} {len cap : Nat} {d : DataW H} {ps : List MemPlace}
    (h : DataW.Trod enc Tryz.prog W 0 spare held 43 (.slice a0 len cap) d ps) (hlt : ∀ x ∈ ps, x.block < W.heap.size) :
    ∃ L : List Ed, len = L.length ∧ EdsAt W W.heap.size a0 L ∧ (∀ p ∈ L, EdOK p) ∧ L.length ≤ 9223372036854775807 := by
  obtain ⟨fuel, hf⟩ := h
  rcases open_slice Tryz.underlying43 hf with ⟨hcs, _⟩ | ⟨a, len', cap', m, n, D, Pl, hcs, _, hl, hm, hmm, hx, hel⟩
  · simp [Value.cells] at hcs
    obtain ⟨rfl, rfl, rfl⟩ := hcs
    exact ⟨[], rfl, Or.inl rfl, (fun p hp => by cases hp), by simp⟩
  · simp [Value.cells] at hcs
    obtain ⟨rfl, rfl, rfl⟩ := hcs
    simp only [Prod.mk.injEq] at hx
    obtain ⟨rfl, rfl⟩ := hx
    have hmn : len ≤ m := by rw [hmm]; split <;> omega
    rw [und_cells45] at hel
    have : Inhabited Ed := ⟨⟨0, 0, 0, 0⟩⟩
    obtain ⟨f, hfp⟩ := choose_lt (α := Ed) (n := len) (p := fun i p => W.cells? 0 (a.add (i * 4)) 4 = some [.int .i64 p.kd, .int .i64 p.a, .int .i64 p.b, .int .i64 p.c] ∧ EdOK p) (fun i hi => by
      obtain ⟨cs', h1, h2⟩ := hel i (by omega)
      obtain ⟨p, rfl, h3⟩ := open_ed h2
      exact ⟨p, h1, h3⟩)
    have hlen : len = ((List.range len).map f).length := by simp
    refine ⟨(List.range len).map f, hlen, ?_, fun p hp => ?_, ?_⟩
    · by_cases h0 : len = 0
      · left; subst h0; rfl
      right
      have hspot : ∀ {A : Addr} {v : Value}, W.cell? A = some v → A.spot = none := by
        intro A v h
        unfold World.cell? at h
        split at h
        · split at h
          · cases h
          · rename_i hs; simpa using hs
        · cases h
      obtain ⟨_, _, hc0⟩ := World.cells?_some (hfp 0 (by omega)).1
      have hc00 := hc0 0 (by omega)
      have hs0 : a.spot = none := by
        have := hspot hc00
        simpa [Addr.add] using this
      obtain ⟨bl, off, sp⟩ := a
      obtain rfl : sp = none := hs0
      have hbl := hlt (.cell bl off) (List.mem_append_left _ (MemPlace.mem_row.2 ⟨0, by rw [und_cells45]; omega, by simp⟩))
      refine ⟨bl, off, rfl, hbl, hbl, fun i p hp => ?_⟩
      have hi : i < len := by
        have := (List.getElem?_eq_some_iff.1 hp).1
        simpa using this
      have hpe : p = f i := by
        rw [List.getElem?_map, List.getElem?_range hi] at hp
        simpa using hp.symm
      subst hpe
      obtain ⟨_, _, hc⟩ := World.cells?_some (hfp i hi).1
      have hadd : ∀ k, ((⟨bl, off, none⟩ : Addr).add (i * 4)).add k = ⟨bl, off + i * 4 + k, none⟩ := fun k => addr_add2 bl off (i * 4) k
      have k0 := hc 0 (by omega)
      have k1 := hc 1 (by omega)
      have k2 := hc 2 (by omega)
      have k3 := hc 3 (by omega)
      rw [hadd] at k0 k1 k2 k3
      exact ⟨k0, k1, k2, k3⟩
    · obtain ⟨i, hi, rfl⟩ := List.mem_map.1 hp
      exact (hfp i (List.mem_range.1 hi)).2
    · rw [← hlen]
      have : maxLen = 9223372036854775807 := by unfold maxLen; omega
      omega
theorem und_met (os : Os) (args : Array Value) : laidMetH Tryz.prog Rows.bothRow.laid ((World.doorLaid Tryz.prog 400 os).forCall (fun _ _ => 0) ⟨#[], args, []⟩).memory :=
  laidMetH_of_parts3 (fuel := 8) (laidMet_of_run' 8 (by kernel_rfl) (by kernel_rfl)) (by kernel_rfl) (by kernel_rfl)
theorem both_lifted (os : Os) (started : os.Started) (H : Type) (enc : TypeId × Value → H) :
    ReturnsInHanded {} Tryz.checked os 12 .any (fun w args => (Rows.bothSpec.pre enc Tryz.prog Tryz.f12 [] false w args ∧ laidMetH Tryz.prog Rows.bothRow.laid w) ∧ sizedMet enc Tryz.prog Tryz.f12 (OpenSpec.ofChange Rows.bothSpec) false w args)
      (Rows.bothSpec.post enc Tryz.prog Tryz.f12 false true false false) := by
  refine returnsInHanded_of_change_and (C := Tryz.checked) (X := fun w _ => laidMetH Tryz.prog Rows.bothRow.laid w) (fun _ _ _ hh h => h.of_heap hh) und_own started (by kernel_rfl) Tryz.func12
    (ChangeSpec.witness_shaped (enc := enc) (C := Tryz.checked) (os := os) (X := fun w _ => laidMetH Tryz.prog Rows.bothRow.laid w) false (World.doorLaid Tryz.prog 400 os) #[.slice none 0 0, .slice none 0 0, .slice none 0 0] 12 rfl (World.shaped_of_RefB (by kernel_rfl) (by kernel_rfl)) (by kernel_rfl) (by kernel_rfl) (by kernel_rfl) (und_met os _)) ?_
  intro W base args ds gs before hval0 hW _ _ _ _
  have hval : ∀ (j : Nat) t v, Tryz.f12.params[j]? = some t → args[j]? = some v → Value.okWide Tryz.prog W .any base t v := hval0
  have hW' := hW
  obtain ⟨p, q, hA0, hV, rfl, hfz, hnd⟩ := hW
  have hA : DataW.TrodAll enc Tryz.prog W 0 (fun _ => true) true Tryz.f12.params.toList args.toList ds p := hA0
  rw [Tryz.params12] at hA hval
  obtain ⟨v0, v1, v2, d0, d1, d2, p0, p1, p2, rfl, rfl, rfl, h0, h1, h2⟩ := trodAll_three hA
  obtain ⟨rfl, rfl⟩ := trodVars_none hV
  clear hA0 hval0
  simp only [List.append_nil] at hW'
  have hlt : ∀ x ∈ p0 ++ (p1 ++ p2), x.block < W.heap.size := fun x hx => by simpa using hW'.lt x (by simpa using hx)
  have hlt0 : ∀ x ∈ p0, x.block < W.heap.size := fun x hx => hlt x (List.mem_append_left _ hx)
  have hlt1 : ∀ x ∈ p1, x.block < W.heap.size := fun x hx => hlt x (List.mem_append_right _ (List.mem_append_left _ hx))
  have hlt2 : ∀ x ∈ p2, x.block < W.heap.size := fun x hx => hlt x (List.mem_append_right _ (List.mem_append_right _ hx))
  obtain ⟨a0, len, cap, rfl⟩ := okWide_slice Tryz.underlying43 (hval 0 43 v0 rfl rfl)
  obtain ⟨L, rfl, hL, hok, hlen⟩ := open_eds h0 hlt0
  obtain ⟨a1, len1, cap1, rfl⟩ := okWide_slice Tryz.underlying43 (hval 1 43 v1 rfl rfl)
  obtain ⟨L1, rfl, hL1, hok1, hlen1⟩ := open_eds h1 hlt1
  obtain ⟨a2, len2, cap2, rfl⟩ := okWide_slice Tryz.underlying43 (hval 2 43 v2 rfl rfl)
  obtain ⟨L2, rfl, hL2, hok2, hlen2⟩ := open_eds h2 hlt2
  have hargs : ∀ (W' : World) v d q, Below W.heap.size W W' → (∀ x ∈ q, x.block < W.heap.size) → DataW.Trod enc Tryz.prog W 0 (fun _ => true) true 43 v d q → DataW.Trod enc Tryz.prog W' 0 (fun b => decide (b < W.heap.size)) true 43 v d q := fun W' v d q hn hl h =>
    Below.trod und_laidOut (by kernel_rfl) (of_decide_eq_true (by kernel_rfl)) h hn hl
  refine (both12_any W L a0 cap hL hok hlen L1 a1 cap1 hL1 hok1 hlen1 L2 a2 cap2 hL2 hok2 hlen2).mono fun ee W' ⟨he, bel⟩ => ?_
  subst he
  refine ⟨_, rfl, _, _, _, [], p0 ++ (p1 ++ p2), [], hW', ?_, ?_, rfl, bel.frame _, fun h => by cases h⟩
  · exact trodAll_mk1 (shut_bool Tryz.underlying4 _)
  · exact trodAll_mk3 (hargs W' _ d0 p0 bel hlt0 h0) (hargs W' _ d1 p1 bel hlt1 h1) (hargs W' _ d2 p2 bel hlt2 h2)
end Go.Proofs.YtgdfipmdmgkidaaGreatDoor
