/- Does a change, does a patch need another one. -/
import Derived.Test.YtgdfipmdmgkidaaGreatDoorNdel
import Derived.Laws.BytesArg
namespace Go.Proofs.YtgdfipmdmgkidaaGreatDoor
open Go.RowKit

section
variable {P : Program} {ops : Array Oper} {Q : Exit → Act → World → Prop} {md : Region.Mode} {S : World → Prop} {z : Nat}
/-- An operation that its guard leaves out. -/
theorem wpZ_skip (i : Nat) (oi : Oper) {fuel : Nat} {listed : Array Bool} {a : Act} {w : World} (hi : ops[i]? = some oi)
    (hs : Region.noSelect ops = true) (hf : Region.free md ops listed i = true) (hr : (Region.ready md ops listed).contains i = true)
    (hQ : ∀ c a w, Q (.panic c) (a.put oi.dst undef) w → Q (.panic c) a w) (hl : lastOp md ops z i = true) (hiz : i ≠ z) (hS : S w) (hw : Region.wanted oi (yielded ops a.tmps) = false)
    (h : wpZ P md ops Q S z fuel (listed.setIfInBounds i true) (a.put oi.dst undef) w) : wpZ P md ops Q S z (fuel + 1) listed a w :=
  wpZ_first hi (Region.noSelect_spec hs) hQ hl hiz fuel listed a w (Region.free_spec hi hf) (by simpa using hr) (.inr ⟨hw, rfl⟩) hS h
end

theorem meth_names (c : ChM) (w : World) : (method 512 (chT c) (chIn c) "stitch/patch.names").run Tryz.prog w = .ok (chNames c, chIn c) w := by
  cases c <;> kernel_rfl
theorem meth_kills (c : ChM) (w : World) : (method 512 (chT c) (chIn c) "stitch/patch.kills").run Tryz.prog w = .ok (chKills c, chIn c) w := by
  cases c <;> kernel_rfl
theorem enter_names (c : ChM) (args : Array Value) (w : World) : (callFunc (chNames c) args).run Tryz.prog w = .ok (.enter (chNames c) args) w := by
  cases c <;> kernel_rfl
theorem enter_kills (c : ChM) (args : Array Value) (w : World) : (callFunc (chKills c) args).run Tryz.prog w = .ok (.enter (chKills c) args) w := by
  cases c <;> kernel_rfl
/-- What is read as two changes are held against each other. -/
structure NeedS (A D : Nat) (nm dn : ByteArray) (ch dc : ChM) (i : Pid) (w : World) : Prop where
  a0 : w.cell? ⟨A, 0, none⟩ = some (.string nm)
  a1 : w.cell? ⟨A, 1, none⟩ = some (.iface (chT ch) (chIn ch))
  d0 : w.cell? ⟨D, 0, none⟩ = some (.string dn)
  d1 : w.cell? ⟨D, 1, none⟩ = some (.iface (chT dc) (chIn dc))
  r0 : w.cell? ⟨A + 1, 0, none⟩ = some (.int .u8 i.a)
  r1 : w.cell? ⟨A + 1, 1, none⟩ = some (.int .u8 i.b)
  r2 : w.cell? ⟨A + 1, 2, none⟩ = some (.int .u8 i.c)
  r3 : w.cell? ⟨A + 1, 3, none⟩ = some (.int .u8 i.d)
theorem NeedS.of {A D : Nat} {nm dn : ByteArray} {ch dc : ChM} {i : Pid} {cv : Value} {w : World} (h1 : w.heap[A]? = some (.cells #[.string nm, .iface (chT ch) (chIn ch)] 226 (0, 0))) (h2 : w.heap[A + 1]? = some (.cells #[.int .u8 i.a, .int .u8 i.b, .int .u8 i.c, .int .u8 i.d, cv] 149 (0, 0))) (h3 : w.heap[D]? = some (.cells #[.string dn, .iface (chT dc) (chIn dc)] 226 (0, 0))) : NeedS A D nm dn ch dc i w := by
  obtain ⟨a0, a1⟩ := cells2_of h1
  obtain ⟨r0, r1, r2, r3, _⟩ := cells5_of h2
  obtain ⟨d0, d1⟩ := cells2_of h3
  exact ⟨a0, a1, d0, d1, r0, r1, r2, r3⟩

/-- A change needs a patch. -/
def needB (c : ByteArray × ChM) (i : Pid) (d : ByteArray × ChM) : Bool := decide (c.1 = d.1) && (namesOf c.2).any (leansB i (killsOf d.2))

set_option maxRecDepth 100000 in
set_option maxHeartbeats 6400000 in
theorem needs186_any (c : ByteArray × ChM) (Q : PM) (w : World) (hc : ChOK w c.2) (hcs : ChSmall c.2) (hQ : CV w Q.cv Q.Cs) (hQs : ∀ d ∈ Q.Cs, ChSmall d.2) (hl : Q.Cs.length ≤ 1000) :
    Calls Tryz.prog 186 #[ncV c, pmV Q] w fun e w' => e = .returned (.bool (Q.Cs.any (needB c Q.id))) ∧ Below w.heap.size w w' := by
  have HC := hid hc
  have HCS := hid hcs
  have HQ := hid hQ
  have HQS := hid hQs
  obtain ⟨nm, ch⟩ := c
  obtain ⟨⟨ia, ib, ic, id⟩, cv, Cs⟩ := Q
  simp only at hQ hl HC HCS HQ HQS
  obtain ⟨ca, cc, rfl, _⟩ := hQ
  unfold ncV pmV
  simp only [chV]
  obtain ⟨w2, hw2⟩ : ∃ w2, w2 = (w.alloc (.cells #[.string nm, .iface (chT ch) (chIn ch)] 226)).alloc (.cells #[.int .u8 ia, .int .u8 ib, .int .u8 ic, .int .u8 id, .slice ca Cs.length cc] 149) := ⟨_, rfl⟩
  obtain ⟨hb2, hs2, hA, hR⟩ := two_blocks' w _ _ hw2
  have c4 : w2.cell? ⟨w.heap.size + 1, 4, none⟩ = some (.slice ca Cs.length cc) := (cells5_of hR).2.2.2.2
  have HA := hid hA
  have HR := hid hR
  clear hA hR hc hcs hQs
  go_enter Tryz.func186, Tryz.ntmps186
  go_wp2_with fail
  rw [← hw2]
  clear hw2
  go_wp2
  clear c4
  go_loopw [10] (fun x wr => ∃ k : Nat, k ≤ Cs.length ∧ x = .int .i64 k ∧ Hid (∀ i (hi : i < Cs.length), i < k → needB (nm, ch) ⟨ia, ib, ic, id⟩ Cs[i] = false) ∧ Below w2.heap.size w2 wr) (fun x _ => Cs.length - (intOf x).toNat)
  case atStart => exact ⟨0, Nat.zero_le _, rfl, (fun i _ h => by omega), Below.refl _ _⟩
  case round =>
    obtain ⟨k, hk, rfl, HN, hbw⟩ := hrel
    have hsz := hbw.size
    have hbw0 : Below w.heap.size w wr := hb2.trans (hbw.mono (by omega))
    by_cases hlt : k < Cs.length
    · have hd : Cs[k]? = some Cs[k] := List.getElem?_eq_getElem hlt
      obtain ⟨_, _, e1, hcc⟩ := HQ.out.below hbw0 (Nat.le_refl _)
      cases e1
      obtain ⟨b, o, rfl, hb, d0, d1, hok⟩ := hcc k _ hd
      have hds := HQS.out _ (List.getElem_mem hlt)
      obtain ⟨⟨dn, dc⟩, hde⟩ : ∃ d, Cs[k] = d := ⟨_, rfl⟩
      rw [hde] at d0 d1 hok hds
      simp only [chV] at d0 d1 hok hds
      have HDE := hid hde
      obtain ⟨w4, hw4⟩ : ∃ w4, w4 = wr.alloc (.cells #[.string dn, .iface (chT dc) (chIn dc)] 226) := ⟨_, rfl⟩
      have hb4 : Below wr.heap.size wr w4 := by rw [hw4]; exact (Below.refl _ _).alloc (Nat.le_refl _) _
      have hk4 := (MapKept.heap_alloc wr (.cells #[.string dn, .iface (chT dc) (chIn dc)] 226)).1
      rw [← hw4] at hk4
      have hs4 : wr.heap.size < w4.heap.size := by rw [hw4]; simp
      have hok4 := hok.below hb4 (Nat.le_refl _)
      have hch4 : ChOK w4 ch := HC.out.below (hbw0.trans (hb4.mono (by omega))) (Nat.le_refl _)
      have hb24 : Below w2.heap.size w2 w4 := hbw.trans (hb4.mono hsz)
      have hA4 := (hb24.block w.heap.size (by omega)).trans HA.out
      have hR4 := (hb24.block (w.heap.size + 1) (by omega)).trans HR.out
      have HK4 := hid hk4
      clear hcc hd hde hok
      go_wp2_with fail
      rw [← hw4]
      clear hw4 d0 d1
      have hS4 : NeedS w.heap.size wr.heap.size nm dn ch dc ⟨ia, ib, ic, id⟩ w4.drew := NeedS.of hA4 hR4 HK4.out
      obtain ⟨bq, hbq⟩ : ∃ b, decide (nm = dn) = b := ⟨_, rfl⟩
      have hbe : (nm.toList == dn.toList) = bq := by rw [eq_bytes]; exact hbq
      refine wp_region_Z (NeedS w.heap.size wr.heap.size nm dn ch dc ⟨ia, ib, ic, id⟩) 99 (by kernel_rfl) ?_
      refine zt 0 (v := ?v0) hS4 (fun w0 hS0 => ?hy) ?_
      case hy => obtain ⟨a0, a1, d0, d1, r0, r1, r2, r3⟩ := hS0; go_simp; with_reducible rfl
      simp only [Act.put, List.setIfInBounds_toArray]
      refine zt 1 (v := ?v1) hS4 (fun w0 hS0 => ?hy) ?_
      case hy => obtain ⟨a0, a1, d0, d1, r0, r1, r2, r3⟩ := hS0; go_simp; with_reducible rfl
      simp only [Act.put]
      refine zt 2 (v := ?v2) hS4 (fun w0 hS0 => ?hy) ?_
      case hy => obtain ⟨a0, a1, d0, d1, r0, r1, r2, r3⟩ := hS0; go_simp; with_reducible rfl
      simp only [Act.put]
      refine zt 3 (v := ?v3) hS4 (fun w0 hS0 => ?hy) ?_
      case hy => obtain ⟨a0, a1, d0, d1, r0, r1, r2, r3⟩ := hS0; go_simp; with_reducible rfl
      simp only [Act.put]
      cases bq
      · have HE : Hid (needB (nm, ch) ⟨ia, ib, ic, id⟩ (dn, dc) = false) := by show _ = _; unfold needB; simp only; rw [hbq]; rfl
        refine wpZ_take 4 _ (v := .bool false) rfl (by kernel_rfl) (by kernel_rfl) (by kernel_rfl) (fun _ _ _ h => h) (by kernel_rfl) (by decide) hS4 rfl (fun w0 hS0 => ?hy) ?_
        case hy =>
          obtain ⟨a0, a1, d0, d1, r0, r1, r2, r3⟩ := hS0
          go_simp
        simp only [Act.put]
        refine zt 5 (v := ?v5) hS4 (fun w0 hS0 => ?hy) ?_
        case hy => obtain ⟨a0, a1, d0, d1, r0, r1, r2, r3⟩ := hS0; go_simp; with_reducible rfl
        simp only [Act.put]
        refine wpZ_skip 6 _ rfl (by kernel_rfl) (by kernel_rfl) (by kernel_rfl) (fun _ _ _ h => h) (by kernel_rfl) (by decide) hS4 (by kernel_rfl) ?_
        simp only [Act.put]
        refine wpZ_skip 7 _ rfl (by kernel_rfl) (by kernel_rfl) (by kernel_rfl) (fun _ _ _ h => h) (by kernel_rfl) (by decide) hS4 (by kernel_rfl) ?_
        simp only [Act.put]
        refine wpZ_skip 9 _ rfl (by kernel_rfl) (by kernel_rfl) (by kernel_rfl) (fun _ _ _ h => h) (by kernel_rfl) (by decide) hS4 (by kernel_rfl) ?_
        simp only [Act.put]
        refine wpZ_skip 10 _ rfl (by kernel_rfl) (by kernel_rfl) (by kernel_rfl) (fun _ _ _ h => h) (by kernel_rfl) (by decide) hS4 (by kernel_rfl) ?_
        simp only [Act.put]
        refine wpZ_skip 11 _ rfl (by kernel_rfl) (by kernel_rfl) (by kernel_rfl) (fun _ _ _ h => h) (by kernel_rfl) (by decide) hS4 (by kernel_rfl) ?_
        simp only [Act.put]
        refine wpZ_skip 12 _ rfl (by kernel_rfl) (by kernel_rfl) (by kernel_rfl) (fun _ _ _ h => h) (by kernel_rfl) (by decide) hS4 (by kernel_rfl) ?_
        simp only [Act.put]
        refine wpZ_one 8 _ rfl (by kernel_rfl) (fun KK hK => ?_)
        go_simp
        refine hK.out _ _ (fun _ => hS4) ?_
        clear hK
        refine wpZ_one 13 _ rfl (by kernel_rfl) (fun KK hK => ?_)
        go_simp
        refine hK.out _ _ (fun _ => hS4) ?_
        clear hK
        refine wpZ_one 14 _ rfl (by kernel_rfl) (fun KK hK => ?_)
        go_simp
        refine hK.out _ _ (fun _ => hS4) ?_
        clear hK
        refine wpZ_one 15 _ rfl (by kernel_rfl) (fun KK hK => ?_)
        go_simp
        refine hK.out _ _ (fun _ => hS4) ?_
        clear hK
        refine wpZ_done (by kernel_rfl) ?_ _
        clear hS4 hA4 hR4
        go_wp2
        go_roundw
        case rel =>
          refine ⟨k + 1, by omega, by go_num, fun i hi h => ?_, (hb24.drew)⟩
          by_cases e : i = k
          · subst e; rw [HDE.out]; exact HE.out
          · exact HN.out i hi (by omega)
        case measure => simp [intOf]; omega
      · have HNC : Hid (Calls Tryz.prog (chNames ch) #[chIn ch] w4.drew fun e w' => ∃ v, e = .returned v ∧ SV w' v (namesOf ch) ∧ Below w4.heap.size w4 w') := (names_any ch w4.drew (hch4.below ((Below.refl _ w4).drew) (Nat.le_refl _)) HCS.out).mono fun e w' ⟨v, h1, h2, h3⟩ => ⟨v, h1, h2, (Below.refl _ w4).drew.trans h3⟩
        have HE : Hid (needB (nm, ch) ⟨ia, ib, ic, id⟩ (dn, dc) = (namesOf ch).any (leansB ⟨ia, ib, ic, id⟩ (killsOf dc))) := by show _ = _; unfold needB; simp only; rw [hbq]; rfl
        have me1 := meth_names ch
        have me2 := meth_kills dc
        have en1 := enter_names ch
        have en2 := enter_kills dc
        refine wpZ_take 4 _ (v := .bool true) rfl (by kernel_rfl) (by kernel_rfl) (by kernel_rfl) (fun _ _ _ h => h) (by kernel_rfl) (by decide) hS4 rfl (fun w0 hS0 => ?hy) ?_
        case hy =>
          obtain ⟨a0, a1, d0, d1, r0, r1, r2, r3⟩ := hS0
          go_simp
        simp only [Act.put]
        refine wpZ_take 5 _ (v := .bool true) rfl (by kernel_rfl) (by kernel_rfl) (by kernel_rfl) (fun _ _ _ h => h) (by kernel_rfl) (by decide) hS4 rfl (fun w0 hS0 => ?hy) ?_
        case hy =>
          obtain ⟨a0, a1, d0, d1, r0, r1, r2, r3⟩ := hS0
          go_simp
        simp only [Act.put]
        refine wpZ_take 6 _ (v := ?v6) rfl (by kernel_rfl) (by kernel_rfl) (by kernel_rfl) (fun _ _ _ h => h) (by kernel_rfl) (by decide) hS4 (by kernel_rfl) (fun w0 hS0 => ?hy) ?_
        case hy =>
          obtain ⟨a0, a1, d0, d1, r0, r1, r2, r3⟩ := hS0
          go_simp
          with_reducible rfl
        simp only [Act.put]
        refine wpZ_take 7 _ (v := ?v7) rfl (by kernel_rfl) (by kernel_rfl) (by kernel_rfl) (fun _ _ _ h => h) (by kernel_rfl) (by decide) hS4 (by kernel_rfl) (fun w0 hS0 => ?hy) ?_
        case hy =>
          obtain ⟨a0, a1, d0, d1, r0, r1, r2, r3⟩ := hS0
          go_simp
          with_reducible rfl
        simp only [Act.put]
        refine wpZ_take 9 _ (v := ?v9) rfl (by kernel_rfl) (by kernel_rfl) (by kernel_rfl) (fun _ _ _ h => h) (by kernel_rfl) (by decide) hS4 (by kernel_rfl) (fun w0 hS0 => ?hy) ?_
        case hy =>
          obtain ⟨a0, a1, d0, d1, r0, r1, r2, r3⟩ := hS0
          go_simp
          with_reducible rfl
        simp only [Act.put]
        refine wpZ_take 10 _ (v := ?v10) rfl (by kernel_rfl) (by kernel_rfl) (by kernel_rfl) (fun _ _ _ h => h) (by kernel_rfl) (by decide) hS4 (by kernel_rfl) (fun w0 hS0 => ?hy) ?_
        case hy =>
          obtain ⟨a0, a1, d0, d1, r0, r1, r2, r3⟩ := hS0
          go_simp
          with_reducible rfl
        simp only [Act.put]
        refine wpZ_take 11 _ (v := ?v11) rfl (by kernel_rfl) (by kernel_rfl) (by kernel_rfl) (fun _ _ _ h => h) (by kernel_rfl) (by decide) hS4 (by kernel_rfl) (fun w0 hS0 => ?hy) ?_
        case hy =>
          obtain ⟨a0, a1, d0, d1, r0, r1, r2, r3⟩ := hS0
          go_simp
          with_reducible rfl
        simp only [Act.put]
        refine wpZ_take 12 _ (v := ?v12) rfl (by kernel_rfl) (by kernel_rfl) (by kernel_rfl) (fun _ _ _ h => h) (by kernel_rfl) (by decide) hS4 (by kernel_rfl) (fun w0 hS0 => ?hy) ?_
        case hy =>
          obtain ⟨a0, a1, d0, d1, r0, r1, r2, r3⟩ := hS0
          go_simp
          with_reducible rfl
        simp only [Act.put]
        refine wpZ_one 8 _ rfl (by kernel_rfl) (fun KK hK => ?_)
        go_simp
        refine HNC.out.mono ?_
        rintro e w5 ⟨v5, rfl, hv5, hb5⟩
        clear HNC
        dsimp only
        have hS5 : NeedS w.heap.size wr.heap.size nm dn ch dc ⟨ia, ib, ic, id⟩ w5 := NeedS.of ((hb5.block _ (by omega)).trans hA4) ((hb5.block _ (by omega)).trans hR4) ((hb5.block _ hs4).trans HK4.out)
        refine hK.out _ _ (fun _ => hS5) ?_
        clear hK
        have HKC : Hid (Calls Tryz.prog (chKills dc) #[chIn dc] w5 fun e w' => ∃ v, e = .returned v ∧ SV w' v (killsOf dc) ∧ Below w5.heap.size w5 w') := kills_any dc w5 (hok4.below hb5 (Nat.le_refl _)) hds
        refine wpZ_one 13 _ rfl (by kernel_rfl) (fun KK hK => ?_)
        go_simp
        refine HKC.out.mono ?_
        rintro e w6 ⟨v6, rfl, hv6, hb6⟩
        clear HKC
        dsimp only
        have hb46 : Below w4.heap.size w4 w6 := hb5.trans (hb6.mono hb5.size)
        have hS6 : NeedS w.heap.size wr.heap.size nm dn ch dc ⟨ia, ib, ic, id⟩ w6 := NeedS.of ((hb46.block _ (by omega)).trans hA4) ((hb46.block _ (by omega)).trans hR4) ((hb46.block _ hs4).trans HK4.out)
        refine hK.out _ _ (fun _ => hS6) ?_
        clear hK
        have HLC : Hid (Calls Tryz.prog 226 #[v5, .agg #[.int .u8 ia, .int .u8 ib, .int .u8 ic, .int .u8 id], v6] w6 fun e w' => e = .returned (.bool ((namesOf ch).any (leansB ⟨ia, ib, ic, id⟩ (killsOf dc)))) ∧ Below w6.heap.size w6 w') := leans226_any (namesOf ch) ⟨ia, ib, ic, id⟩ (killsOf dc) v5 v6 w6 (hv5.below hb6 (Nat.le_refl _)) hv6 (names_len HCS.out) (kills_len hds)
        obtain ⟨bn, hbn⟩ : ∃ b, (namesOf ch).any (leansB ⟨ia, ib, ic, id⟩ (killsOf dc)) = b := ⟨_, rfl⟩
        rw [hbn] at HLC HE
        refine wpZ_one 14 _ rfl (by kernel_rfl) (fun KK hK => ?_)
        go_simp
        refine HLC.out.mono ?_
        rintro e w7 ⟨rfl, hb7⟩
        clear HLC
        dsimp only
        have hb47 : Below w4.heap.size w4 w7 := hb46.trans (hb7.mono hb46.size)
        have hS7 : NeedS w.heap.size wr.heap.size nm dn ch dc ⟨ia, ib, ic, id⟩ w7 := NeedS.of ((hb47.block _ (by omega)).trans hA4) ((hb47.block _ (by omega)).trans hR4) ((hb47.block _ hs4).trans HK4.out)
        refine hK.out _ _ (fun _ => hS7) ?_
        clear hK
        refine wpZ_one 15 _ rfl (by kernel_rfl) (fun KK hK => ?_)
        go_simp
        refine hK.out _ _ (fun _ => hS7) ?_
        clear hK
        refine wpZ_done (by kernel_rfl) ?_ _
        have hb27 : Below w2.heap.size w2 w7 := hb24.trans (hb47.mono hb24.size)
        clear hS4 hS5 hS6 hS7 hA4 hR4 hv5 hv6 hbn me1 me2 en1 en2
        cases bn
        · go_wp2
          go_roundw
          case rel =>
            refine ⟨k + 1, by omega, by go_num, fun i hi h => ?_, hb27⟩
            by_cases e : i = k
            · subst e; rw [HDE.out]; exact HE.out
            · exact HN.out i hi (by omega)
          case measure => simp [intOf]; omega
        · go_wp2
          go_ret
          refine ⟨?_, hb2.trans (hb27.mono hb2.size)⟩
          have : (Cs.any (needB (nm, ch) ⟨ia, ib, ic, id⟩)) = true := List.any_eq_true.2 ⟨_, List.getElem_mem hlt, by rw [HDE.out]; exact HE.out⟩
          rw [this]
          rfl
    · obtain rfl : k = Cs.length := by omega
      go_wp2
      go_ret
      refine ⟨?_, hbw0⟩
      have : (Cs.any (needB (nm, ch) ⟨ia, ib, ic, id⟩)) = false := by
        rw [List.any_eq_false]
        intro x hx
        obtain ⟨j, hj, rfl⟩ := List.getElem_of_mem hx
        rw [HN.out j hj hj]
        simp
      rw [this]
      rfl

/-- A patch needs another one. -/
def needsP (P Q : PM) : Bool := P.Cs.any fun c => Q.Cs.any (needB c Q.id)
theorem needs_iff (P Q : PM) : needsP P Q = true ↔ NeedsP P Q := by
  unfold needsP NeedsP leansOn needB leansB
  simp only [List.any_eq_true, Bool.and_eq_true, decide_eq_true_eq, Bool.or_eq_true]

set_option maxRecDepth 100000 in
theorem needs185_any (c : ByteArray × ChM) (Q : PM) (qb : Nat) (w : World) (hq : w.heap[qb]? = some (.cells #[.int .u8 Q.id.a, .int .u8 Q.id.b, .int .u8 Q.id.c, .int .u8 Q.id.d, Q.cv] 149 (0, 0))) (hc : ChOK w c.2) (hcs : ChSmall c.2) (hQ : CV w Q.cv Q.Cs) (hQs : ∀ d ∈ Q.Cs, ChSmall d.2) (hl : Q.Cs.length ≤ 1000) :
    Calls Tryz.prog 185 #[ncV c, .pointer (some ⟨qb, 0, none⟩)] w fun e w' => e = .returned (.bool (Q.Cs.any (needB c Q.id))) ∧ Below w.heap.size w w' := by
  have hqb := (Array.getElem?_eq_some_iff.1 hq).1
  obtain ⟨w1, hw1⟩ : ∃ w1, w1 = w.alloc (.cells #[.string c.1, .iface (chT c.2) (chIn c.2)] 226) := ⟨_, rfl⟩
  have hb1 : Below w.heap.size w w1 := by rw [hw1]; exact (Below.refl _ _).alloc (Nat.le_refl _) _
  have hk1 := (MapKept.heap_alloc w (.cells #[.string c.1, .iface (chT c.2) (chIn c.2)] 226)).1
  rw [← hw1] at hk1
  obtain ⟨d0, d1⟩ := cells2_of hk1
  obtain ⟨q0, q1, q2, q3, q4⟩ := cells5_of ((hb1.block qb hqb).trans hq)
  have HC : Hid (Calls Tryz.prog 186 #[.agg #[.string c.1, .iface (chT c.2) (chIn c.2)], .agg #[.int .u8 Q.id.a, .int .u8 Q.id.b, .int .u8 Q.id.c, .int .u8 Q.id.d, Q.cv]] w1 fun e w' => e = .returned (.bool (Q.Cs.any (needB c Q.id))) ∧ Below w1.heap.size w1 w') := needs186_any c Q w1 (hc.below hb1 (Nat.le_refl _)) hcs (hQ.below hb1 (Nat.le_refl _)) hQs hl
  obtain ⟨ca, cc, hcv, _⟩ := hQ
  rw [hcv] at q4 HC
  clear hk1 hq hc
  unfold ncV chV
  subst hw1
  go_enter Tryz.func185, Tryz.ntmps185
  go_wp2_with fail
  refine HC.out.mono ?_
  rintro e w' ⟨rfl, hb⟩
  clear HC d0 d1 q0 q1 q2 q3 q4
  go_wp2
  go_ret
  exact ⟨rfl, hb1.trans (hb.mono hb1.size)⟩

set_option maxRecDepth 100000 in
theorem needs121_any (P Q : PM) (w : World) (hP : CV w P.cv P.Cs) (hPs : ∀ d ∈ P.Cs, ChSmall d.2) (hQ : CV w Q.cv Q.Cs) (hQs : ∀ d ∈ Q.Cs, ChSmall d.2) (hlP : P.Cs.length ≤ 1000) (hl : Q.Cs.length ≤ 1000) :
    Calls Tryz.prog 121 #[pmV P, pmV Q] w fun e w' => e = .returned (.bool (needsP P Q)) ∧ Below w.heap.size w w' := by
  have hP0 := hP
  have hQ0 := hQ
  obtain ⟨pa, pc, hpv, hpp⟩ := hP
  obtain ⟨qa, qc, hqv, _⟩ := hQ
  unfold pmV
  obtain ⟨w2, hw2⟩ : ∃ w2, w2 = (w.alloc (.cells #[.int .u8 P.id.a, .int .u8 P.id.b, .int .u8 P.id.c, .int .u8 P.id.d, .slice pa P.Cs.length pc] 149)).alloc (.cells #[.int .u8 Q.id.a, .int .u8 Q.id.b, .int .u8 Q.id.c, .int .u8 Q.id.d, .slice qa Q.Cs.length qc] 149) := ⟨_, rfl⟩
  obtain ⟨hb2, hs2, hA, hR⟩ := two_blocks' w _ _ hw2
  have c4 : w2.cell? ⟨w.heap.size, 4, none⟩ = some (.slice pa P.Cs.length pc) := (cells5_of hA).2.2.2.2
  have HC : Hid (Calls Tryz.prog 184 #[.slice pa P.Cs.length pc, .func (.func 185) #[] #[.pointer (some ⟨w.heap.size + 1, 0, none⟩)]] w2 fun e w' => e = .returned (.bool (needsP P Q)) ∧ Below w2.heap.size w2 w') := by
    rw [← hpv]
    refine anyf184_any P.Cs (fun c => Q.Cs.any (needB c Q.id)) 185 _ (fun _ _ => by kernel_rfl) P.cv w2 (hP0.below hb2 (Nat.le_refl _)) (by omega) (fun c hc u hu => ?_)
    have hbu : Below w.heap.size w u := hb2.trans (hu.mono hb2.size)
    refine needs185_any c Q (w.heap.size + 1) u ?_ ?_ (hPs c hc) (hQ0.below hbu (Nat.le_refl _)) hQs hl
    · rw [hqv]
      exact (hu.block _ (by omega)).trans hR
    · obtain ⟨k, hk⟩ := List.mem_iff_getElem?.1 hc
      obtain ⟨_, _, _, _, _, _, hok⟩ := hpp k c hk
      exact hok.below hbu (Nat.le_refl _)
  rw [hpv, hqv]
  clear hP0 hQ0 hpp hA hR
  go_enter Tryz.func121, Tryz.ntmps121
  go_wp2_with fail
  rw [← hw2]
  clear hw2
  go_wp2_with fail
  refine HC.out.mono ?_
  rintro e w' ⟨rfl, hb⟩
  clear HC c4
  go_wp2
  go_ret
  exact ⟨rfl, hb2.trans (hb.mono hb2.size)⟩
end Go.Proofs.YtgdfipmdmgkidaaGreatDoor

/- Where a patch stands; may it leave. -/
namespace Go.Proofs.YtgdfipmdmgkidaaGreatDoor
open Go.RowKit

set_option maxRecDepth 100000 in
theorem place188_any (P : PM) (i : Pid) (ib : Nat) (w : World) (hcv : ∃ a n c, P.cv = .slice a n c) (hi : w.heap[ib]? = some (.cells #[.int .u8 i.a, .int .u8 i.b, .int .u8 i.c, .int .u8 i.d] 113 (0, 0))) :
    Calls Tryz.prog 188 #[pmV P, .pointer (some ⟨ib, 0, none⟩)] w fun e w' => e = .returned (.bool (decide (P.id = i))) ∧ Below w.heap.size w w' := by
  obtain ⟨ca, cn, cc, hcv⟩ := hcv
  have hib := (Array.getElem?_eq_some_iff.1 hi).1
  obtain ⟨w1, hw1⟩ : ∃ w1, w1 = w.alloc (.cells #[.int .u8 P.id.a, .int .u8 P.id.b, .int .u8 P.id.c, .int .u8 P.id.d, .slice ca cn cc] 149) := ⟨_, rfl⟩
  have hb1 : Below w.heap.size w w1 := by rw [hw1]; exact (Below.refl _ _).alloc (Nat.le_refl _) _
  have hk1 := (MapKept.heap_alloc w (.cells #[.int .u8 P.id.a, .int .u8 P.id.b, .int .u8 P.id.c, .int .u8 P.id.d, .slice ca cn cc] 149)).1
  rw [← hw1] at hk1
  obtain ⟨p0, p1, p2, p3, _⟩ := cells5_of hk1
  obtain ⟨i0, i1, i2, i3⟩ := cells4_at ((hb1.block ib hib).trans hi)
  have hq := run_eql_id P.id i
  clear hk1 hi
  unfold pmV
  rw [hcv]
  subst hw1
  go_enter Tryz.func188, Tryz.ntmps188
  go_wp2
  go_ret
  exact ⟨rfl, hb1⟩
set_option maxRecDepth 100000 in
theorem drop192_any (P : PM) (i : Pid) (ib : Nat) (w : World) (hcv : ∃ a n c, P.cv = .slice a n c) (hi : w.heap[ib]? = some (.cells #[.int .u8 i.a, .int .u8 i.b, .int .u8 i.c, .int .u8 i.d] 113 (0, 0))) :
    Calls Tryz.prog 192 #[pmV P, .pointer (some ⟨ib, 0, none⟩)] w fun e w' => e = .returned (.bool (decide (P.id = i))) ∧ Below w.heap.size w w' := by
  obtain ⟨ca, cn, cc, hcv⟩ := hcv
  have hib := (Array.getElem?_eq_some_iff.1 hi).1
  obtain ⟨w1, hw1⟩ : ∃ w1, w1 = w.alloc (.cells #[.int .u8 P.id.a, .int .u8 P.id.b, .int .u8 P.id.c, .int .u8 P.id.d, .slice ca cn cc] 149) := ⟨_, rfl⟩
  have hb1 : Below w.heap.size w w1 := by rw [hw1]; exact (Below.refl _ _).alloc (Nat.le_refl _) _
  have hk1 := (MapKept.heap_alloc w (.cells #[.int .u8 P.id.a, .int .u8 P.id.b, .int .u8 P.id.c, .int .u8 P.id.d, .slice ca cn cc] 149)).1
  rw [← hw1] at hk1
  obtain ⟨p0, p1, p2, p3, _⟩ := cells5_of hk1
  obtain ⟨i0, i1, i2, i3⟩ := cells4_at ((hb1.block ib hib).trans hi)
  have hq := run_eql_id P.id i
  clear hk1 hi
  unfold pmV
  rw [hcv]
  subst hw1
  go_enter Tryz.func192, Tryz.ntmps192
  go_wp2
  go_ret
  exact ⟨rfl, hb1⟩

theorem PV.cv {w : World} {pv : Value} {Ps : List PM} (h : PV w pv Ps) {P : PM} (hP : P ∈ Ps) : CV w P.cv P.Cs := by
  obtain ⟨_, _, _, hc⟩ := h
  obtain ⟨k, hk⟩ := List.mem_iff_getElem?.1 hP
  obtain ⟨_, _, _, _, _, _, _, _, _, h⟩ := hc k P hk
  exact h
theorem CV.cvS {w : World} {v : Value} {Cs : List (ByteArray × ChM)} (h : CV w v Cs) : ∃ a n c, v = .slice a n c := by
  obtain ⟨a, c, rfl, _⟩ := h
  exact ⟨a, _, c, rfl⟩

set_option maxRecDepth 100000 in
theorem place122_any (Ps : List PM) (pv : Value) (i : Pid) (rg ro : Nat) (w : World) (hp : PV w pv Ps) (hl : Ps.length ≤ 10000) (hr : w.cell? ⟨rg, ro, none⟩ = some pv) (hrg : rg < w.heap.size) :
    Calls Tryz.prog 122 #[.pointer (some ⟨rg, ro, none⟩), .agg #[.int .u8 i.a, .int .u8 i.b, .int .u8 i.c, .int .u8 i.d]] w fun e w' => e = .returned (.int .i64 (idxInt (Ps.findIdx? fun P => decide (P.id = i)))) ∧ Below w.heap.size w w' := by
  obtain ⟨w1, hw1⟩ : ∃ w1, w1 = w.alloc (.cells #[.int .u8 i.a, .int .u8 i.b, .int .u8 i.c, .int .u8 i.d] 113) := ⟨_, rfl⟩
  have hb1 : Below w.heap.size w w1 := by rw [hw1]; exact (Below.refl _ _).alloc (Nat.le_refl _) _
  have hk1 := (MapKept.heap_alloc w (.cells #[.int .u8 i.a, .int .u8 i.b, .int .u8 i.c, .int .u8 i.d] 113)).1
  rw [← hw1] at hk1
  have hs1 : w.heap.size < w1.heap.size := by rw [hw1]; simp
  have r1 : w1.cell? ⟨rg, ro, none⟩ = some pv := (hb1.cell (p := ⟨rg, ro, none⟩) hrg).trans hr
  have HC : Hid (Calls Tryz.prog 187 #[pv, .func (.func 188) #[] #[.pointer (some ⟨w.heap.size, 0, none⟩)]] w1 fun e w' => e = .returned (.int .i64 (idxInt (Ps.findIdx? fun P => decide (P.id = i)))) ∧ Below w1.heap.size w1 w') := by
    refine idxf187_any Ps (fun P => decide (P.id = i)) 188 _ (fun _ _ => by kernel_rfl) pv w1 (hp.below hb1 (Nat.le_refl _)) (by omega) (fun P hP u hu => ?_)
    exact place188_any P i w.heap.size u (hp.cv hP).cvS ((hu.block _ hs1).trans hk1)
  obtain ⟨pa, pc, rfl, _⟩ := hp
  clear hk1 hr
  subst hw1
  go_enter Tryz.func122, Tryz.ntmps122
  go_wp2_with fail
  refine HC.out.mono ?_
  rintro e w' ⟨rfl, hb⟩
  clear HC r1
  go_wp2
  go_ret
  exact ⟨rfl, hb1.trans (hb.mono hb1.size)⟩

/-- An id, as a text. -/
def idText (i : Pid) : ByteArray := strOfNums [i.a, i.b, i.c, i.d]
set_option maxRecDepth 100000 in
theorem string115_any (i : Pid) (w : World) :
    Calls Tryz.prog 115 #[.agg #[.int .u8 i.a, .int .u8 i.b, .int .u8 i.c, .int .u8 i.d]] w fun e w' => e = .returned (.string (idText i)) ∧ Below w.heap.size w w' := by
  obtain ⟨w1, hw1⟩ : ∃ w1, w1 = w.alloc (.cells #[.int .u8 i.a, .int .u8 i.b, .int .u8 i.c, .int .u8 i.d] 113) := ⟨_, rfl⟩
  have hb1 : Below w.heap.size w w1 := by rw [hw1]; exact (Below.refl _ _).alloc (Nat.le_refl _) _
  have hk1 := (MapKept.heap_alloc w (.cells #[.int .u8 i.a, .int .u8 i.b, .int .u8 i.c, .int .u8 i.d] 113)).1
  rw [← hw1] at hk1
  obtain ⟨i0, i1, i2, i3⟩ := cells4_at hk1
  have hcv : (convert 156 9 (.slice (some ⟨w.heap.size, 0, none⟩) 4 4)).run Tryz.prog w1 = .ok (.string (idText i)) w1 := run_convert_bytes_arg w1 156 5 Tryz.underlying156 Tryz.underlying5 w.heap.size 0 4 4 [i.a, i.b, i.c, i.d] rfl (fun j hj => by
    match j, hj with
    | 0, _ => exact i0
    | 1, _ => exact i1
    | 2, _ => exact i2
    | 3, _ => exact i3) 9 Tryz.underlying9
  clear hk1
  subst hw1
  go_enter Tryz.func115, Tryz.ntmps115
  go_wp2
  go_ret
  exact ⟨rfl, hb1⟩

/-- What mayLeave answers. -/
def leaveR (Ps : List PM) (i : Pid) : ByteArray × Int := match Ps.find? fun P => decide (P.id = i) with
  | none => (⟨#[]⟩, 7)
  | some P => match Ps.find? fun Q => needsP Q P with
    | none => (⟨#[]⟩, 0)
    | some Q => (idText Q.id, 11)

end Go.Proofs.YtgdfipmdmgkidaaGreatDoor

/- A patch leaves: slices.DeleteFunc on the list of patches, drop, unrecord. -/
namespace Go.Proofs.YtgdfipmdmgkidaaGreatDoor
open Go.RowKit

theorem pm_len (S : List PM) : (pmCells S).length = S.length * 5 := by
  induction S with
  | nil => rfl
  | cons x S ih => simp only [pmCells, List.flatMap_cons, List.length_append, List.length_cons, List.length_nil] at *; rw [ih]; omega
theorem pm_app (S T : List PM) : pmCells (S ++ T) = pmCells S ++ pmCells T := List.flatMap_append
theorem pm_take (L : List PM) (i : Nat) (hi : i ≤ L.length) : (pmCells L).take (i * 5) = pmCells (L.take i) := by
  conv => lhs; rw [← List.take_append_drop i L, pm_app]
  rw [List.take_append_of_le_length (by rw [pm_len, List.length_take]; omega), List.take_of_length_le (by rw [pm_len, List.length_take]; omega)]
theorem pm_set5 (L : List PM) (i : Nat) (s : PM) (hi : i < L.length) : pmCells (L.set i s) = (((((pmCells L).set (i * 5) (.int .u8 s.id.a)).set (i * 5 + 1) (.int .u8 s.id.b)).set (i * 5 + 2) (.int .u8 s.id.c)).set (i * 5 + 3) (.int .u8 s.id.d)).set (i * 5 + 4) s.cv := by
  induction L generalizing i with
  | nil => simp at hi
  | cons x L ih =>
    cases i with
    | zero => simp [pmCells]
    | succ i =>
      have := ih i (by simpa using hi)
      simp only [List.set_cons_succ]
      obtain ⟨X, hX⟩ : ∃ X : List Value, X = [.int .u8 x.id.a, .int .u8 x.id.b, .int .u8 x.id.c, .int .u8 x.id.d, x.cv] := ⟨_, rfl⟩
      have hXl : X.length = 5 := by rw [hX]; rfl
      have e : ∀ (u : Value) (T : List Value) (j : Nat), (X ++ T).set ((i + 1) * 5 + j) u = X ++ T.set (i * 5 + j) u := fun u T j => by
        rw [List.set_append_right _ _ (by omega)]
        congr 2
        omega
      have e0 : ∀ (u : Value) (T : List Value), (X ++ T).set ((i + 1) * 5) u = X ++ T.set (i * 5) u := fun u T => e u T 0
      have c1 : pmCells (x :: L.set i s) = X ++ pmCells (L.set i s) := by rw [hX]; rfl
      have c2 : pmCells (x :: L) = X ++ pmCells L := by rw [hX]; rfl
      rw [c1, c2, this, e0, e, e, e, e]
theorem own_set5 {w w1 w2 w3 w4 w5 : World} {base g cap : Nat} {L : List PM} (h : w.ownsRow base 149 5 (.slice (some ⟨g, 0, none⟩) L.length cap) L.length (pmCells L)) {i : Nat} (hi : i < L.length) (s : PM)
    (e1 : w1 = w.setCell ⟨g, i * 5, none⟩ (.int .u8 s.id.a)) (e2 : w2 = w1.setCell ⟨g, i * 5 + 1, none⟩ (.int .u8 s.id.b)) (e3 : w3 = w2.setCell ⟨g, i * 5 + 2, none⟩ (.int .u8 s.id.c)) (e4 : w4 = w3.setCell ⟨g, i * 5 + 3, none⟩ (.int .u8 s.id.d)) (e5 : w5 = w4.setCell ⟨g, i * 5 + 4, none⟩ s.cv) :
    w5.ownsRow base 149 5 (.slice (some ⟨g, 0, none⟩) L.length cap) L.length (pmCells (L.set i s)) ∧ w.grownBy w5 (some g) := by
  obtain ⟨h1, k1⟩ := h.stored (i * 5) (.int .u8 s.id.a)
  rw [← e1] at h1 k1
  obtain ⟨h2, k2⟩ := h1.stored (i * 5 + 1) (.int .u8 s.id.b)
  rw [← e2] at h2 k2
  obtain ⟨h3, k3⟩ := h2.stored (i * 5 + 2) (.int .u8 s.id.c)
  rw [← e3] at h3 k3
  obtain ⟨h4, k4⟩ := h3.stored (i * 5 + 3) (.int .u8 s.id.d)
  rw [← e4] at h4 k4
  obtain ⟨h5, k5⟩ := h4.stored (i * 5 + 4) s.cv
  rw [← e5] at h5 k5
  rw [pm_set5 L i s hi]
  exact ⟨h5, grown_trans k1 (grown_trans k2 (grown_trans k3 (grown_trans k4 k5)))⟩
theorem pm_at {w : World} {base g cap : Nat} {L : List PM} (h : w.ownsRow base 149 5 (.slice (some ⟨g, 0, none⟩) L.length cap) L.length (pmCells L)) {k : Nat} {s : PM} (hk : L[k]? = some s) :
    w.cell? ⟨g, k * 5, none⟩ = some (.int .u8 s.id.a) ∧ w.cell? ⟨g, k * 5 + 1, none⟩ = some (.int .u8 s.id.b) ∧ w.cell? ⟨g, k * 5 + 2, none⟩ = some (.int .u8 s.id.c) ∧ w.cell? ⟨g, k * 5 + 3, none⟩ = some (.int .u8 s.id.d) ∧ w.cell? ⟨g, k * 5 + 4, none⟩ = some s.cv := by
  have hkl := (List.getElem?_eq_some_iff.1 hk).1
  obtain ⟨f0, f1, f2, f3, f4⟩ := pm_flat L k s hk
  refine ⟨?_, ?_, ?_, ?_, ?_⟩
  · rw [World.ownsRow.cellAt h _ (by omega), f0]
  · rw [World.ownsRow.cellAt h _ (by omega), f1]
  · rw [World.ownsRow.cellAt h _ (by omega), f2]
  · rw [World.ownsRow.cellAt h _ (by omega), f3]
  · rw [World.ownsRow.cellAt h _ (by omega), f4]
theorem grown_of {a b : World} (h : Below a.heap.size a b) (r : Option Nat) : a.grownBy b r := ⟨h.os, h.tape, h.output, h.size, fun k hk _ => h.block k hk⟩

/-- What is read and written as one patch is moved ahead. -/
structure DropS (w : World) (g base cap : Nat) (L : List PM) (vb i : Nat) (s : Pid) (cv : Value) : Prop where
  d0 : w.cell? ⟨vb, 0, none⟩ = some (.int .u8 s.a)
  d1 : w.cell? ⟨vb, 1, none⟩ = some (.int .u8 s.b)
  d2 : w.cell? ⟨vb, 2, none⟩ = some (.int .u8 s.c)
  d3 : w.cell? ⟨vb, 3, none⟩ = some (.int .u8 s.d)
  d4 : w.cell? ⟨vb, 4, none⟩ = some cv
  r0 : ∃ t, w.cell? ⟨g, i * 5, none⟩ = some (.int .u8 t)
  r1 : ∃ t, w.cell? ⟨g, i * 5 + 1, none⟩ = some (.int .u8 t)
  r2 : ∃ t, w.cell? ⟨g, i * 5 + 2, none⟩ = some (.int .u8 t)
  r3 : ∃ t, w.cell? ⟨g, i * 5 + 3, none⟩ = some (.int .u8 t)
  r4 : ∃ a n c, w.cell? ⟨g, i * 5 + 4, none⟩ = some (.slice a n c)
  fz : ∀ x, w.frozen? ⟨g, x, none⟩ = false
  own : w.ownsRow base 149 5 (.slice (some ⟨g, 0, none⟩) L.length cap) L.length (pmCells L)
theorem DropS.of {w : World} {g base cap : Nat} {L : List PM} {vb i : Nat} {s : Pid} {cv : Value} {t : PM} (ho : w.ownsRow base 149 5 (.slice (some ⟨g, 0, none⟩) L.length cap) L.length (pmCells L)) (hk : w.heap[vb]? = some (.cells #[.int .u8 s.a, .int .u8 s.b, .int .u8 s.c, .int .u8 s.d, cv] 149 (0, 0))) (ht : L[i]? = some t) (hc : ∃ a n c, t.cv = .slice a n c) : DropS w g base cap L vb i s cv := by
  obtain ⟨d0, d1, d2, d3, d4⟩ := cells5_of hk
  obtain ⟨c0, c1, c2, c3, c4⟩ := pm_at ho ht
  obtain ⟨a, n, c, hc⟩ := hc
  rw [hc] at c4
  exact ⟨d0, d1, d2, d3, d4, ⟨_, c0⟩, ⟨_, c1⟩, ⟨_, c2⟩, ⟨_, c3⟩, ⟨a, n, c, c4⟩, fun x => World.ownsRow.frozenAt ho x, ho⟩

set_option maxRecDepth 100000 in
set_option maxHeartbeats 6400000 in
theorem del191_any (S : List PM) (p : PM → Bool) (f : FuncId) (ib : Nat) (io : Obj) (ef : ∀ args w, (callFunc f args).run Tryz.prog w = .ok (.enter f args) w) (v : Value) (base : Nat) (w : World) (ho : w.ownsRow base 149 5 v S.length (pmCells S)) (hcv : ∀ P ∈ S, CV w P.cv P.Cs) (hlen : S.length ≤ 1000000) (hib : w.heap[ib]? = some io) (hio : ∀ A fz, io ≠ .cells A 149 fz)
    (hp : ∀ s ∈ S, ∀ u : World, u.heap[ib]? = some io → Calls Tryz.prog f (#[pmV s] ++ #[.pointer (some ⟨ib, 0, none⟩)]) u fun e w' => e = .returned (.bool (p s)) ∧ Below u.heap.size u w') :
    Calls Tryz.prog 191 #[v, .func (.func f) #[] #[.pointer (some ⟨ib, 0, none⟩)]] w fun e w' => ∃ v', e = .returned v' ∧ w'.ownsRow base 149 5 v' (S.filter fun s => !p s).length (pmCells (S.filter fun s => !p s)) ∧ w.grownBy w' v.ownBlock := by
  have hibl := (Array.getElem?_eq_some_iff.1 hib).1
  have HF : Hid (Calls Tryz.prog 187 #[v, .func (.func f) #[] #[.pointer (some ⟨ib, 0, none⟩)]] w fun e w' => e = .returned (.int .i64 (idxInt (S.findIdx? p))) ∧ Below w.heap.size w w') := idxf187_any S p f _ ef v w (pm_view ho hcv) hlen (fun s hs u hu => hp s hs u ((hu.block _ hibl).trans hib))
  have HP := hid hp
  have HCV : Hid (∀ P ∈ S, ∃ a n c, P.cv = .slice a n c) := fun P hP => (hcv P hP).cvS
  have HIB := hid hib
  clear hp hcv
  cases hq : S.findIdx? p with
  | none =>
    have HQ := hid (keep_none hq)
    rw [hq] at HF
    simp only [idxInt] at HF
    have HO := hid ho
    have HG : Hid (∀ u, Below w.heap.size w u → w.grownBy u v.ownBlock) := fun u hu => grown_of hu _
    obtain ⟨va, vn, vc, rfl⟩ : ∃ a n c, v = .slice a n c := by
      rcases ho.2 with ⟨rfl, _⟩ | ⟨g, cap, cur, rfl, _⟩
      · exact ⟨_, _, _, rfl⟩
      · exact ⟨_, _, _, rfl⟩
    clear ho hq hib
    go_enter Tryz.func191, Tryz.ntmps191
    go_wp2_with fail
    refine HF.out.mono ?_
    rintro e w1 ⟨rfl, hb1⟩
    clear HF
    go_wp2
    go_ret
    refine ⟨_, rfl, ?_, HG.out _ hb1⟩
    rw [HQ.out]
    exact own_below HO.out hb1 (Nat.le_refl _)
  | some i =>
    obtain ⟨hiS, hfirst⟩ := keepTo_first hq
    rw [hq] at HF
    simp only [idxInt] at HF
    rcases ho.2 with ⟨rfl, h0⟩ | ⟨g, cap, cur, rfl, hg0, hgc, _⟩
    · omega
    · have hgi : ib ≠ g := by
        rintro rfl
        rw [hib] at hgc
        injection hgc with e
        exact hio _ _ e
      have HO := hid ho
      have HK1 := hid hfirst
      clear ho hq hfirst hib hgc
      go_enter Tryz.func191, Tryz.ntmps191
      go_wp2_with fail
      refine HF.out.mono ?_
      rintro e w1 ⟨rfl, hb1⟩
      clear HF
      have HO1 : Hid (w1.ownsRow base 149 5 (.slice (some ⟨g, 0, none⟩) S.length cap) S.length (pmCells S)) := own_below HO.out hb1 (Nat.le_refl _)
      have HG1 : Hid (w.grownBy w1 (some g)) := grown_of hb1 _
      have hne : ¬ ((i : Int) = -1) := by omega
      clear HO hb1
      go_wp2
      go_loopw [5, 6] (fun a b wr => ∃ (j : Nat) (L : List PM), j ≤ S.length ∧ (keepTo p S j).length < j ∧ L.length = S.length ∧ a = .int .i64 ((keepTo p S j).length : Nat) ∧ b = .int .i64 j ∧ Hid (L.take (keepTo p S j).length = keepTo p S j ∧ L.drop j = S.drop j ∧ ∀ P ∈ L, P ∈ S) ∧ Hid (wr.ownsRow base 149 5 (.slice (some ⟨g, 0, none⟩) L.length cap) L.length (pmCells L)) ∧ Hid (w.grownBy wr (some g))) (fun _ b _ => S.length - (intOf b).toNat)
      case atStart =>
        refine ⟨i + 1, S, by omega, ?_, rfl, ?_, by go_num, ?_, HO1, HG1⟩
        · rw [HK1.out, List.length_take]; omega
        · rw [HK1.out, List.length_take, Nat.min_eq_left (by omega)]
        · exact ⟨by rw [HK1.out, List.length_take, Nat.min_eq_left (by omega)], rfl, fun _ h => h⟩
      case round =>
        clear HO1 HK1 hne HG1
        obtain ⟨j, L, hj, hkj, hL, rfl, rfl, HL, HO, HG⟩ := hrel
        obtain ⟨K, hK⟩ : ∃ K, keepTo p S j = K := ⟨_, rfl⟩
        rw [hK] at hkj HL ⊢
        by_cases hlt : j < S.length
        · obtain ⟨s, hs⟩ : ∃ s, S[j]? = some s := ⟨_, List.getElem?_eq_getElem hlt⟩
          have hLs : L[j]? = some s := by
            have h : (L.drop j)[0]? = (S.drop j)[0]? := by rw [HL.out.2.1]
            rw [List.getElem?_drop, List.getElem?_drop, Nat.add_zero, hs] at h
            exact h
          obtain ⟨c0, c1, c2, c3, c4⟩ := pm_at HO.out hLs
          obtain ⟨sa, sn, sc, hsv⟩ := HCV.out s (List.mem_of_getElem? hs)
          rw [hsv] at c4
          obtain ⟨w4, hw4⟩ : ∃ w4, w4 = wr.alloc (.cells #[.int .u8 s.id.a, .int .u8 s.id.b, .int .u8 s.id.c, .int .u8 s.id.d, .slice sa sn sc] 149) := ⟨_, rfl⟩
          have hb4 : Below wr.heap.size wr w4 := by rw [hw4]; exact (Below.refl _ _).alloc (Nat.le_refl _) _
          have hk4 := (MapKept.heap_alloc wr (.cells #[.int .u8 s.id.a, .int .u8 s.id.b, .int .u8 s.id.c, .int .u8 s.id.d, .slice sa sn sc] 149)).1
          rw [← hw4] at hk4
          have hs4 : wr.heap.size < w4.heap.size := by rw [hw4]; simp
          have hszw := HG.out.size
          have hib4 : w4.heap[ib]? = some io := (hb4.block ib (by omega)).trans ((HG.out.block ib hibl (by intro e; injection e with e; exact hgi e)).trans HIB.out)
          obtain ⟨d0, d1, d2, d3, d4⟩ := cells5_of hk4
          have HKS : Hid (keepTo p S (j + 1) = if p s then keepTo p S j else keepTo p S j ++ [s]) := keepTo_succ hs
          have hcall := HP.out s (List.mem_of_getElem? hs) w4 hib4
          unfold pmV at hcall
          rw [hsv] at hcall
          have HK4 := hid hk4
          have HKK := hid hK
          have HSM : Hid (s ∈ S) := List.mem_of_getElem? hs
          have HSV := hid hsv
          have HG4 : Hid (w.grownBy w4 (some g)) := grown_trans HG.out (grown_of hb4 _)
          clear hs hLs hk4 hK hib4 hsv
          subst hw4
          cases hq : p s with
          | true =>
            rw [hq] at hcall
            go_wp2_with (go_at_fn f; refine hcall.mono ?_; rintro e w5 ⟨rfl, hb5⟩)
            go_roundw
            case rel =>
              have hb45 : Below wr.heap.size wr w5 := hb4.trans (hb5.mono hb4.size)
              have e1 : keepTo p S (j + 1) = K := by rw [HKS.out, if_pos hq, HKK.out]
              refine ⟨_, _, _, _, _, _, _, _, _, _, _, _, _, _, _, _, _, _, _, _, _, _, _, ⟨j + 1, L, by omega, by rw [e1]; omega, hL, by rw [e1], by go_num, ?_, own_below HO.out hb45 (Nat.le_refl _), grown_trans HG4.out (grown_of hb5 _)⟩, rfl⟩
              rw [e1]
              refine ⟨HL.out.1, ?_, HL.out.2.2⟩
              have := HL.out.2.1
              rw [← List.drop_drop, this, List.drop_drop]
            case measure => simp [intOf]; omega
          | false =>
            rw [hq] at hcall
            have hi : K.length < L.length := by omega
            obtain ⟨t, ht⟩ : ∃ t, L[K.length]? = some t := ⟨_, List.getElem?_eq_getElem hi⟩
            have htc := HCV.out t (HL.out.2.2 t (List.mem_of_getElem? ht))
            have HN : Hid (∀ w5, Below (wr.alloc (.cells #[.int .u8 s.id.a, .int .u8 s.id.b, .int .u8 s.id.c, .int .u8 s.id.d, .slice sa sn sc] 149)).heap.size (wr.alloc (.cells #[.int .u8 s.id.a, .int .u8 s.id.b, .int .u8 s.id.c, .int .u8 s.id.d, .slice sa sn sc] 149)) w5 → DropS w5 g base cap L wr.heap.size K.length s.id (.slice sa sn sc)) := by
              intro w5 hb5
              have hb45 : Below wr.heap.size wr w5 := hb4.trans (hb5.mono hb4.size)
              exact DropS.of (own_below HO.out hb45 (Nat.le_refl _)) ((hb5.block _ hs4).trans HK4.out) ht htc
            clear d0 d1 d2 d3 d4 ht htc
            obtain ⟨d0, d1, d2, d3, d4⟩ := cells5_of HK4.out
            go_wp2_with (go_at_fn f; refine hcall.mono ?_; rintro e w5 ⟨rfl, hb5⟩; clear d0 d1 d2 d3 d4 c0 c1 c2 c3 c4; obtain ⟨d0, d1, d2, d3, d4, ⟨_, r0⟩, ⟨_, r1⟩, ⟨_, r2⟩, ⟨_, r3⟩, ⟨_, _, _, r4⟩, fz, HO5⟩ := HN.out w5 hb5; have f0 := fz (K.length * 5); have f1 := fz (K.length * 5 + 1); have f2 := fz (K.length * 5 + 2); have f3 := fz (K.length * 5 + 3); have f4 := fz (K.length * 5 + 4); clear HN)
            obtain ⟨w7, hw7⟩ : ∃ w7, w7 = ((((w5.setCell ⟨g, K.length * 5, none⟩ (.int .u8 s.id.a)).setCell ⟨g, K.length * 5 + 1, none⟩ (.int .u8 s.id.b)).setCell ⟨g, K.length * 5 + 2, none⟩ (.int .u8 s.id.c)).setCell ⟨g, K.length * 5 + 3, none⟩ (.int .u8 s.id.d)).setCell ⟨g, K.length * 5 + 4, none⟩ (.slice sa sn sc) := ⟨_, rfl⟩
            rw [← hw7]
            obtain ⟨o7, g7⟩ := own_set5 (w5 := w7) HO5 hi s rfl rfl rfl rfl (by rw [HSV.out]; exact hw7)
            have HG7 : Hid (w.grownBy w7 (some g)) := grown_trans HG4.out (grown_trans (grown_of hb5 _) g7)
            have HO7 := hid o7
            clear o7 g7 hw7 d0 d1 d2 d3 d4 r0 r1 r2 r3 r4 f0 f1 f2 f3 f4 fz HO5
            go_wp2
            go_roundw
            case rel =>
              have e1 : keepTo p S (j + 1) = K ++ [s] := by rw [HKS.out, if_neg (by rw [hq]; simp), HKK.out]
              first
                | refine ⟨j + 1, by omega, by rw [e1, List.length_append, List.length_singleton]; omega, L.set K.length s, by rw [List.length_set]; exact hL, by rw [e1, List.length_append, List.length_singleton]; omega, by omega, ?_, ?_, HG7⟩
                | refine ⟨_, _, _, _, _, _, _, _, _, _, _, _, _, _, _, _, _, _, _, _, _, _, _, ⟨j + 1, L.set K.length s, by omega, by rw [e1, List.length_append, List.length_singleton]; omega, by rw [List.length_set]; exact hL, by rw [e1, List.length_append, List.length_singleton]; go_num, by go_num, ?_, ?_, HG7⟩, rfl⟩
              · rw [e1, List.length_append, List.length_singleton]
                refine ⟨by rw [set_take hi, HL.out.1], ?_, fun P hP => ?_⟩
                · rw [set_drop (by omega), ← List.drop_drop, HL.out.2.1, List.drop_drop]
                · rcases List.mem_or_eq_of_mem_set hP with h | h
                  · exact HL.out.2.2 P h
                  · rw [h]; exact HSM.out
              · show World.ownsRow _ _ _ _ _ _ _
                rw [List.length_set]
                exact HO7.out
            case measure => simp [intOf]; omega
        · obtain rfl : j = S.length := by omega
          have HKK : Hid (K = S.filter fun s => !p s) := by
            show _ = _
            rw [← hK]
            unfold keepTo
            rw [List.take_length]
          have hcap : L.length ≤ cap := by
            rcases HO.out.2 with ⟨h', _⟩ | ⟨_, _, _, h', _, _, hnc, _⟩
            · cases h'
            · cases h'; exact hnc
          have hcl : ∀ ty, (Builtin.clear_ #[84] ty #[.slice (some ⟨g, K.length * 5, none⟩) (S.length - K.length) (cap - K.length)]).run Tryz.prog wr = .ok (.tuple #[]) (wr.setCells g (K.length * 5) (Builtin.zeroCells (Value.agg #[.int .u8 0, .int .u8 0, .int .u8 0, .int .u8 0, .slice none 0 0]).cells (S.length - K.length)).toList) := fun ty => by
            refine run_clear_row wr 84 149 ty (Value.agg #[.int .u8 0, .int .u8 0, .int .u8 0, .int .u8 0, .slice none 0 0]) Tryz.underlying84 Tryz.zeroValue149 (by decide) g (K.length * 5) _ _ (by omega) (fun x hx => ?_) (fun x hx => World.ownsRow.frozenAt HO.out _)
            have hx7 : x < (S.length - K.length) * 5 := hx
            rw [World.ownsRow.cellAt HO.out _ (by omega), List.getElem?_eq_getElem (by rw [pm_len]; omega)]
            rfl
          obtain ⟨w6, hw6⟩ : ∃ w6, w6 = wr.setCells g (K.length * 5) (Builtin.zeroCells (Value.agg #[.int .u8 0, .int .u8 0, .int .u8 0, .int .u8 0, .slice none 0 0]).cells (S.length - K.length)).toList := ⟨_, rfl⟩
          rw [← hw6] at hcl
          obtain ⟨o6, g6⟩ := own_setCells (Builtin.zeroCells (Value.agg #[.int .u8 0, .int .u8 0, .int .u8 0, .int .u8 0, .slice none 0 0]).cells (S.length - K.length)).toList wr (K.length * 5) (own_cut HO.out (i := K.length) (by omega)) (by rw [List.length_take]; omega)
          rw [← hw6] at o6 g6
          rw [pm_take L _ (by omega), HL.out.1] at o6
          have HG6 := hid (grown_trans HG.out g6)
          have HO6 := hid o6
          have hk1 : (K.length : Int) ≤ (S.length : Int) := by omega
          have hk2 : (S.length : Int) ≤ (cap : Int) := by omega
          clear o6 g6 hw6 hK HL HO HG
          go_wp2
          go_ret
          refine ⟨_, rfl, ?_, HG6.out⟩
          rw [← HKK.out]
          exact HO6.out
end Go.Proofs.YtgdfipmdmgkidaaGreatDoor
