/- Does a change, does a patch need another one. -/
import Derived.Test.YtgdfipmdmgkidaaGreatDoorNkill
import Derived.Test.YtgdfipmdmgkidaaGreatDoorPtfact
namespace Go.Proofs.YtgdfipmdmgkidaaGreatDoor
open Go.RowKit

section
variable {P : Program} {ops : Array Oper} {Q : Exit → Act → World → Prop} {md : Region.Mode} {S : World → Prop} {z : Nat}
/-- An operation that its guard leaves out. -/
theorem wpZ_skip (i : Nat) (oi : Oper) {fuel : Nat} {listed : Array Bool} {a : Act} {w : World} (hi : ops[i]? = some oi)
    (hs : Region.noSelect ops = true) (hf : Region.free md ops listed i = true) (hr : (Region.ready md ops listed).contains i = true)
    (hQ : ∀ c a w, Q (.panic c) (a.put oi.dst undef) w → Q (.panic c) a w) (hl : lastOp md ops z i = true) (hiz : i ≠ z) (hS : S w) (hw : Region.wanted oi (yielded ops a.tmps) = false)
    (h : wpZ P md ops Q S z fuel (listed.setIfInBounds i true) (a.put oi.dst undef) w) : wpZ P md ops Q S z (fuel + 1) listed a w :=
  wpZ_first hi (Region.noSelect_spec hs) hQ hl hiz fuel listed a w (Region.free_spec hi hf) (by simpa using hr) (.inr ⟨hw, rfl⟩) hS h
end

theorem meth_names (c : ChM) (w : World) : (method 512 (chT c) (chIn c) "stitch/patch.names").run Tryz.prog w = .ok (chNames c, chIn c) w := by
  cases c <;> kernel_rfl
theorem meth_kills (c : ChM) (w : World) : (method 512 (chT c) (chIn c) "stitch/patch.kills").run Tryz.prog w = .ok (chKills c, chIn c) w := by
  cases c <;> kernel_rfl
theorem enter_names (c : ChM) (args : Array Value) (w : World) : (callFunc (chNames c) args).run Tryz.prog w = .ok (.enter (chNames c) args) w := by
  cases c <;> kernel_rfl
theorem enter_kills (c : ChM) (args : Array Value) (w : World) : (callFunc (chKills c) args).run Tryz.prog w = .ok (.enter (chKills c) args) w := by
  cases c <;> kernel_rfl
/-- What is read as two changes are held against each other. -/
structure NeedS (A D : Nat) (nm dn : ByteArray) (ch dc : ChM) (i : Pid) (w : World) : Prop where
  a0 : w.cell? ⟨A, 0, none⟩ = some (.string nm)
  a1 : w.cell? ⟨A, 1, none⟩ = some (.iface (chT ch) (chIn ch))
  d0 : w.cell? ⟨D, 0, none⟩ = some (.string dn)
  d1 : w.cell? ⟨D, 1, none⟩ = some (.iface (chT dc) (chIn dc))
  r0 : w.cell? ⟨A + 1, 0, none⟩ = some (.int .u8 i.a)
  r1 : w.cell? ⟨A + 1, 1, none⟩ = some (.int .u8 i.b)
  r2 : w.cell? ⟨A + 1, 2, none⟩ = some (.int .u8 i.c)
  r3 : w.cell? ⟨A + 1, 3, none⟩ = some (.int .u8 i.d)
theorem NeedS.of {A D : Nat} {nm dn : ByteArray} {ch dc : ChM} {i : Pid} {cv : Value} {w : World} (h1 : w.heap[A]? = some (.cells #[.string nm, .iface (chT ch) (chIn ch)] 226 (0, 0))) (h2 : w.heap[A + 1]? = some (.cells #[.int .u8 i.a, .int .u8 i.b, .int .u8 i.c, .int .u8 i.d, cv] 149 (0, 0))) (h3 : w.heap[D]? = some (.cells #[.string dn, .iface (chT dc) (chIn dc)] 226 (0, 0))) : NeedS A D nm dn ch dc i w := by
  obtain ⟨a0, a1⟩ := cells2_of h1
  obtain ⟨r0, r1, r2, r3, _⟩ := cells5_of h2
  obtain ⟨d0, d1⟩ := cells2_of h3
  exact ⟨a0, a1, d0, d1, r0, r1, r2, r3⟩

/-- A change needs a patch. -/
def needB (c : ByteArray × ChM) (i : Pid) (d : ByteArray × ChM) : Bool := decide (c.1 = d.1) && (namesOf c.2).any (leansB i (killsOf d.2))

set_option maxRecDepth 100000 in
set_option maxHeartbeats 6400000 in
theorem needs186_any (c : ByteArray × ChM) (Q : PM) (w : World) (hc : ChOK w c.2) (hcs : ChSmall c.2) (hQ : CV w Q.cv Q.Cs) (hQs : ∀ d ∈ Q.Cs, ChSmall d.2) (hl : Q.Cs.length ≤ 1000) :
    Calls Tryz.prog 186 #[ncV c, pmV Q] w fun e w' => e = .returned (.bool (Q.Cs.any (needB c Q.id))) ∧ Below w.heap.size w w' := by
  have HC : Hid (ChOK w c.2) := hc
  have HCS : Hid (ChSmall c.2) := hcs
  have HQ : Hid (CV w Q.cv Q.Cs) := hQ
  have HQS : Hid (∀ d ∈ Q.Cs, ChSmall d.2) := hQs
  obtain ⟨nm, ch⟩ := c
  obtain ⟨⟨ia, ib, ic, id⟩, cv, Cs⟩ := Q
  simp only at hQ hl HC HCS HQ HQS
  obtain ⟨ca, cc, rfl, _⟩ := hQ
  unfold ncV pmV
  simp only [chV]
  obtain ⟨w2, hw2⟩ : ∃ w2, w2 = (w.alloc (.cells #[.string nm, .iface (chT ch) (chIn ch)] 226)).alloc (.cells #[.int .u8 ia, .int .u8 ib, .int .u8 ic, .int .u8 id, .slice ca Cs.length cc] 149) := ⟨_, rfl⟩
  obtain ⟨hb2, hs2, hA, hR⟩ := two_blocks' w _ _ hw2
  have c4 : w2.cell? ⟨w.heap.size + 1, 4, none⟩ = some (.slice ca Cs.length cc) := (cells5_of hR).2.2.2.2
  have HA : Hid (w2.heap[w.heap.size]? = some (.cells #[.string nm, .iface (chT ch) (chIn ch)] 226 (0, 0))) := hA
  have HR : Hid (w2.heap[w.heap.size + 1]? = some (.cells #[.int .u8 ia, .int .u8 ib, .int .u8 ic, .int .u8 id, .slice ca Cs.length cc] 149 (0, 0))) := hR
  clear hA hR hc hcs hQs
  go_enter Tryz.func186, Tryz.ntmps186
  go_wp2_with fail
  rw [← hw2]
  clear hw2
  go_wp2
  clear c4
  go_loopw [10] (fun x wr => ∃ k : Nat, k ≤ Cs.length ∧ x = .int .i64 k ∧ Hid (∀ i (hi : i < Cs.length), i < k → needB (nm, ch) ⟨ia, ib, ic, id⟩ Cs[i] = false) ∧ Below w2.heap.size w2 wr) (fun x _ => Cs.length - (intOf x).toNat)
  case atStart => exact ⟨0, Nat.zero_le _, rfl, (fun i _ h => by omega), Below.refl _ _⟩
  case round =>
    obtain ⟨k, hk, rfl, HN, hbw⟩ := hrel
    have hsz := hbw.size
    have hbw0 : Below w.heap.size w wr := hb2.trans (hbw.mono (by omega))
    by_cases hlt : k < Cs.length
    · have hd : Cs[k]? = some Cs[k] := List.getElem?_eq_getElem hlt
      obtain ⟨_, _, e1, hcc⟩ := HQ.out.below hbw0 (Nat.le_refl _)
      cases e1
      obtain ⟨b, o, rfl, hb, d0, d1, hok⟩ := hcc k _ hd
      have hds := HQS.out _ (List.getElem_mem hlt)
      obtain ⟨⟨dn, dc⟩, hde⟩ : ∃ d, Cs[k] = d := ⟨_, rfl⟩
      rw [hde] at d0 d1 hok hds
      simp only [chV] at d0 d1 hok hds
      have HDE : Hid (Cs[k] = (dn, dc)) := hde
      obtain ⟨w4, hw4⟩ : ∃ w4, w4 = wr.alloc (.cells #[.string dn, .iface (chT dc) (chIn dc)] 226) := ⟨_, rfl⟩
      have hb4 : Below wr.heap.size wr w4 := by rw [hw4]; exact (Below.refl _ _).alloc (Nat.le_refl _) _
      have hk4 := (MapKept.heap_alloc wr (.cells #[.string dn, .iface (chT dc) (chIn dc)] 226)).1
      rw [← hw4] at hk4
      have hs4 : wr.heap.size < w4.heap.size := by rw [hw4]; simp
      have hok4 := hok.below hb4 (Nat.le_refl _)
      have hch4 : ChOK w4 ch := HC.out.below (hbw0.trans (hb4.mono (by omega))) (Nat.le_refl _)
      have hb24 : Below w2.heap.size w2 w4 := hbw.trans (hb4.mono hsz)
      have hA4 := (hb24.block w.heap.size (by omega)).trans HA.out
      have hR4 := (hb24.block (w.heap.size + 1) (by omega)).trans HR.out
      have HK4 : Hid (w4.heap[wr.heap.size]? = some (.cells #[.string dn, .iface (chT dc) (chIn dc)] 226 (0, 0))) := hk4
      clear hcc hd hde hok
      go_wp2_with fail
      rw [← hw4]
      clear hw4 d0 d1
      have hS4 : NeedS w.heap.size wr.heap.size nm dn ch dc ⟨ia, ib, ic, id⟩ w4.drew := NeedS.of hA4 hR4 HK4.out
      obtain ⟨bq, hbq⟩ : ∃ b, decide (nm = dn) = b := ⟨_, rfl⟩
      have hbe : (nm.toList == dn.toList) = bq := by rw [eq_bytes]; exact hbq
      refine wp_region_Z (NeedS w.heap.size wr.heap.size nm dn ch dc ⟨ia, ib, ic, id⟩) 99 (by kernel_rfl) ?_
      refine wpZ_take 0 _ (v := ?v0) rfl (by kernel_rfl) (by kernel_rfl) (by kernel_rfl) (fun _ _ _ h => h) (by kernel_rfl) (by decide) hS4 rfl (fun w0 hS0 => ?hy) ?_
      case hy =>
        obtain ⟨a0, a1, d0, d1, r0, r1, r2, r3⟩ := hS0
        go_simp
        with_reducible rfl
      simp only [Act.put, List.setIfInBounds_toArray]
      refine wpZ_take 1 _ (v := ?v1) rfl (by kernel_rfl) (by kernel_rfl) (by kernel_rfl) (fun _ _ _ h => h) (by kernel_rfl) (by decide) hS4 rfl (fun w0 hS0 => ?hy) ?_
      case hy =>
        obtain ⟨a0, a1, d0, d1, r0, r1, r2, r3⟩ := hS0
        go_simp
        with_reducible rfl
      simp only [Act.put]
      refine wpZ_take 2 _ (v := ?v2) rfl (by kernel_rfl) (by kernel_rfl) (by kernel_rfl) (fun _ _ _ h => h) (by kernel_rfl) (by decide) hS4 rfl (fun w0 hS0 => ?hy) ?_
      case hy =>
        obtain ⟨a0, a1, d0, d1, r0, r1, r2, r3⟩ := hS0
        go_simp
        with_reducible rfl
      simp only [Act.put]
      refine wpZ_take 3 _ (v := ?v3) rfl (by kernel_rfl) (by kernel_rfl) (by kernel_rfl) (fun _ _ _ h => h) (by kernel_rfl) (by decide) hS4 rfl (fun w0 hS0 => ?hy) ?_
      case hy =>
        obtain ⟨a0, a1, d0, d1, r0, r1, r2, r3⟩ := hS0
        go_simp
        with_reducible rfl
      simp only [Act.put]
      cases bq
      · have HE : Hid (needB (nm, ch) ⟨ia, ib, ic, id⟩ (dn, dc) = false) := by show _ = _; unfold needB; simp only; rw [hbq]; rfl
        refine wpZ_take 4 _ (v := .bool false) rfl (by kernel_rfl) (by kernel_rfl) (by kernel_rfl) (fun _ _ _ h => h) (by kernel_rfl) (by decide) hS4 rfl (fun w0 hS0 => ?hy) ?_
        case hy =>
          obtain ⟨a0, a1, d0, d1, r0, r1, r2, r3⟩ := hS0
          go_simp
        simp only [Act.put]
        refine wpZ_take 5 _ (v := ?v5) rfl (by kernel_rfl) (by kernel_rfl) (by kernel_rfl) (fun _ _ _ h => h) (by kernel_rfl) (by decide) hS4 rfl (fun w0 hS0 => ?hy) ?_
        case hy =>
          obtain ⟨a0, a1, d0, d1, r0, r1, r2, r3⟩ := hS0
          go_simp
          with_reducible rfl
        simp only [Act.put]
        refine wpZ_skip 6 _ rfl (by kernel_rfl) (by kernel_rfl) (by kernel_rfl) (fun _ _ _ h => h) (by kernel_rfl) (by decide) hS4 (by kernel_rfl) ?_
        simp only [Act.put]
        refine wpZ_skip 7 _ rfl (by kernel_rfl) (by kernel_rfl) (by kernel_rfl) (fun _ _ _ h => h) (by kernel_rfl) (by decide) hS4 (by kernel_rfl) ?_
        simp only [Act.put]
        refine wpZ_skip 9 _ rfl (by kernel_rfl) (by kernel_rfl) (by kernel_rfl) (fun _ _ _ h => h) (by kernel_rfl) (by decide) hS4 (by kernel_rfl) ?_
        simp only [Act.put]
        refine wpZ_skip 10 _ rfl (by kernel_rfl) (by kernel_rfl) (by kernel_rfl) (fun _ _ _ h => h) (by kernel_rfl) (by decide) hS4 (by kernel_rfl) ?_
        simp only [Act.put]
        refine wpZ_skip 11 _ rfl (by kernel_rfl) (by kernel_rfl) (by kernel_rfl) (fun _ _ _ h => h) (by kernel_rfl) (by decide) hS4 (by kernel_rfl) ?_
        simp only [Act.put]
        refine wpZ_skip 12 _ rfl (by kernel_rfl) (by kernel_rfl) (by kernel_rfl) (fun _ _ _ h => h) (by kernel_rfl) (by decide) hS4 (by kernel_rfl) ?_
        simp only [Act.put]
        refine wpZ_one 8 _ rfl (by kernel_rfl) (fun KK hK => ?_)
        go_simp
        refine hK.out _ _ (fun _ => hS4) ?_
        clear hK
        refine wpZ_one 13 _ rfl (by kernel_rfl) (fun KK hK => ?_)
        go_simp
        refine hK.out _ _ (fun _ => hS4) ?_
        clear hK
        refine wpZ_one 14 _ rfl (by kernel_rfl) (fun KK hK => ?_)
        go_simp
        refine hK.out _ _ (fun _ => hS4) ?_
        clear hK
        refine wpZ_one 15 _ rfl (by kernel_rfl) (fun KK hK => ?_)
        go_simp
        refine hK.out _ _ (fun _ => hS4) ?_
        clear hK
        refine wpZ_done (by kernel_rfl) ?_ _
        clear hS4 hA4 hR4
        go_wp2
        go_roundw
        case rel =>
          refine ⟨k + 1, by omega, by go_num, fun i hi h => ?_, (hb24.drew)⟩
          by_cases e : i = k
          · subst e; rw [HDE.out]; exact HE.out
          · exact HN.out i hi (by omega)
        case measure => simp [intOf]; omega
      · have HNC : Hid (Calls Tryz.prog (chNames ch) #[chIn ch] w4.drew fun e w' => ∃ v, e = .returned v ∧ SV w' v (namesOf ch) ∧ Below w4.heap.size w4 w') := (names_any ch w4.drew (hch4.below ((Below.refl _ w4).drew) (Nat.le_refl _)) HCS.out).mono fun e w' ⟨v, h1, h2, h3⟩ => ⟨v, h1, h2, (Below.refl _ w4).drew.trans h3⟩
        have HE : Hid (needB (nm, ch) ⟨ia, ib, ic, id⟩ (dn, dc) = (namesOf ch).any (leansB ⟨ia, ib, ic, id⟩ (killsOf dc))) := by show _ = _; unfold needB; simp only; rw [hbq]; rfl
        have me1 := meth_names ch
        have me2 := meth_kills dc
        have en1 := enter_names ch
        have en2 := enter_kills dc
        refine wpZ_take 4 _ (v := .bool true) rfl (by kernel_rfl) (by kernel_rfl) (by kernel_rfl) (fun _ _ _ h => h) (by kernel_rfl) (by decide) hS4 rfl (fun w0 hS0 => ?hy) ?_
        case hy =>
          obtain ⟨a0, a1, d0, d1, r0, r1, r2, r3⟩ := hS0
          go_simp
        simp only [Act.put]
        refine wpZ_take 5 _ (v := .bool true) rfl (by kernel_rfl) (by kernel_rfl) (by kernel_rfl) (fun _ _ _ h => h) (by kernel_rfl) (by decide) hS4 rfl (fun w0 hS0 => ?hy) ?_
        case hy =>
          obtain ⟨a0, a1, d0, d1, r0, r1, r2, r3⟩ := hS0
          go_simp
        simp only [Act.put]
        refine wpZ_take 6 _ (v := ?v6) rfl (by kernel_rfl) (by kernel_rfl) (by kernel_rfl) (fun _ _ _ h => h) (by kernel_rfl) (by decide) hS4 (by kernel_rfl) (fun w0 hS0 => ?hy) ?_
        case hy =>
          obtain ⟨a0, a1, d0, d1, r0, r1, r2, r3⟩ := hS0
          go_simp
          with_reducible rfl
        simp only [Act.put]
        refine wpZ_take 7 _ (v := ?v7) rfl (by kernel_rfl) (by kernel_rfl) (by kernel_rfl) (fun _ _ _ h => h) (by kernel_rfl) (by decide) hS4 (by kernel_rfl) (fun w0 hS0 => ?hy) ?_
        case hy =>
          obtain ⟨a0, a1, d0, d1, r0, r1, r2, r3⟩ := hS0
          go_simp
          with_reducible rfl
        simp only [Act.put]
        refine wpZ_take 9 _ (v := ?v9) rfl (by kernel_rfl) (by kernel_rfl) (by kernel_rfl) (fun _ _ _ h => h) (by kernel_rfl) (by decide) hS4 (by kernel_rfl) (fun w0 hS0 => ?hy) ?_
        case hy =>
          obtain ⟨a0, a1, d0, d1, r0, r1, r2, r3⟩ := hS0
          go_simp
          with_reducible rfl
        simp only [Act.put]
        refine wpZ_take 10 _ (v := ?v10) rfl (by kernel_rfl) (by kernel_rfl) (by kernel_rfl) (fun _ _ _ h => h) (by kernel_rfl) (by decide) hS4 (by kernel_rfl) (fun w0 hS0 => ?hy) ?_
        case hy =>
          obtain ⟨a0, a1, d0, d1, r0, r1, r2, r3⟩ := hS0
          go_simp
          with_reducible rfl
        simp only [Act.put]
        refine wpZ_take 11 _ (v := ?v11) rfl (by kernel_rfl) (by kernel_rfl) (by kernel_rfl) (fun _ _ _ h => h) (by kernel_rfl) (by decide) hS4 (by kernel_rfl) (fun w0 hS0 => ?hy) ?_
        case hy =>
          obtain ⟨a0, a1, d0, d1, r0, r1, r2, r3⟩ := hS0
          go_simp
          with_reducible rfl
        simp only [Act.put]
        refine wpZ_take 12 _ (v := ?v12) rfl (by kernel_rfl) (by kernel_rfl) (by kernel_rfl) (fun _ _ _ h => h) (by kernel_rfl) (by decide) hS4 (by kernel_rfl) (fun w0 hS0 => ?hy) ?_
        case hy =>
          obtain ⟨a0, a1, d0, d1, r0, r1, r2, r3⟩ := hS0
          go_simp
          with_reducible rfl
        simp only [Act.put]
        refine wpZ_one 8 _ rfl (by kernel_rfl) (fun KK hK => ?_)
        go_simp
        refine HNC.out.mono ?_
        rintro e w5 ⟨v5, rfl, hv5, hb5⟩
        clear HNC
        dsimp only
        have hS5 : NeedS w.heap.size wr.heap.size nm dn ch dc ⟨ia, ib, ic, id⟩ w5 := NeedS.of ((hb5.block _ (by omega)).trans hA4) ((hb5.block _ (by omega)).trans hR4) ((hb5.block _ hs4).trans HK4.out)
        refine hK.out _ _ (fun _ => hS5) ?_
        clear hK
        have HKC : Hid (Calls Tryz.prog (chKills dc) #[chIn dc] w5 fun e w' => ∃ v, e = .returned v ∧ SV w' v (killsOf dc) ∧ Below w5.heap.size w5 w') := kills_any dc w5 (hok4.below hb5 (Nat.le_refl _)) hds
        refine wpZ_one 13 _ rfl (by kernel_rfl) (fun KK hK => ?_)
        go_simp
        refine HKC.out.mono ?_
        rintro e w6 ⟨v6, rfl, hv6, hb6⟩
        clear HKC
        dsimp only
        have hb46 : Below w4.heap.size w4 w6 := hb5.trans (hb6.mono hb5.size)
        have hS6 : NeedS w.heap.size wr.heap.size nm dn ch dc ⟨ia, ib, ic, id⟩ w6 := NeedS.of ((hb46.block _ (by omega)).trans hA4) ((hb46.block _ (by omega)).trans hR4) ((hb46.block _ hs4).trans HK4.out)
        refine hK.out _ _ (fun _ => hS6) ?_
        clear hK
        have HLC : Hid (Calls Tryz.prog 226 #[v5, .agg #[.int .u8 ia, .int .u8 ib, .int .u8 ic, .int .u8 id], v6] w6 fun e w' => e = .returned (.bool ((namesOf ch).any (leansB ⟨ia, ib, ic, id⟩ (killsOf dc)))) ∧ Below w6.heap.size w6 w') := leans226_any (namesOf ch) ⟨ia, ib, ic, id⟩ (killsOf dc) v5 v6 w6 (hv5.below hb6 (Nat.le_refl _)) hv6 (names_len HCS.out) (kills_len hds)
        obtain ⟨bn, hbn⟩ : ∃ b, (namesOf ch).any (leansB ⟨ia, ib, ic, id⟩ (killsOf dc)) = b := ⟨_, rfl⟩
        rw [hbn] at HLC HE
        refine wpZ_one 14 _ rfl (by kernel_rfl) (fun KK hK => ?_)
        go_simp
        refine HLC.out.mono ?_
        rintro e w7 ⟨rfl, hb7⟩
        clear HLC
        dsimp only
        have hb47 : Below w4.heap.size w4 w7 := hb46.trans (hb7.mono hb46.size)
        have hS7 : NeedS w.heap.size wr.heap.size nm dn ch dc ⟨ia, ib, ic, id⟩ w7 := NeedS.of ((hb47.block _ (by omega)).trans hA4) ((hb47.block _ (by omega)).trans hR4) ((hb47.block _ hs4).trans HK4.out)
        refine hK.out _ _ (fun _ => hS7) ?_
        clear hK
        refine wpZ_one 15 _ rfl (by kernel_rfl) (fun KK hK => ?_)
        go_simp
        refine hK.out _ _ (fun _ => hS7) ?_
        clear hK
        refine wpZ_done (by kernel_rfl) ?_ _
        have hb27 : Below w2.heap.size w2 w7 := hb24.trans (hb47.mono hb24.size)
        clear hS4 hS5 hS6 hS7 hA4 hR4 hv5 hv6 hbn me1 me2 en1 en2
        cases bn
        · go_wp2
          go_roundw
          case rel =>
            refine ⟨k + 1, by omega, by go_num, fun i hi h => ?_, hb27⟩
            by_cases e : i = k
            · subst e; rw [HDE.out]; exact HE.out
            · exact HN.out i hi (by omega)
          case measure => simp [intOf]; omega
        · go_wp2
          go_ret
          refine ⟨?_, hb2.trans (hb27.mono hb2.size)⟩
          have : (Cs.any (needB (nm, ch) ⟨ia, ib, ic, id⟩)) = true := List.any_eq_true.2 ⟨_, List.getElem_mem hlt, by rw [HDE.out]; exact HE.out⟩
          rw [this]
          rfl
    · obtain rfl : k = Cs.length := by omega
      go_wp2
      go_ret
      refine ⟨?_, hbw0⟩
      have : (Cs.any (needB (nm, ch) ⟨ia, ib, ic, id⟩)) = false := by
        rw [List.any_eq_false]
        intro x hx
        obtain ⟨j, hj, rfl⟩ := List.getElem_of_mem hx
        rw [HN.out j hj hj]
        simp
      rw [this]
      rfl

/-- A patch needs another one. -/
def needsP (P Q : PM) : Bool := P.Cs.any fun c => Q.Cs.any (needB c Q.id)
theorem needs_iff (P Q : PM) : needsP P Q = true ↔ NeedsP P Q := by
  unfold needsP NeedsP leansOn needB leansB
  simp only [List.any_eq_true, Bool.and_eq_true, decide_eq_true_eq, Bool.or_eq_true]

set_option maxRecDepth 100000 in
theorem needs185_any (c : ByteArray × ChM) (Q : PM) (qb : Nat) (w : World) (hq : w.heap[qb]? = some (.cells #[.int .u8 Q.id.a, .int .u8 Q.id.b, .int .u8 Q.id.c, .int .u8 Q.id.d, Q.cv] 149 (0, 0))) (hc : ChOK w c.2) (hcs : ChSmall c.2) (hQ : CV w Q.cv Q.Cs) (hQs : ∀ d ∈ Q.Cs, ChSmall d.2) (hl : Q.Cs.length ≤ 1000) :
    Calls Tryz.prog 185 #[ncV c, .pointer (some ⟨qb, 0, none⟩)] w fun e w' => e = .returned (.bool (Q.Cs.any (needB c Q.id))) ∧ Below w.heap.size w w' := by
  have hqb := (Array.getElem?_eq_some_iff.1 hq).1
  obtain ⟨w1, hw1⟩ : ∃ w1, w1 = w.alloc (.cells #[.string c.1, .iface (chT c.2) (chIn c.2)] 226) := ⟨_, rfl⟩
  have hb1 : Below w.heap.size w w1 := by rw [hw1]; exact (Below.refl _ _).alloc (Nat.le_refl _) _
  have hk1 := (MapKept.heap_alloc w (.cells #[.string c.1, .iface (chT c.2) (chIn c.2)] 226)).1
  rw [← hw1] at hk1
  obtain ⟨d0, d1⟩ := cells2_of hk1
  obtain ⟨q0, q1, q2, q3, q4⟩ := cells5_of ((hb1.block qb hqb).trans hq)
  have HC : Hid (Calls Tryz.prog 186 #[.agg #[.string c.1, .iface (chT c.2) (chIn c.2)], .agg #[.int .u8 Q.id.a, .int .u8 Q.id.b, .int .u8 Q.id.c, .int .u8 Q.id.d, Q.cv]] w1 fun e w' => e = .returned (.bool (Q.Cs.any (needB c Q.id))) ∧ Below w1.heap.size w1 w') := needs186_any c Q w1 (hc.below hb1 (Nat.le_refl _)) hcs (hQ.below hb1 (Nat.le_refl _)) hQs hl
  obtain ⟨ca, cc, hcv, _⟩ := hQ
  rw [hcv] at q4 HC
  clear hk1 hq hc
  unfold ncV chV
  subst hw1
  go_enter Tryz.func185, Tryz.ntmps185
  go_wp2_with fail
  refine HC.out.mono ?_
  rintro e w' ⟨rfl, hb⟩
  clear HC d0 d1 q0 q1 q2 q3 q4
  go_wp2
  go_ret
  exact ⟨rfl, hb1.trans (hb.mono hb1.size)⟩

set_option maxRecDepth 100000 in
theorem needs121_any (P Q : PM) (w : World) (hP : CV w P.cv P.Cs) (hPs : ∀ d ∈ P.Cs, ChSmall d.2) (hQ : CV w Q.cv Q.Cs) (hQs : ∀ d ∈ Q.Cs, ChSmall d.2) (hlP : P.Cs.length ≤ 1000) (hl : Q.Cs.length ≤ 1000) :
    Calls Tryz.prog 121 #[pmV P, pmV Q] w fun e w' => e = .returned (.bool (needsP P Q)) ∧ Below w.heap.size w w' := by
  have hP0 := hP
  have hQ0 := hQ
  obtain ⟨pa, pc, hpv, hpp⟩ := hP
  obtain ⟨qa, qc, hqv, _⟩ := hQ
  unfold pmV
  obtain ⟨w2, hw2⟩ : ∃ w2, w2 = (w.alloc (.cells #[.int .u8 P.id.a, .int .u8 P.id.b, .int .u8 P.id.c, .int .u8 P.id.d, .slice pa P.Cs.length pc] 149)).alloc (.cells #[.int .u8 Q.id.a, .int .u8 Q.id.b, .int .u8 Q.id.c, .int .u8 Q.id.d, .slice qa Q.Cs.length qc] 149) := ⟨_, rfl⟩
  obtain ⟨hb2, hs2, hA, hR⟩ := two_blocks' w _ _ hw2
  have c4 : w2.cell? ⟨w.heap.size, 4, none⟩ = some (.slice pa P.Cs.length pc) := (cells5_of hA).2.2.2.2
  have HC : Hid (Calls Tryz.prog 184 #[.slice pa P.Cs.length pc, .func (.func 185) #[] #[.pointer (some ⟨w.heap.size + 1, 0, none⟩)]] w2 fun e w' => e = .returned (.bool (needsP P Q)) ∧ Below w2.heap.size w2 w') := by
    rw [← hpv]
    refine anyf184_any P.Cs (fun c => Q.Cs.any (needB c Q.id)) 185 _ (fun _ _ => by kernel_rfl) P.cv w2 (hP0.below hb2 (Nat.le_refl _)) (by omega) (fun c hc u hu => ?_)
    have hbu : Below w.heap.size w u := hb2.trans (hu.mono hb2.size)
    refine needs185_any c Q (w.heap.size + 1) u ?_ ?_ (hPs c hc) (hQ0.below hbu (Nat.le_refl _)) hQs hl
    · rw [hqv]
      exact (hu.block _ (by omega)).trans hR
    · obtain ⟨k, hk⟩ := List.mem_iff_getElem?.1 hc
      obtain ⟨_, _, _, _, _, _, hok⟩ := hpp k c hk
      exact hok.below hbu (Nat.le_refl _)
  rw [hpv, hqv]
  clear hP0 hQ0 hpp hA hR
  go_enter Tryz.func121, Tryz.ntmps121
  go_wp2_with fail
  rw [← hw2]
  clear hw2
  go_wp2_with fail
  refine HC.out.mono ?_
  rintro e w' ⟨rfl, hb⟩
  clear HC c4
  go_wp2
  go_ret
  exact ⟨rfl, hb2.trans (hb.mono hb2.size)⟩
end Go.Proofs.YtgdfipmdmgkidaaGreatDoor

/- Mathematics: patches that were recorded one behind the other: what each record keeps. -/
namespace Go.Proofs.YtgdfipmdmgkidaaGreatDoor
open Go.RowKit

/-- What holds of patches and of what they make. -/
structure GoodT (Ps : List PM) (s : ByteArray → PL) : Prop where
  cells : ∀ x, CellsOK (Ps.map (·.id)) (s x)
  named : ∀ P ∈ Ps, ∀ c ∈ P.Cs, NamedOK (Ps.map (·.id)) c.2 (s c.1)
  noz : zid ∉ Ps.map (·.id)
  small : ∀ P ∈ Ps, P.Cs.length ≤ 1000 ∧ ∀ c ∈ P.Cs, ChSmall c.2
  len : ∀ x, (s x).S.length ≤ 20 * Ps.length
  lines : ∀ x, (rowLines (s x).S).length ≤ 20
  lsz : ∀ x, ∀ l ∈ rowLines (s x).S, l.size ≤ 1000
theorem GoodT.nil : GoodT [] (fun _ => pl0) :=
  ⟨fun _ => ⟨by simp [pl0], by simp [pl0], (fun h => by cases h), .inr rfl, by simp [pl0]⟩, by simp, by simp, by simp, fun _ => by simp [pl0], fun _ => by simp [pl0, rowLines, living, livTo], fun _ => by simp [pl0, rowLines, living, livTo]⟩

theorem made_up {p : PL} {i : Pid} {n n' : Int} {there : Bool} {text : ByteArray} {c : ChM} (h : ChMade p i n there text c n') : n ≤ n' := by
  cases c with
  | add i' l rv S => obtain ⟨_, _, _, _, rfl⟩ := h; omega
  | remove i' rv S => obtain ⟨_, _, _, _, rfl⟩ := h; omega
  | alter i' hv Hs =>
    obtain ⟨_, _, _, Q, _, _, rfl⟩ := h
    exact numTo_le _ _ _
theorem made_chsmall {ids : List Pid} {p : PL} (h : CellsOK ids p) {i : Pid} (hi : i ∉ ids) (hz : zid ∉ ids) (hiz : i ≠ zid) {n n' : Int} {there : Bool} {text : ByteArray} {c : ChM} (hc : ChMade p i n there text c n') (hS : p.S.length ≤ 900) (hR : (rowLines p.S).length ≤ 90) (hN : (cutAll text).length ≤ 20) : ChSmall c := by
  cases c with
  | add i' l rv S =>
    obtain ⟨_, _, _, rfl, _⟩ := hc
    show (bring i n (cutAll text)).length ≤ 100000
    rw [bring_len]
    omega
  | remove i' rv S =>
    obtain ⟨_, _, _, rfl, _⟩ := hc
    show p.S.length ≤ 100000
    omega
  | alter i' hv Hs =>
    obtain ⟨h1, h2, rfl, Q, hg, hm, _⟩ := hc
    have hF := nodup_of_map (cids_framed h hz)
    have hid := fresh_framed h hi hiz
    obtain ⟨s1, _, _⟩ := made_steps2 hm hg hF hid (by omega) (by omega) (by omega)
    have hQ := hg.len (Nat.zero_le _) (Nat.zero_le _)
    have hHs : Hs.length = Q.length := hm.1
    refine ⟨by omega, fun x hx => ?_⟩
    obtain ⟨k, hk⟩ := List.mem_iff_getElem?.1 hx
    obtain ⟨_, _, _, _, _, h2', _⟩ := s1.step k x hk
    obtain ⟨q, _, e, _⟩ := hm.2 k x hk
    refine ⟨?_, h2'⟩
    rw [e]
    have : (namedOf (framed p.S) q).length ≤ (framed p.S).length := by unfold namedOf; simp; omega
    have : (framed p.S).length = p.S.length + 2 := by simp [framed]
    omega

/-- A file that may be recorded. -/
structure FlGood (s : ByteArray → PL) (g : Fl) : Prop where
  lines : (cutAll g.text).length ≤ 20
  there : (s g.name).alive = false → g.there = true
  lsz : ∀ l ∈ cutAll g.text, l.size ≤ 1000

theorem MadeAll.pos {s : ByteArray → PL} {i : Pid} {Fs : List Fl} {Cs : List (ByteArray × ChM)} {m : Nat → Int} (h : MadeAll s i Fs Cs m) : ∀ k, k ≤ Cs.length → 0 ≤ m k
  | 0, _ => by rw [h.zero]; exact Int.le_refl _
  | k + 1, hk => by
    have ih := MadeAll.pos h k (by omega)
    have hkF : k < Fs.length := by rw [← h.len]; omega
    obtain ⟨_, hc⟩ := h.at_ k _ _ (List.getElem?_eq_getElem hkF) (List.getElem?_eq_getElem (by omega))
    exact Int.le_trans ih (made_up hc)

/-- What is kept behind the first changes of a patch. -/
noncomputable def stAt (s : ByteArray → PL) (Cs : List (ByteArray × ChM)) (P' : Nat → PL) (k : Nat) (x : ByteArray) : PL := match (Cs.take k).findIdx? (fun c => decide (c.1 = x)) with
  | some j => P' j
  | none => s x
theorem stAt_zero (s : ByteArray → PL) (Cs : List (ByteArray × ChM)) (P' : Nat → PL) : stAt s Cs P' 0 = s := by
  funext x
  simp [stAt]
theorem names_inj {Cs : List (ByteArray × ChM)} (hnd : (Cs.map (·.1)).Nodup) {j k : Nat} {c d : ByteArray × ChM} (hj : Cs[j]? = some c) (hk : Cs[k]? = some d) (e : c.1 = d.1) : j = k := by
  obtain ⟨h1, h1'⟩ := List.getElem?_eq_some_iff.1 hj
  obtain ⟨h2, h2'⟩ := List.getElem?_eq_some_iff.1 hk
  rw [List.Nodup, List.pairwise_map] at hnd
  have hp := List.pairwise_iff_getElem.1 hnd
  rcases Nat.lt_trichotomy j k with h | h | h
  · exact absurd (by rw [h1', h2']; exact e) (hp j k h1 h2 h)
  · exact h
  · exact absurd (by rw [h1', h2']; exact e.symm) (hp k j h2 h1 h)
theorem stAt_hit {s : ByteArray → PL} {Cs : List (ByteArray × ChM)} {P' : Nat → PL} (hnd : (Cs.map (·.1)).Nodup) {j k : Nat} {c : ByteArray × ChM} (hj : Cs[j]? = some c) (hjk : j < k) : stAt s Cs P' k c.1 = P' j := by
  have : (Cs.take k).findIdx? (fun d => decide (d.1 = c.1)) = some j := by
    have hl := (List.getElem?_eq_some_iff.1 hj).1
    have hl2 : j < (Cs.take k).length := by rw [List.length_take]; omega
    have e : (Cs.take k)[j] = c := by
      rw [List.getElem_take]
      exact (List.getElem?_eq_some_iff.1 hj).2
    refine find_hit hl2 (by simp [e]) (fun t ht htj => ?_)
    rw [List.getElem_take]
    simp only [decide_eq_false_iff_not]
    intro e2
    have ht2 : t < Cs.length := by rw [List.length_take] at ht; omega
    have := names_inj hnd (List.getElem?_eq_getElem ht2) hj e2
    omega
  simp only [stAt, this]
theorem stAt_miss {s : ByteArray → PL} {Cs : List (ByteArray × ChM)} {P' : Nat → PL} {k : Nat} {x : ByteArray} (h : ∀ (j : Nat) (c : ByteArray × ChM), j < k → Cs[j]? = some c → c.1 ≠ x) : stAt s Cs P' k x = s x := by
  have : (Cs.take k).findIdx? (fun d => decide (d.1 = x)) = none := by
    refine find_miss (fun t ht => ?_)
    rw [List.getElem_take]
    have h2 : t < k ∧ t < Cs.length := by rw [List.length_take] at ht; omega
    simpa using h t _ h2.1 (List.getElem?_eq_getElem h2.2)
  simp only [stAt, this]

section
variable {Ps : List PM} {s : ByteArray → PL} {i : Pid} {Fs : List Fl} {Cs : List (ByteArray × ChM)} {m : Nat → Int}
theorem good_next (h : GoodT Ps s) (hl : Ps.length ≤ 40) (hi : i ∉ Ps.map (·.id)) (hiz : i ≠ zid) (hF : ∀ g ∈ Fs, FlGood s g) (hM : MadeAll s i Fs Cs m) :
    ∃ P' : Nat → PL, ∀ (k : Nat) (g : Fl) (c : ByteArray × ChM), Fs[k]? = some g → Cs[k]? = some c → ApplyP c.2 (s c.1) (P' k) ∧ CellsOK (Ps.map (·.id) ++ [i]) (P' k) ∧ (∀ x ∈ liveC (P' k), x ∈ liveC (s c.1) ∨ x.1 = i) ∧ (P' k).alive = g.there ∧ (g.there = true → rowLines (P' k).S = cutAll g.text) ∧ (P' k).S.length ≤ (s c.1).S.length + (cutAll g.text).length := by
  have : ∀ k : Nat, ∃ p' : PL, ∀ (g : Fl) (c : ByteArray × ChM), Fs[k]? = some g → Cs[k]? = some c → ApplyP c.2 (s c.1) p' ∧ CellsOK (Ps.map (·.id) ++ [i]) p' ∧ (∀ x ∈ liveC p', x ∈ liveC (s c.1) ∨ x.1 = i) ∧ p'.alive = g.there ∧ (g.there = true → rowLines p'.S = cutAll g.text) ∧ p'.S.length ≤ (s c.1).S.length + (cutAll g.text).length := fun k => by
    by_cases hk : k < Cs.length
    · have hkF : k < Fs.length := by rw [← hM.len]; exact hk
      obtain ⟨e1, hc⟩ := hM.at_ k _ _ (List.getElem?_eq_getElem hkF) (List.getElem?_eq_getElem hk)
      have hg := hF _ (List.getElem_mem hkF)
      have hlen := h.len Fs[k].name
      have hlin := h.lines Fs[k].name
      obtain ⟨p', h'⟩ := made_next (h.cells Fs[k].name) hi h.noz hiz (hM.pos k (by omega)) hc hg.there (by omega) (by omega) hg.lines
      refine ⟨p', fun g c hg' hc' => ?_⟩
      rw [List.getElem?_eq_getElem hkF] at hg'
      rw [List.getElem?_eq_getElem hk] at hc'
      cases hg'
      cases hc'
      rw [e1]
      exact h'
    · exact ⟨pl0, fun g c _ hc' => by rw [List.getElem?_eq_none (by omega)] at hc'; cases hc'⟩
  exact ⟨fun k => (this k).choose, fun k => (this k).choose_spec⟩

/-- A patch is recorded. -/
theorem good_record (h : GoodT Ps s) (hl : Ps.length < 40) (hi : i ∉ Ps.map (·.id)) (hiz : i ≠ zid) (hF : ∀ g ∈ Fs, FlGood s g) (hM : MadeAll s i Fs Cs m) (hnd : (Cs.map (·.1)).Nodup) (hFs : Fs.length ≤ 50) (cv : Value) :
    ∃ P' : Nat → PL, (∀ (k : Nat) (c : ByteArray × ChM), Cs[k]? = some c → ApplyP c.2 (stAt s Cs P' k c.1) (stAt s Cs P' (k + 1) c.1)) ∧ GoodT (Ps ++ [⟨i, cv, Cs⟩]) (stAt s Cs P' Cs.length) ∧
      (∀ (k : Nat) (g : Fl), Fs[k]? = some g → (stAt s Cs P' Cs.length g.name).alive = g.there ∧ (g.there = true → rowLines (stAt s Cs P' Cs.length g.name).S = cutAll g.text)) ∧ (∀ x, (∀ g ∈ Fs, g.name ≠ x) → stAt s Cs P' Cs.length x = s x) ∧
      ∀ Q ∈ Ps ++ [⟨i, cv, Cs⟩], needsP Q ⟨i, cv, Cs⟩ = false := by
  obtain ⟨P', hP'⟩ := good_next h (by omega) hi hiz hF hM
  have fl : ∀ (k : Nat) (c : ByteArray × ChM), Cs[k]? = some c → ∃ g, Fs[k]? = some g ∧ c.1 = g.name ∧ ChMade (s g.name) i (m k) g.there g.text c.2 (m (k + 1)) := fun k c hk => by
    have hkF : k < Fs.length := by rw [← hM.len]; exact (List.getElem?_eq_some_iff.1 hk).1
    exact ⟨_, List.getElem?_eq_getElem hkF, hM.at_ k _ c (List.getElem?_eq_getElem hkF) hk⟩
  have before : ∀ (k : Nat) (c : ByteArray × ChM), Cs[k]? = some c → stAt s Cs P' k c.1 = s c.1 := fun k c hk => stAt_miss fun j d hj hd e => by
    have := names_inj hnd hd hk e
    omega
  have final : ∀ (k : Nat) (c : ByteArray × ChM), Cs[k]? = some c → stAt s Cs P' Cs.length c.1 = P' k := fun k c hk => stAt_hit hnd hk (List.getElem?_eq_some_iff.1 hk).1
  -- of a name: it is changed, or it is as it was
  have cases_ : ∀ x, (∃ (k : Nat) (c : ByteArray × ChM) (g : Fl), Cs[k]? = some c ∧ Fs[k]? = some g ∧ c.1 = x ∧ stAt s Cs P' Cs.length x = P' k) ∨ stAt s Cs P' Cs.length x = s x := fun x => by
    by_cases hx : ∃ (k : Nat) (c : ByteArray × ChM), Cs[k]? = some c ∧ c.1 = x
    · obtain ⟨k, c, hk, rfl⟩ := hx
      obtain ⟨g, hg, _⟩ := fl k c hk
      exact .inl ⟨k, c, g, hk, hg, rfl, final k c hk⟩
    · exact .inr (stAt_miss fun j c _ hc e => hx ⟨j, c, hc, e⟩)
  have ids : (Ps ++ [(⟨i, cv, Cs⟩ : PM)]).map (·.id) = Ps.map (·.id) ++ [i] := by simp
  have live : ∀ x y, y ∈ liveC (stAt s Cs P' Cs.length x) → y ∈ liveC (s x) ∨ y.1 = i := fun x y hy => by
    rcases cases_ x with ⟨k, c, g, hk, hg, rfl, e⟩ | e
    · rw [e] at hy
      exact (hP' k g c hg hk).2.2.1 y hy
    · rw [e] at hy
      exact .inl hy
  have wid : ∀ c x, NamedOK (Ps.map (·.id)) c (s x) → NamedOK (Ps.map (·.id) ++ [i]) c (stAt s Cs P' Cs.length x) := fun c x hN t ht => by
    obtain ⟨h1, h2⟩ := hN t ht
    refine ⟨h1.elim (fun a => .inl (List.mem_append_left _ a)) .inr, fun hd hlv => ?_⟩
    rcases live x _ hlv with a | a
    · exact h2 hd a
    · have a' : sid t = i := a
      rcases h1 with b | b
      · exact hi (a' ▸ b)
      · exact hiz (a'.symm.trans b)
  have newN : ∀ c ∈ Cs, NamedOK (Ps.map (·.id)) c.2 (s c.1) := fun c hc => by
    obtain ⟨k, hk⟩ := List.mem_iff_getElem?.1 hc
    obtain ⟨g, _, e, hcm⟩ := fl k c hk
    rw [e]
    exact made_names (h.cells g.name) hcm
  refine ⟨P', fun k c hk => ?_, ⟨fun x => ?_, fun P hP c hc => ?_, ?_, fun P hP => ?_, fun x => ?_, fun x => ?_, fun x => ?_⟩, fun k g hg => ?_, fun x hx => ?_, fun Q hQ => ?_⟩
  · obtain ⟨g, hg, _⟩ := fl k c hk
    rw [before k c hk, stAt_hit hnd hk (Nat.lt_succ_self k)]
    exact (hP' k g c hg hk).1
  · rw [ids]
    rcases cases_ x with ⟨k, c, g, hk, hg, rfl, e⟩ | e
    · rw [e]
      exact (hP' k g c hg hk).2.1
    · rw [e]
      have hc := h.cells x
      exact ⟨hc.nd, fun t ht => ⟨List.mem_append_left _ (hc.own t ht).1, (hc.own t ht).2⟩, fun ha => List.mem_append_left _ (hc.byA ha), hc.byZ.elim (fun a => .inl (List.mem_append_left _ a)) .inr, hc.dead⟩
  · rw [ids]
    rcases List.mem_append.1 hP with hP | hP
    · exact wid _ _ (h.named P hP c hc)
    · rw [List.mem_singleton.1 hP] at hc
      exact wid _ _ (newN c hc)
  · rw [ids, List.mem_append, List.mem_singleton]
    rintro (a | a)
    · exact h.noz a
    · exact hiz a.symm
  · rcases List.mem_append.1 hP with hP | hP
    · exact h.small P hP
    · rw [List.mem_singleton.1 hP]
      refine ⟨by show Cs.length ≤ 1000; rw [hM.len]; omega, fun c hc => ?_⟩
      obtain ⟨k, hk⟩ := List.mem_iff_getElem?.1 hc
      obtain ⟨g, hg, e, hcm⟩ := fl k c hk
      have hlen := h.len g.name
      have hlin := h.lines g.name
      exact made_chsmall (h.cells g.name) hi h.noz hiz hcm (by omega) (by omega) (hF g (List.mem_of_getElem? hg)).lines
  · rw [List.length_append, List.length_singleton]
    rcases cases_ x with ⟨k, c, g, hk, hg, rfl, e⟩ | e
    · rw [e]
      have h1 := (hP' k g c hg hk).2.2.2.2.2
      have h2 := h.len c.1
      have h3 := (hF g (List.mem_of_getElem? hg)).lines
      omega
    · rw [e]
      have := h.len x
      omega
  · rcases cases_ x with ⟨k, c, g, hk, hg, rfl, e⟩ | e
    · rw [e]
      obtain ⟨_, hco, _, hal, hli, _⟩ := hP' k g c hg hk
      cases hth : g.there with
      | true =>
        rw [hli hth]
        exact (hF g (List.mem_of_getElem? hg)).lines
      | false =>
        have hd := hco.dead (by rw [hal, hth])
        have : rowLines (P' k).S = [] := by
          rw [rowLines_eq]
          unfold aliveOf
          rw [List.filter_eq_nil_iff.2 (fun t ht => by rw [hd t ht]; simp)]
          rfl
        rw [this]
        simp
    · rw [e]
      exact h.lines x
  · rcases cases_ x with ⟨k, c, g, hk, hg, rfl, e⟩ | e
    · rw [e]
      obtain ⟨_, hco, _, hal, hli, _⟩ := hP' k g c hg hk
      cases hth : g.there with
      | true =>
        rw [hli hth]
        exact (hF g (List.mem_of_getElem? hg)).lsz
      | false =>
        have hd := hco.dead (by rw [hal, hth])
        have : rowLines (P' k).S = [] := by
          rw [rowLines_eq]
          unfold aliveOf
          rw [List.filter_eq_nil_iff.2 (fun t ht => by rw [hd t ht]; simp)]
          rfl
        rw [this]
        simp
    · rw [e]
      exact h.lsz x
  · have hkC : k < Cs.length := by rw [hM.len]; exact (List.getElem?_eq_some_iff.1 hg).1
    obtain ⟨e1, _⟩ := hM.at_ k g _ hg (List.getElem?_eq_getElem hkC)
    have e2 := final k _ (List.getElem?_eq_getElem hkC)
    rw [e1] at e2
    rw [e2]
    have := hP' k g _ hg (List.getElem?_eq_getElem hkC)
    exact ⟨this.2.2.2.1, this.2.2.2.2.1⟩
  · refine stAt_miss fun j c _ hc e => ?_
    obtain ⟨g, hg, e2, _⟩ := fl j c hc
    exact hx g (List.mem_of_getElem? hg) (e2.symm.trans e)
  · cases hn : needsP Q ⟨i, cv, Cs⟩ with
    | false => rfl
    | true =>
      exfalso
      obtain ⟨c, hc, d, hd, he, t, ht, hlean⟩ := (needs_iff Q _).1 hn
      simp only at hd hlean
      have hcN : NamedOK (Ps.map (·.id)) c.2 (s c.1) := by
        rcases List.mem_append.1 hQ with hQ | hQ
        · exact h.named Q hQ c hc
        · rw [List.mem_singleton.1 hQ] at hc
          exact newN c hc
      obtain ⟨h1, h2⟩ := hcN t ht
      rcases hlean with hlean | hlean
      · rcases h1 with b | b
        · exact hi (hlean ▸ b)
        · exact hiz (hlean.symm.trans b)
      · obtain ⟨k, hk⟩ := List.mem_iff_getElem?.1 hd
        obtain ⟨g, _, e, hcm⟩ := fl k d hk
        obtain ⟨hdead, hlv⟩ := made_kills (h.cells g.name) hcm t hlean
        rw [← e, ← he] at hlv
        exact h2 hdead hlv
end
end Go.Proofs.YtgdfipmdmgkidaaGreatDoor
