/- A file is written. -/
import Derived.Test.YtgdfipmdmgkidaaGreatDoorPwords
namespace Go.Proofs.YtgdfipmdmgkidaaGreatDoor
open Go.RowKit

set_option maxRecDepth 100000 in
set_option maxHeartbeats 3200000 in
theorem write27_yes (f : ByteArray → Option ByteArray) (fb fn rb ro : Nat) (name text : ByteArray) (w : World) (h : FK w fb f fn) (hfn : fn ≤ 1000) (hr : w.cell? ⟨rb, ro + 1, none⟩ = some (.map (some fb))) (hrb : rb < w.heap.size) (hs : name.size ≤ 1000) (hn : nameB name = true) (hl : linesOk text = true) (hf : (f name).isSome = true ∨ fn < 5) :
    Calls Tryz.prog 43 #[.pointer (some ⟨rb, ro, none⟩), .string name, .string text] w fun e w' => e = .returned (.int .i64 0) ∧ ∃ u, Below w.heap.size w u ∧ FK w' fb (fun x => if x = name then some text else f x) (fn + 1) ∧ u.grownBy w' (some fb) := by
  have HN : Hid (Calls Tryz.prog 61 #[.string name] w fun e w' => e = .returned (.bool true) ∧ Below w.heap.size w w') := by
    have := isName42_any name w
    rw [hn] at this
    exact this
  have HL : Hid (∀ u, Calls Tryz.prog 62 #[.string text] u fun e w' => ∃ va vn vc, e = .returned (.tuple #[.slice va vn vc, .bool true]) ∧ Below u.heap.size u w') := fun u => by
    have := lines12_any text u
    rw [hl] at this
    refine this.mono ?_
    rintro e w' ⟨v, rfl, h1, h2⟩
    obtain ⟨va, vc, rfl⟩ := own_shape h1
    exact ⟨va, _, vc, rfl, h2⟩
  have HF : Hid (FK w fb f fn) := h
  have hfb := h.lt
  clear hn hl h
  go_enter Tryz.func43, Tryz.ntmps43
  go_wp2_with fail
  refine HN.out.mono ?_
  rintro e w1 ⟨rfl, hb1⟩
  clear HN
  have hs1 := hb1.size
  go_wp2_with fail
  refine (HL.out w1).mono ?_
  rintro e w2 ⟨va, vn, vc, rfl, hb2⟩
  clear HL
  have hb02 : Below w.heap.size w w2 := hb1.trans (hb2.mono hs1)
  have hs2 := hb02.size
  have c2 : w2.cell? ⟨rb, ro + 1, none⟩ = some (.map (some fb)) := (hb02.cell (p := ⟨rb, ro + 1, none⟩) hrb).trans hr
  have hF2 : FK w2 fb f fn := HF.out.same (hb02.block fb hfb)
  have hlk := hF2.look name (by omega)
  obtain ⟨t, ht⟩ : ∃ t, (f name).getD ⟨#[]⟩ = t := ⟨_, rfl⟩
  obtain ⟨w3, hw3⟩ : ∃ w3, w3 = w2.alloc (.cells #[.string t] 105) := ⟨_, rfl⟩
  have hb23 : Below w2.heap.size w2 w3 := by rw [hw3]; exact (Below.refl _ _).alloc (Nat.le_refl _) _
  have hF3 : FK w3 fb f fn := hF2.same (hb23.block fb (by omega))
  have c3 : w3.cell? ⟨rb, ro + 1, none⟩ = some (.map (some fb)) := (hb23.cell (p := ⟨rb, ro + 1, none⟩) (by show rb < _; omega)).trans c2
  obtain ⟨w4, hup, hF4, hg4⟩ := hF3.put (by omega) name text (by omega)
  have HB3 : Hid (Below w.heap.size w w3) := hb02.trans (hb23.mono hs2)
  rw [ht] at hlk
  unfold fileS at hlk hup
  have HF4 : Hid (FK w4 fb (fun x => if x = name then some text else f x) (fn + 1)) := hF4
  have HG4 : Hid (w3.grownBy w4 (some fb)) := hg4
  have hlen : ∃ m : Nat, m ≤ fn ∧ ∀ ty, (Builtin.len_ #[85] ty #[.map (some fb)]).run Tryz.prog w3 = .ok (.int .i64 (m : Nat)) w3 := by
    obtain ⟨D, h1, _⟩ := hF3
    exact ⟨Maps.size D, h1.size_le, fun ty => h1.len Tryz.underlying85 ty⟩
  obtain ⟨m, hm, hlen⟩ := hlen
  have hlen3 := hlen 3
  rw [hw3] at c3 hlen3 hup
  clear hF2 hF3 hF4 hg4 hb23 hb02 hb2 hb1 ht hlen
  cases hth : (f name).isSome
  · rw [hth] at hlk hf
    have h5 : fn < 5 := hf.resolve_left (by simp)
    have h5b : decide ((5 : Int) ≤ (m : Int)) = false := by simp; omega
    clear hf hth
    go_wp2
    go_ret
    exact ⟨rfl, w3, HB3.out, HF4.out, HG4.out⟩
  · rw [hth] at hlk
    clear hf hth
    go_wp2
    go_ret
    exact ⟨rfl, w3, HB3.out, HF4.out, HG4.out⟩

section
variable {B pb rg cap gb : Nat} {pv : Value} {Ps : List PM} {fb fn : Nat} {f : ByteArray → Option ByteArray} {G : List Pid}
set_option maxRecDepth 100000 in
set_option maxHeartbeats 1600000 in
theorem write11_yes {w : World} (h : OneAt w B pb rg cap gb pv Ps fb fn f G) (hB : B ≤ w.heap.size) (name text : ByteArray) (hfn : fn ≤ 1000) (hs : name.size ≤ 1000) (hn : nameB name = true) (hl : linesOk text = true) (hf : (f name).isSome = true ∨ fn < 5) :
    Calls Tryz.prog 16 #[.pointer (some ⟨pb, 0, none⟩), .int .i64 0, .string name, .string text] w fun e w' => e = .returned (.int .i64 0) ∧ OneAt w' B pb rg cap gb pv Ps fb (fn + 1) (fun x => if x = name then some text else f x) G ∧ Below B w w' := by
  have HA : Hid (Calls Tryz.prog 42 #[.pointer (some ⟨pb, 0, none⟩), .int .i64 0] w fun e w' => e = .returned (.bool true) ∧ w' = w) := has26_zero h
  have HW : Hid (Calls Tryz.prog 43 #[.pointer (some ⟨rg, 0, none⟩), .string name, .string text] w fun e w' => e = .returned (.int .i64 0) ∧ OneAt w' B pb rg cap gb pv Ps fb (fn + 1) (fun x => if x = name then some text else f x) G ∧ Below B w w') := by
    refine (write27_yes f fb fn rg 0 name text w h.files hfn h.r1 h.lts.2.1 hs hn hl hf).mono ?_
    rintro e w' ⟨rfl, u, hu, h1, h2⟩
    have hO := h.below hu
    have hus := hu.size
    refine ⟨rfl, hO.map_put h2 hO.files.map (hO.given.same (h2.block gb hO.lts.2.2.1 (by simp; exact h.ne))) h1, (hu.mono hB).trans ⟨h2.os, h2.tape, h2.output, h2.size, fun k hk => h2.block k (by omega) (by have := h.lo; simp; omega)⟩⟩
  have c0 := h.c0
  have hcap := h.cap1
  clear h hn hl hf
  go_enter Tryz.func16, Tryz.ntmps16
  go_wp2_with fail
  refine HA.out.mono ?_
  rintro e w0 ⟨rfl, rfl⟩
  clear HA
  go_wp2_with fail
  refine HW.out.mono ?_
  rintro e w1 ⟨rfl, h2, h3⟩
  clear HW
  have HX : Hid (OneAt w1 B pb rg cap gb pv Ps fb (fn + 1) (fun x => if x = name then some text else f x) G) := h2
  clear h2
  go_wp2
  go_ret
  exact ⟨rfl, HX.out, h3⟩
end
end Go.Proofs.YtgdfipmdmgkidaaGreatDoor

/- A new world of one repository. -/
namespace Go.Proofs.YtgdfipmdmgkidaaGreatDoor
open Go.RowKit

theorem Tryz.info87 : (Tryz.prog.info? 87).map (fun i => (i.zero, i.size, i.bytes)) = some (some (.agg #[.slice none 0 0, .map none]), 2, 32) := by kernel_rfl
theorem cells2_set (w w1 w2 w9 : World) (g : Nat) (t : TypeId) (c : Array Value) (hc : c.size = 2) (x0 x1 : Value) (hg : w.heap[g]? = some (.cells c t (0, 0)))
    (e1 : w1 = w.setCell ⟨g, 0, none⟩ x0) (e2 : w2 = w1.setCell ⟨g, 1, none⟩ x1) (e9 : w9 = w2) :
    w9.heap[g]? = some (.cells #[x0, x1] t (0, 0)) ∧ Over g w w9 := by
  have g1 := heap_setCell_same w g 0 _ t x0 hg
  have o1 := Over.set w g 0 x0
  rw [← e1] at g1 o1
  have g2 := heap_setCell_same w1 g 1 _ t x1 g1
  have o2 := o1.trans (Over.set w1 g 1 x1)
  rw [← e2] at g2 o2
  have ha : (c.setIfInBounds 0 x0).setIfInBounds 1 x1 = #[x0, x1] := by
    obtain ⟨l⟩ := c
    match l, hc with
    | [y0, y1], _ => simp
  rw [ha] at g2
  rw [e9]
  exact ⟨g2, o2⟩

set_option maxRecDepth 100000 in
set_option maxHeartbeats 1600000 in
theorem newRepo25_any (w : World) :
    Calls Tryz.prog 41 #[] w fun e w' => ∃ fb, e = .returned (.agg #[.slice none 0 0, .map (some fb)]) ∧ w.heap.size ≤ fb ∧ FK w' fb (fun _ => none) 0 ∧ Below w.heap.size w w' := by
  have hmm : ∀ w, (Instr.makeMap 85 none).run Tryz.prog w = .ok (.map (some w.heap.size)) (w.alloc (.map #[] 0)) := fun _ => by kernel_rfl
  obtain ⟨w2, hw2⟩ : ∃ w2, w2 = (w.alloc (.cells #[.slice none 0 0, .map (some (w.heap.size + 1))] 87)).alloc (.map #[] 0) := ⟨_, rfl⟩
  obtain ⟨hb2, hs2, hk2, hf2⟩ := two_blocks' w _ _ hw2
  have hF : FK w2 (w.heap.size + 1) (fun _ => none) 0 := by
    have := FK.made (w.alloc (.cells #[.slice none 0 0, .map (some (w.heap.size + 1))] 87))
    simp only [World.size_alloc] at this
    rw [hw2]
    exact this
  have HF : Hid (FK w2 (w.heap.size + 1) (fun _ => none) 0) := hF
  clear hs2 hf2 hF
  go_enter Tryz.func41, Tryz.ntmps41
  go_wp2
  rw [← hw2]
  refine bodyPost_ret (results_cell_row (p := 0) (ty := 87) (by kernel_rfl) _ _ w.heap.size 87 _ (0, 0) _ rfl hk2 Tryz.underlying87 rfl (by kernel_rfl)) rfl ?_
  exact ⟨w.heap.size + 1, rfl, by omega, HF.out, hb2⟩

set_option maxRecDepth 100000 in
set_option maxHeartbeats 6400000 in
theorem new10_one (w : World) :
    Calls Tryz.prog 15 #[.int .i64 1] w fun e w' => ∃ pb rg cap gb fb, e = .returned (.tuple #[.pointer (some ⟨pb, 0, none⟩), .int .i64 0]) ∧ OneAt w' w.heap.size pb rg cap gb (.slice none 0 0) [] fb 0 (fun _ => none) [] ∧ Below w.heap.size w w' := by
  obtain ⟨i0, hi0, hz0, hz1, hz2⟩ := info_parts Tryz.info87
  have hmm : ∀ w, (Instr.makeMap 80 none).run Tryz.prog w = .ok (.map (some w.heap.size)) (w.alloc (.map #[] 0)) := fun _ => by kernel_rfl
  obtain ⟨w1, hw1⟩ : ∃ w1, w1 = (w.alloc (.map #[] 0)).alloc (.cells #[.slice none 0 0, .map (some w.heap.size)] 83) := ⟨_, rfl⟩
  obtain ⟨hb1, hs1, hm1, hk1⟩ := two_blocks' w _ _ hw1
  have hG1 : GAt w1 w.heap.size [] := by
    have := GAt.made w
    refine this.same ?_
    rw [hw1, Below.heap_alloc _ _ _ (by simp)]
  have HG1 : Hid (GAt w1 w.heap.size []) := hG1
  have HK1 : Hid (w1.heap[w.heap.size + 1]? = some (.cells #[.slice none 0 0, .map (some w.heap.size)] 83 (0, 0))) := hk1
  have HB1 : Hid (Below w.heap.size w w1) := hb1
  have hs1' : w.heap.size + 1 < w1.heap.size := by omega
  have hs1'' : w1.heap.size ≤ w.heap.size + 2 := by omega
  clear hG1 hk1 hb1 hm1 hs1
  go_enter Tryz.func15, Tryz.ntmps15
  go_wp2
  rw [← hw1]
  clear hw1
  go_loopw [15] (fun x wr => (x = .int .i64 0 ∧ wr = w1) ∨ (x = .int .i64 1 ∧ Hid (∃ rg cap fb, OneAt wr w.heap.size (w.heap.size + 1) rg cap w.heap.size (.slice none 0 0) [] fb 0 (fun _ => none) [] ∧ Below w.heap.size w wr))) (fun x _ => 1 - (intOf x).toNat)
  case atStart => exact .inl ⟨rfl, rfl⟩
  case round =>
    rcases hrel with ⟨rfl, rfl⟩ | ⟨rfl, HO⟩
    · have HS1 : Hid (wr.drew.cell? ⟨w.heap.size + 1, 0, none⟩ = some (.slice none 0 0)) := by show wr.cell? _ = _; simp [World.cell?, HK1.out]
      have HN : Hid (Calls Tryz.prog 41 #[] wr.drew fun e w' => ∃ fb, e = .returned (.agg #[.slice none 0 0, .map (some fb)]) ∧ wr.heap.size ≤ fb ∧ FK w' fb (fun _ => none) 0 ∧ Below wr.heap.size wr w') := (newRepo25_any wr.drew).mono fun e w' ⟨fb, h1, h2, h3, h4⟩ => ⟨fb, h1, h2, h3, (Below.refl _ _).drew.trans h4⟩
      go_wp2_with fail
      refine wp_region_Z (fun w' => w'.cell? ⟨w.heap.size + 1, 0, none⟩ = some (.slice none 0 0)) 10 (by kernel_rfl) ?_
      refine wpZ_take 0 _ (v := ?v0) rfl (by kernel_rfl) (by kernel_rfl) (by kernel_rfl) (fun _ _ _ h => h) (by kernel_rfl) (by decide) HS1.out rfl (fun w0 hS0 => ?hy) ?_
      case hy =>
        go_simp
        with_reducible rfl
      simp only [Act.put, List.setIfInBounds_toArray]
      refine wpZ_take 1 _ (v := ?v1) rfl (by kernel_rfl) (by kernel_rfl) (by kernel_rfl) (fun _ _ _ h => h) (by kernel_rfl) (by decide) HS1.out rfl (fun w0 hS0 => ?hy) ?_
      case hy =>
        go_simp
        with_reducible rfl
      simp only [Act.put]
      refine wpZ_take 2 _ (v := ?v2) rfl (by kernel_rfl) (by kernel_rfl) (by kernel_rfl) (fun _ _ _ h => h) (by kernel_rfl) (by decide) HS1.out rfl (fun w0 hS0 => ?hy) ?_
      case hy =>
        go_simp
        with_reducible rfl
      simp only [Act.put]
      refine wpZ_take 3 _ (v := ?v3) rfl (by kernel_rfl) (by kernel_rfl) (by kernel_rfl) (fun _ _ _ h => h) (by kernel_rfl) (by decide) HS1.out rfl (fun w0 hS0 => ?hy) ?_
      case hy =>
        go_simp
        with_reducible rfl
      simp only [Act.put]
      refine wpZ_take 4 _ (v := ?v4) rfl (by kernel_rfl) (by kernel_rfl) (by kernel_rfl) (fun _ _ _ h => h) (by kernel_rfl) (by decide) HS1.out rfl (fun w0 hS0 => ?hy) ?_
      case hy =>
        go_simp
        with_reducible rfl
      simp only [Act.put]
      refine wpZ_one 5 _ rfl (by kernel_rfl) (fun KK hK => ?_)
      go_simp
      refine HN.out.mono ?_
      rintro e w2 ⟨fb, rfl, hfb, hF2, hb2⟩
      clear HN
      have hk2 := (hb2.block _ hs1').trans HK1.out
      have hs2 := hb2.size
      dsimp only
      refine hK.out _ _ (fun _ => by simp [World.cell?, hk2]) ?_
      clear hK
      refine wpZ_one 6 _ rfl (by kernel_rfl) (fun KK hK => ?_)
      go_simp
      have hb23 : Below w2.heap.size w2 (w2.alloc (.cells #[.slice none 0 0, .map (some fb)] 87)) := (Below.refl _ _).alloc (Nat.le_refl _) _
      have hk3 := (hb23.block _ (by omega)).trans hk2
      refine hK.out _ _ (fun _ => by simp [World.cell?, hk3]) ?_
      clear hK
      refine wpZ_one 7 _ rfl (by kernel_rfl) (fun KK hK => ?_)
      refine step_append_lies _ (by rfl) _ _ _ (by rfl) w.heap.size 87 i0 _ 2 32 Tryz.underlying81 hi0 hz0 hz1 hz2 rfl (by omega) (.slice none 0 0) 0 [] (by rfl) (World.ownsRow_nil _ _ _ _) ⟨w2.heap.size, 0, none⟩ 1 1 [.slice none 0 0, .map (some fb)] (by rfl) (by rfl) (World.news_of_block (cs := #[.slice none 0 0, .map (some fb)]) (t := 87) (fr := (0, 0)) (heap_alloc_new w2 _)) (by simp [Value.oneCell']) (by omega) (by unfold maxLen; omega) (by omega) (by simp; omega) (w2.heap.size + 1) (by simp) ?_
      intro g cp wa hownA hgrA hatA hltA
      have farA : ∀ k, k < w2.heap.size → wa.heap[k]? = w2.heap[k]? := fun k hk => (hgrA.block k (by simp; omega) (by simp [Value.ownBlock])).trans (hb23.block k hk)
      have hkA := (farA _ (by omega)).trans hk2
      have rA : wa.cell? ⟨w.heap.size + 1, 0, none⟩ = some (.slice none 0 0) := by simp [World.cell?, hkA]
      have zA := free3 hkA 0
      refine hK.out _ _ (fun _ => rA) ?_
      clear hK
      simp only [Act.put, List.setIfInBounds_toArray]
      refine wpZ_one 8 _ rfl (by kernel_rfl) (fun KK hK => ?_)
      go_simp
      refine hK.out _ _ (fun _ => rA) ?_
      clear hK
      refine wpZ_one 9 _ rfl (by kernel_rfl) (fun KK hK => ?_)
      go_simp
      refine hK.out _ _ (fun _ => rA) ?_
      clear hK
      refine wpZ_one 10 _ rfl (by kernel_rfl) (fun KK hK => ?_)
      go_simp
      refine hK.out _ _ (fun h => absurd rfl h) ?_
      clear hK
      refine wpZ_done (by kernel_rfl) ?_ _
      have HO : Hid (∃ rg cap fb, OneAt (wa.setCell ⟨w.heap.size + 1, 0, none⟩ (.slice (some ⟨g, 0, none⟩) (0 + 1) cp)) w.heap.size (w.heap.size + 1) rg cap w.heap.size (.slice none 0 0) [] fb 0 (fun _ => none) [] ∧ Below w.heap.size w (wa.setCell ⟨w.heap.size + 1, 0, none⟩ (.slice (some ⟨g, 0, none⟩) (0 + 1) cp))) := by
        have hg : w2.heap.size ≤ g := by
          rcases hatA with h | h
          · simp [Value.ownBlock] at h
          · omega
        have hset : ∀ k, k ≠ w.heap.size + 1 → (wa.setCell ⟨w.heap.size + 1, 0, none⟩ (.slice (some ⟨g, 0, none⟩) (0 + 1) cp)).heap[k]? = wa.heap[k]? := fun k hk => Below.heap_setCell _ _ _ _ hk
        rcases hownA.2 with ⟨h1, _⟩ | ⟨g', cp', cur, h1, hbase, hgc, hn1, hcm, hcs, htk⟩
        · cases h1
        · cases h1
          have hlt := HG1.out.lt
          refine ⟨g, cp, fb, ⟨⟨by omega, by omega, by omega, by omega⟩, heap_setCell_same wa _ 0 _ 83 _ hkA, ⟨cur, (hset g (by omega)).trans hgc, ?_, ?_⟩, HG1.out.same ((hset _ (by omega)).trans ((farA _ (by omega)).trans (hb2.block _ (by omega)))), World.ownsRow_nil _ _ _ _, by simp, hF2.same ((hset fb (by omega)).trans (farA fb hF2.lt)), by omega, by omega⟩, ?_⟩
          · have : cur.toList[0]? = some (.slice none 0 0) := by
              have h0 : (cur.toList.take ((0 + 1) * 2))[0]? = some (.slice none 0 0) := by rw [htk]; rfl
              rwa [List.getElem?_take_of_lt (by omega)] at h0
            simpa using this
          · have : cur.toList[1]? = some (.map (some fb)) := by
              have h0 : (cur.toList.take ((0 + 1) * 2))[1]? = some (.map (some fb)) := by rw [htk]; rfl
              rwa [List.getElem?_take_of_lt (by omega)] at h0
            simpa using this
          · have hsA := hgrA.size
            simp at hsA
            refine ⟨hgrA.os.trans (hb2.os.trans HB1.out.os), hgrA.tape.trans (hb2.tape.trans HB1.out.tape), hgrA.output.trans (hb2.output.trans HB1.out.output), by simp [World.setCell]; omega, fun k hk => ?_⟩
            exact (hset k (by omega)).trans ((farA k (by omega)).trans ((hb2.block k (by omega)).trans (HB1.out.block k hk)))
      clear hownA hgrA hatA hltA farA hkA rA zA hk2 hk3 hb23 hb2 hF2 HS1
      go_wp2
      go_roundw
      case rel => exact .inr ⟨by go_num, HO⟩
      case measure => simp [intOf]
    · obtain ⟨rg, cap, fb, hO, hB⟩ := HO.out
      have HO2 : Hid (OneAt wr w.heap.size (w.heap.size + 1) rg cap w.heap.size (.slice none 0 0) [] fb 0 (fun _ => none) []) := hO
      clear HO hO
      go_wp2
      go_ret2
      exact ⟨_, rg, cap, _, fb, rfl, HO2.out, hB⟩
end Go.Proofs.YtgdfipmdmgkidaaGreatDoor
