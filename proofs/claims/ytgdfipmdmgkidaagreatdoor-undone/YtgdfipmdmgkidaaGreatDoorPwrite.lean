/- A file is written. -/
import Derived.Test.YtgdfipmdmgkidaaGreatDoorPnew
import Derived.Test.YtgdfipmdmgkidaaGreatDoorPgapw
import Derived.Test.YtgdfipmdmgkidaaGreatDoorPgiven
import Derived.Test.YtgdfipmdmgkidaaGreatDoorPmrow
import Derived.Test.YtgdfipmdmgkidaaGreatDoorPheld
namespace Go.Proofs.YtgdfipmdmgkidaaGreatDoor
open Go.RowKit

set_option maxRecDepth 100000 in
set_option maxHeartbeats 3200000 in
theorem write27_yes (f : ByteArray → Option ByteArray) (fb fn rb ro : Nat) (name text : ByteArray) (w : World) (h : FK w fb f fn) (hfn : fn ≤ 1000) (hr : w.cell? ⟨rb, ro + 1, none⟩ = some (.map (some fb))) (hrb : rb < w.heap.size) (hs : name.size ≤ 1000) (hn : nameB name = true) (hl : linesOk text = true) (hf : (f name).isSome = true ∨ fn < 5) :
    Calls Tryz.prog 43 #[.pointer (some ⟨rb, ro, none⟩), .string name, .string text] w fun e w' => e = .returned (.int .i64 0) ∧ ∃ u, Below w.heap.size w u ∧ FK w' fb (fun x => if x = name then some text else f x) (fn + 1) ∧ u.grownBy w' (some fb) := by
  have HN : Hid (Calls Tryz.prog 61 #[.string name] w fun e w' => e = .returned (.bool true) ∧ Below w.heap.size w w') := by
    have := isName42_any name w
    rw [hn] at this
    exact this
  have HL : Hid (∀ u, Calls Tryz.prog 62 #[.string text] u fun e w' => ∃ va vn vc, e = .returned (.tuple #[.slice va vn vc, .bool true]) ∧ Below u.heap.size u w') := fun u => by
    have := lines12_any text u
    rw [hl] at this
    refine this.mono ?_
    rintro e w' ⟨v, rfl, h1, h2⟩
    obtain ⟨va, vc, rfl⟩ := own_shape h1
    exact ⟨va, _, vc, rfl, h2⟩
  have HF : Hid (FK w fb f fn) := h
  have hfb := h.lt
  clear hn hl h
  go_enter Tryz.func43, Tryz.ntmps43
  go_wp2_with fail
  refine HN.out.mono ?_
  rintro e w1 ⟨rfl, hb1⟩
  clear HN
  have hs1 := hb1.size
  go_wp2_with fail
  refine (HL.out w1).mono ?_
  rintro e w2 ⟨va, vn, vc, rfl, hb2⟩
  clear HL
  have hb02 : Below w.heap.size w w2 := hb1.trans (hb2.mono hs1)
  have hs2 := hb02.size
  have c2 : w2.cell? ⟨rb, ro + 1, none⟩ = some (.map (some fb)) := (hb02.cell (p := ⟨rb, ro + 1, none⟩) hrb).trans hr
  have hF2 : FK w2 fb f fn := HF.out.same (hb02.block fb hfb)
  have hlk := hF2.look name (by omega)
  obtain ⟨t, ht⟩ : ∃ t, (f name).getD ⟨#[]⟩ = t := ⟨_, rfl⟩
  obtain ⟨w3, hw3⟩ : ∃ w3, w3 = w2.alloc (.cells #[.string t] 105) := ⟨_, rfl⟩
  have hb23 : Below w2.heap.size w2 w3 := by rw [hw3]; exact (Below.refl _ _).alloc (Nat.le_refl _) _
  have hF3 : FK w3 fb f fn := hF2.same (hb23.block fb (by omega))
  have c3 : w3.cell? ⟨rb, ro + 1, none⟩ = some (.map (some fb)) := (hb23.cell (p := ⟨rb, ro + 1, none⟩) (by show rb < _; omega)).trans c2
  obtain ⟨w4, hup, hF4, hg4⟩ := hF3.put (by omega) name text (by omega)
  have HB3 : Hid (Below w.heap.size w w3) := hb02.trans (hb23.mono hs2)
  rw [ht] at hlk
  unfold fileS at hlk hup
  have HF4 : Hid (FK w4 fb (fun x => if x = name then some text else f x) (fn + 1)) := hF4
  have HG4 : Hid (w3.grownBy w4 (some fb)) := hg4
  have hlen : ∃ m : Nat, m ≤ fn ∧ ∀ ty, (Builtin.len_ #[85] ty #[.map (some fb)]).run Tryz.prog w3 = .ok (.int .i64 (m : Nat)) w3 := by
    obtain ⟨D, h1, _⟩ := hF3
    exact ⟨Maps.size D, h1.size_le, fun ty => h1.len Tryz.underlying85 ty⟩
  obtain ⟨m, hm, hlen⟩ := hlen
  have hlen3 := hlen 3
  rw [hw3] at c3 hlen3 hup
  clear hF2 hF3 hF4 hg4 hb23 hb02 hb2 hb1 ht hlen
  cases hth : (f name).isSome
  · rw [hth] at hlk hf
    have h5 : fn < 5 := hf.resolve_left (by simp)
    have h5b : decide ((5 : Int) ≤ (m : Int)) = false := by simp; omega
    clear hf hth
    go_wp2
    go_ret
    exact ⟨rfl, w3, HB3.out, HF4.out, HG4.out⟩
  · rw [hth] at hlk
    clear hf hth
    go_wp2
    go_ret
    exact ⟨rfl, w3, HB3.out, HF4.out, HG4.out⟩

end Go.Proofs.YtgdfipmdmgkidaaGreatDoor

/- A new world of one repository. -/
namespace Go.Proofs.YtgdfipmdmgkidaaGreatDoor
open Go.RowKit

theorem Tryz.info87 : (Tryz.prog.info? 87).map (fun i => (i.zero, i.size, i.bytes)) = some (some (.agg #[.slice none 0 0, .map none]), 2, 32) := by kernel_rfl
set_option maxRecDepth 100000 in
set_option maxHeartbeats 1600000 in
theorem newRepo25_any (w : World) :
    Calls Tryz.prog 41 #[] w fun e w' => ∃ fb, e = .returned (.agg #[.slice none 0 0, .map (some fb)]) ∧ w.heap.size ≤ fb ∧ FK w' fb (fun _ => none) 0 ∧ Below w.heap.size w w' := by
  have hmm : ∀ w, (Instr.makeMap 85 none).run Tryz.prog w = .ok (.map (some w.heap.size)) (w.alloc (.map #[] 0)) := fun _ => by kernel_rfl
  obtain ⟨w2, hw2⟩ : ∃ w2, w2 = (w.alloc (.cells #[.slice none 0 0, .map (some (w.heap.size + 1))] 87)).alloc (.map #[] 0) := ⟨_, rfl⟩
  obtain ⟨hb2, hs2, hk2, hf2⟩ := two_blocks' w _ _ hw2
  have hF : FK w2 (w.heap.size + 1) (fun _ => none) 0 := by
    have := FK.made (w.alloc (.cells #[.slice none 0 0, .map (some (w.heap.size + 1))] 87))
    simp only [World.size_alloc] at this
    rw [hw2]
    exact this
  have HF : Hid (FK w2 (w.heap.size + 1) (fun _ => none) 0) := hF
  clear hs2 hf2 hF
  go_enter Tryz.func41, Tryz.ntmps41
  go_wp2
  rw [← hw2]
  refine bodyPost_ret (results_cell_row (p := 0) (ty := 87) (by kernel_rfl) _ _ w.heap.size 87 _ (0, 0) _ rfl hk2 Tryz.underlying87 rfl (by kernel_rfl)) rfl ?_
  exact ⟨w.heap.size + 1, rfl, by omega, HF.out, hb2⟩

set_option maxRecDepth 100000 in
set_option maxHeartbeats 6400000 in
theorem new10_one (w : World) :
    Calls Tryz.prog 15 #[.int .i64 1] w fun e w' => ∃ pb rg cap gb fb, e = .returned (.tuple #[.pointer (some ⟨pb, 0, none⟩), .int .i64 0]) ∧ OneAt w' w.heap.size pb rg cap gb (.slice none 0 0) [] fb 0 (fun _ => none) [] ∧ Below w.heap.size w w' := by
  obtain ⟨i0, hi0, hz0, hz1, hz2⟩ := info_parts Tryz.info87
  have hmm : ∀ w, (Instr.makeMap 80 none).run Tryz.prog w = .ok (.map (some w.heap.size)) (w.alloc (.map #[] 0)) := fun _ => by kernel_rfl
  obtain ⟨w1, hw1⟩ : ∃ w1, w1 = (w.alloc (.map #[] 0)).alloc (.cells #[.slice none 0 0, .map (some w.heap.size)] 83) := ⟨_, rfl⟩
  obtain ⟨hb1, hs1, hm1, hk1⟩ := two_blocks' w _ _ hw1
  have hG1 : GAt w1 w.heap.size [] := by
    have := GAt.made w
    refine this.same ?_
    rw [hw1, Below.heap_alloc _ _ _ (by simp)]
  have HG1 : Hid (GAt w1 w.heap.size []) := hG1
  have HK1 : Hid (w1.heap[w.heap.size + 1]? = some (.cells #[.slice none 0 0, .map (some w.heap.size)] 83 (0, 0))) := hk1
  have HB1 : Hid (Below w.heap.size w w1) := hb1
  have hs1' : w.heap.size + 1 < w1.heap.size := by omega
  have hs1'' : w1.heap.size ≤ w.heap.size + 2 := by omega
  clear hG1 hk1 hb1 hm1 hs1
  go_enter Tryz.func15, Tryz.ntmps15
  go_wp2
  rw [← hw1]
  clear hw1
  go_loopw [15] (fun x wr => (x = .int .i64 0 ∧ wr = w1) ∨ (x = .int .i64 1 ∧ Hid (∃ rg cap fb, OneAt wr w.heap.size (w.heap.size + 1) rg cap w.heap.size (.slice none 0 0) [] fb 0 (fun _ => none) [] ∧ Below w.heap.size w wr))) (fun x _ => 1 - (intOf x).toNat)
  case atStart => exact .inl ⟨rfl, rfl⟩
  case round =>
    rcases hrel with ⟨rfl, rfl⟩ | ⟨rfl, HO⟩
    · have HS1 : Hid (wr.drew.cell? ⟨w.heap.size + 1, 0, none⟩ = some (.slice none 0 0)) := by show wr.cell? _ = _; simp [World.cell?, HK1.out]
      have HN : Hid (Calls Tryz.prog 41 #[] wr.drew fun e w' => ∃ fb, e = .returned (.agg #[.slice none 0 0, .map (some fb)]) ∧ wr.heap.size ≤ fb ∧ FK w' fb (fun _ => none) 0 ∧ Below wr.heap.size wr w') := (newRepo25_any wr.drew).mono fun e w' ⟨fb, h1, h2, h3, h4⟩ => ⟨fb, h1, h2, h3, (Below.refl _ _).drew.trans h4⟩
      go_wp2_with fail
      refine wp_region_Z (fun w' => w'.cell? ⟨w.heap.size + 1, 0, none⟩ = some (.slice none 0 0)) 10 (by kernel_rfl) ?_
      refine wpZ_take 0 _ (v := ?v0) rfl (by kernel_rfl) (by kernel_rfl) (by kernel_rfl) (fun _ _ _ h => h) (by kernel_rfl) (by decide) HS1.out rfl (fun w0 hS0 => ?hy) ?_
      case hy =>
        go_simp
        with_reducible rfl
      simp only [Act.put, List.setIfInBounds_toArray]
      refine wpZ_take 1 _ (v := ?v1) rfl (by kernel_rfl) (by kernel_rfl) (by kernel_rfl) (fun _ _ _ h => h) (by kernel_rfl) (by decide) HS1.out rfl (fun w0 hS0 => ?hy) ?_
      case hy =>
        go_simp
        with_reducible rfl
      simp only [Act.put]
      refine wpZ_take 2 _ (v := ?v2) rfl (by kernel_rfl) (by kernel_rfl) (by kernel_rfl) (fun _ _ _ h => h) (by kernel_rfl) (by decide) HS1.out rfl (fun w0 hS0 => ?hy) ?_
      case hy =>
        go_simp
        with_reducible rfl
      simp only [Act.put]
      refine wpZ_take 3 _ (v := ?v3) rfl (by kernel_rfl) (by kernel_rfl) (by kernel_rfl) (fun _ _ _ h => h) (by kernel_rfl) (by decide) HS1.out rfl (fun w0 hS0 => ?hy) ?_
      case hy =>
        go_simp
        with_reducible rfl
      simp only [Act.put]
      refine wpZ_take 4 _ (v := ?v4) rfl (by kernel_rfl) (by kernel_rfl) (by kernel_rfl) (fun _ _ _ h => h) (by kernel_rfl) (by decide) HS1.out rfl (fun w0 hS0 => ?hy) ?_
      case hy =>
        go_simp
        with_reducible rfl
      simp only [Act.put]
      refine wpZ_one 5 _ rfl (by kernel_rfl) (fun KK hK => ?_)
      go_simp
      refine HN.out.mono ?_
      rintro e w2 ⟨fb, rfl, hfb, hF2, hb2⟩
      clear HN
      have hk2 := (hb2.block _ hs1').trans HK1.out
      have hs2 := hb2.size
      dsimp only
      refine hK.out _ _ (fun _ => by simp [World.cell?, hk2]) ?_
      clear hK
      refine wpZ_one 6 _ rfl (by kernel_rfl) (fun KK hK => ?_)
      go_simp
      have hb23 : Below w2.heap.size w2 (w2.alloc (.cells #[.slice none 0 0, .map (some fb)] 87)) := (Below.refl _ _).alloc (Nat.le_refl _) _
      have hk3 := (hb23.block _ (by omega)).trans hk2
      refine hK.out _ _ (fun _ => by simp [World.cell?, hk3]) ?_
      clear hK
      refine wpZ_one 7 _ rfl (by kernel_rfl) (fun KK hK => ?_)
      refine step_append_lies _ (by rfl) _ _ _ (by rfl) w.heap.size 87 i0 _ 2 32 Tryz.underlying81 hi0 hz0 hz1 hz2 rfl (by omega) (.slice none 0 0) 0 [] (by rfl) (World.ownsRow_nil _ _ _ _) ⟨w2.heap.size, 0, none⟩ 1 1 [.slice none 0 0, .map (some fb)] (by rfl) (by rfl) (World.news_of_block (cs := #[.slice none 0 0, .map (some fb)]) (t := 87) (fr := (0, 0)) (heap_alloc_new w2 _)) (by simp [Value.oneCell']) (by omega) (by unfold maxLen; omega) (by omega) (by simp; omega) (w2.heap.size + 1) (by simp) ?_
      intro g cp wa hownA hgrA hatA hltA
      have farA : ∀ k, k < w2.heap.size → wa.heap[k]? = w2.heap[k]? := fun k hk => (hgrA.block k (by simp; omega) (by simp [Value.ownBlock])).trans (hb23.block k hk)
      have hkA := (farA _ (by omega)).trans hk2
      have rA : wa.cell? ⟨w.heap.size + 1, 0, none⟩ = some (.slice none 0 0) := by simp [World.cell?, hkA]
      have zA := free3 hkA 0
      refine hK.out _ _ (fun _ => rA) ?_
      clear hK
      simp only [Act.put, List.setIfInBounds_toArray]
      refine wpZ_one 8 _ rfl (by kernel_rfl) (fun KK hK => ?_)
      go_simp
      refine hK.out _ _ (fun _ => rA) ?_
      clear hK
      refine wpZ_one 9 _ rfl (by kernel_rfl) (fun KK hK => ?_)
      go_simp
      refine hK.out _ _ (fun _ => rA) ?_
      clear hK
      refine wpZ_one 10 _ rfl (by kernel_rfl) (fun KK hK => ?_)
      go_simp
      refine hK.out _ _ (fun h => absurd rfl h) ?_
      clear hK
      refine wpZ_done (by kernel_rfl) ?_ _
      have HO : Hid (∃ rg cap fb, OneAt (wa.setCell ⟨w.heap.size + 1, 0, none⟩ (.slice (some ⟨g, 0, none⟩) (0 + 1) cp)) w.heap.size (w.heap.size + 1) rg cap w.heap.size (.slice none 0 0) [] fb 0 (fun _ => none) [] ∧ Below w.heap.size w (wa.setCell ⟨w.heap.size + 1, 0, none⟩ (.slice (some ⟨g, 0, none⟩) (0 + 1) cp))) := by
        have hg : w2.heap.size ≤ g := by
          rcases hatA with h | h
          · simp [Value.ownBlock] at h
          · omega
        have hset : ∀ k, k ≠ w.heap.size + 1 → (wa.setCell ⟨w.heap.size + 1, 0, none⟩ (.slice (some ⟨g, 0, none⟩) (0 + 1) cp)).heap[k]? = wa.heap[k]? := fun k hk => Below.heap_setCell _ _ _ _ hk
        rcases hownA.2 with ⟨h1, _⟩ | ⟨g', cp', cur, h1, hbase, hgc, hn1, hcm, hcs, htk⟩
        · cases h1
        · cases h1
          have hlt := HG1.out.lt
          refine ⟨g, cp, fb, ⟨⟨by omega, by omega, by omega, by omega⟩, heap_setCell_same wa _ 0 _ 83 _ hkA, ⟨cur, (hset g (by omega)).trans hgc, ?_, ?_⟩, HG1.out.same ((hset _ (by omega)).trans ((farA _ (by omega)).trans (hb2.block _ (by omega)))), World.ownsRow_nil _ _ _ _, by simp, hF2.same ((hset fb (by omega)).trans (farA fb hF2.lt)), by omega, by omega⟩, ?_⟩
          · have : cur.toList[0]? = some (.slice none 0 0) := by
              have h0 : (cur.toList.take ((0 + 1) * 2))[0]? = some (.slice none 0 0) := by rw [htk]; rfl
              rwa [List.getElem?_take_of_lt (by omega)] at h0
            simpa using this
          · have : cur.toList[1]? = some (.map (some fb)) := by
              have h0 : (cur.toList.take ((0 + 1) * 2))[1]? = some (.map (some fb)) := by rw [htk]; rfl
              rwa [List.getElem?_take_of_lt (by omega)] at h0
            simpa using this
          · have hsA := hgrA.size
            simp at hsA
            refine ⟨hgrA.os.trans (hb2.os.trans HB1.out.os), hgrA.tape.trans (hb2.tape.trans HB1.out.tape), hgrA.output.trans (hb2.output.trans HB1.out.output), by simp [World.setCell]; omega, fun k hk => ?_⟩
            exact (hset k (by omega)).trans ((farA k (by omega)).trans ((hb2.block k (by omega)).trans (HB1.out.block k hk)))
      clear hownA hgrA hatA hltA farA hkA rA zA hk2 hk3 hb23 hb2 hF2 HS1
      go_wp2
      go_roundw
      case rel => exact .inr ⟨by go_num, HO⟩
      case measure => simp [intOf]
    · obtain ⟨rg, cap, fb, hO, hB⟩ := HO.out
      have HO2 : Hid (OneAt wr w.heap.size (w.heap.size + 1) rg cap w.heap.size (.slice none 0 0) [] fb 0 (fun _ => none) []) := hO
      clear HO hO
      go_wp2
      go_ret2
      exact ⟨_, rg, cap, _, fb, rfl, HO2.out, hB⟩
end Go.Proofs.YtgdfipmdmgkidaaGreatDoor

/- Told's own reckoning of what two lists of lines have in common. -/
namespace Go.Proofs.YtgdfipmdmgkidaaGreatDoor
open Go.RowKit

/-- Two rows of the table: the one that is done and the next. -/
structure Two (w wr : World) (m a b : Nat) (f g : Nat → Nat) : Prop where
  la : w.heap.size ≤ a
  lb : a < b
  ls : b < wr.heap.size
  ra : wr.heap[a]? = some (.cells (fnA (m + 1) (fun j => .int .i64 (f j : Nat))) 3 (0, 0))
  rb : wr.heap[b]? = some (.cells (fnA (m + 1) (fun j => .int .i64 (g j : Nat))) 3 (0, 0))
  bel : Below w.heap.size w wr
structure One (w wr : World) (m a : Nat) (f : Nat → Nat) : Prop where
  la : w.heap.size ≤ a
  ls : a < wr.heap.size
  ra : wr.heap[a]? = some (.cells (fnA (m + 1) (fun j => .int .i64 (f j : Nat))) 3 (0, 0))
  bel : Below w.heap.size w wr
theorem Two.put {w wr : World} {m a b : Nat} {f g g' : Nat → Nat} (h : Two w wr m a b f g) (j v : Nat) (hj : j ≤ m) (hg : ∀ c, c ≤ m → g' c = if c = j then v else g c) (u : Int) (hu : u = (v : Int)) : Two w (wr.setCell ⟨b, j, none⟩ (.int .i64 u)) m a b f g' := by
  subst hu
  have hla := h.la
  have hlb := h.lb
  refine ⟨hla, hlb, by simpa [World.setCell] using h.ls, (Below.heap_setCell _ _ _ _ (by simp; omega)).trans h.ra, ?_, h.bel.setCell (p := ⟨b, j, none⟩) (by simp; omega) _⟩
  rw [heap_setCell_same wr b j _ 3 _ h.rb, fnA_set (m + 1) _ (fun j => .int .i64 (g' j : Nat)) j _ (by omega) (fun c hc => by
    rw [hg c (by omega)]
    by_cases e : c = j <;> simp [e])]
theorem Two.drew {w wr : World} {m a b : Nat} {f g : Nat → Nat} (h : Two w wr m a b f g) : Two w wr.drew m a b f g := ⟨h.la, h.lb, h.ls, h.ra, h.rb, h.bel.drew⟩
theorem Two.drewN {w wr : World} {m a b : Nat} {f g : Nat → Nat} (h : Two w wr m a b f g) (q : Nat) : Two w (wr.drewN q) m a b f g := ⟨h.la, h.lb, h.ls, h.ra, h.rb, below_drewN h.bel q⟩
theorem One.start {w : World} {m : Nat} : One w (w.alloc (.cells (fnA (m + 1) (fun _ => .int .i64 0)) 3)) m w.heap.size (fun _ => 0) :=
  ⟨Nat.le_refl _, by simp, by rw [(MapKept.heap_alloc w _).1]; rfl, (Below.refl _ _).alloc (Nat.le_refl _) _⟩
theorem One.more {w wr : World} {m a : Nat} {f : Nat → Nat} (h : One w wr m a f) : Two w (wr.alloc (.cells (fnA (m + 1) (fun _ => .int .i64 0)) 3)) m a wr.heap.size f (fun _ => 0) :=
  ⟨h.la, h.ls, by simp, (Below.heap_alloc wr _ _ h.ls).trans h.ra, by rw [(MapKept.heap_alloc wr _).1]; rfl, h.bel.alloc (by have := h.la; have := h.ls; omega) _⟩
theorem Two.one {w wr : World} {m a b : Nat} {f g f' : Nat → Nat} (h : Two w wr m a b f g) (hf : ∀ c, c ≤ m → g c = f' c) : One w wr m b f' :=
  ⟨by have := h.la; have := h.lb; omega, h.ls, by rw [h.rb]; congr 2; exact fnA_congr _ _ _ fun c hc => by rw [hf c (by omega)], h.bel⟩
theorem One.congr {w wr : World} {m a : Nat} {f f' : Nat → Nat} (h : One w wr m a f) (hf : ∀ c, c ≤ m → f c = f' c) : One w wr m a f' :=
  ⟨h.la, h.ls, by rw [h.ra]; congr 2; exact fnA_congr _ _ _ fun c hc => by rw [hf c (by omega)], h.bel⟩
theorem Two.congr {w wr : World} {m a b : Nat} {f g g' : Nat → Nat} (h : Two w wr m a b f g) (hf : ∀ c, c ≤ m → g c = g' c) : Two w wr m a b f g' :=
  ⟨h.la, h.lb, h.ls, h.ra, by rw [h.rb]; congr 2; exact fnA_congr _ _ _ fun c hc => by rw [hf c (by omega)], h.bel⟩
end Go.Proofs.YtgdfipmdmgkidaaGreatDoor

/- Told: what the two records make. -/
namespace Go.Proofs.YtgdfipmdmgkidaaGreatDoor
open Go.RowKit

abbrev nmA : ByteArray := ⟨#[97]⟩
/-- One of the statement's texts. -/
structure Txt (o : ByteArray) (C : List ByteArray) : Prop where
  cut : cutAll o = C
  cat : catB C = o
  nine : ∀ l ∈ C, l ∈ nineLines
  len : C.length ≤ 16
  size : o.size ≤ 208
theorem nine_small : ∀ l ∈ nineLines, l.size ≤ 13 ∧ decide (12 < lineRunes l) = false := by decide +kernel
theorem Txt.ok {o : ByteArray} {C : List ByteArray} (h : Txt o C) : linesOk o = true := by
  have h1 : anyLong (cutAll o) = false := by
    rw [h.cut]
    unfold anyLong
    rw [List.any_eq_false]
    intro l hl
    rw [(nine_small l (h.nine l hl)).2]
    simp
  unfold linesOk
  rw [h1, h.cut]
  have := h.len
  have := h.size
  simp
  omega
theorem Txt.line {o : ByteArray} {C : List ByteArray} (h : Txt o C) : ∀ l ∈ C, l.size ≤ 1000 := fun l hl => by
  have := (nine_small l (h.nine l hl)).1
  omega
/-- A file of one name alone. -/
def only (t : ByteArray) (x : ByteArray) : Option ByteArray := if x = nmA then some t else none
theorem told1 (t : Nat → ByteArray) : (⟨(toldTo t 1).toArray⟩ : ByteArray) = t 0 := by
  simp [toldTo]
end Go.Proofs.YtgdfipmdmgkidaaGreatDoor

/- Told: the patches stand, and are told. -/
namespace Go.Proofs.YtgdfipmdmgkidaaGreatDoor
open Go.RowKit

end Go.Proofs.YtgdfipmdmgkidaaGreatDoor

/- Told: the calls of its one world. -/
namespace Go.Proofs.YtgdfipmdmgkidaaGreatDoor
open Go.RowKit

abbrev cNew : ByteArray := ⟨#[110, 101, 119]⟩
theorem cNew_ok : wordsOk cNew = true ∧ splitAll cNew = [wdNew] := by decide +kernel

/-- The words of a command, as they lie. -/
theorem words_at {u : World} {B : Nat} {va : Option Addr} {vc : Nat} {L : List ByteArray} (h : u.ownsRow B 9 1 (.slice va L.length vc) L.length (strs L)) (h0 : 0 < L.length) : ∃ b, va = some ⟨b, 0, none⟩ ∧ TB u b 9 ∧ L.length ≤ vc ∧ ∀ k, (hk : k < L.length) → u.cell? ⟨b, k, none⟩ = some (.string L[k]) := by
  have hc := fun g => World.ownsRow.cells h (g := g)
  rcases h.2 with ⟨_, h1⟩ | ⟨g, cp, cur, h1, _, hg, hcp, _⟩
  · omega
  · cases h1
    refine ⟨g, rfl, ⟨cur, _, hg⟩, hcp, fun k hk => ?_⟩
    have := hc g rfl k (.string L[k]) (by unfold strs; rw [List.getElem?_map, List.getElem?_eq_getElem hk]; rfl)
    rw [← this]
    cases k <;> simp [Addr.add]

section
variable {B pb rg cap gb : Nat} {pv : Value} {Ps : List PM} {fb fn : Nat} {f : ByteArray → Option ByteArray} {G : List Pid}
theorem do_record {w : World} (h : OneAt w B pb rg cap gb pv Ps fb fn f G) (s : ByteArray) (a b c d : UInt8) (hs : wordsOk s = true ∧ splitAll s = [wdRecord, ⟨#[a, b, c, d]⟩]) (cd : Int) (Q : ByteArray → World → Prop)
    (hR : ∀ u na nc, Below w.heap.size w u → Calls Tryz.prog 72 #[.pointer (some ⟨pb, 0, none⟩), .pointer (some ⟨rg, 0, none⟩), .agg #[.int .u8 a.toNat, .int .u8 b.toNat, .int .u8 c.toNat, .int .u8 d.toNat], .slice na 0 nc] u fun e w' => ∃ x, e = .returned (.tuple #[.string x, .int .i64 cd]) ∧ Q x w' ∧ HeldT (· = 9) u w') :
    Calls Tryz.prog 17 #[.pointer (some ⟨pb, 0, none⟩), .int .i64 0, .string s] w fun e w' => ∃ x, e = .returned (.tuple #[.string x, .int .i64 cd]) ∧ Q x w' := by
  refine (do12_any h s hs.1 (fun x c w' => c = cd ∧ Q x w') (fun u va vc hu ho => ?_)).mono ?_
  · rw [hs.2] at ho ⊢
    obtain ⟨wb, rfl, htb, hcap, hcl⟩ := words_at ho (by simp)
    have h0 := hcl 0 (by simp)
    have h1 := hcl 1 (by simp)
    refine (carry29_record pb rg wb 0 vc a b c d u cd Q h0 h1 htb hcap (fun u' na nc hu' => hR u' na nc (hu.trans (hu'.mono hu.size)))).mono ?_
    rintro e w' ⟨x, rfl, hq⟩
    exact ⟨x, cd, rfl, rfl, hq⟩
  · rintro e w' ⟨x, c, rfl, rfl, hq⟩
    exact ⟨x, rfl, hq⟩
theorem do_new {w : World} (h : OneAt w B pb rg cap gb pv Ps fb fn f G) (Q : ByteArray → World → Prop)
    (hR : ∀ u, Below w.heap.size w u → Calls Tryz.prog 66 #[.pointer (some ⟨rg, 0, none⟩)] u fun e w' => ∃ x, e = .returned (.string x) ∧ Q x w') :
    Calls Tryz.prog 17 #[.pointer (some ⟨pb, 0, none⟩), .int .i64 0, .string cNew] w fun e w' => ∃ x, e = .returned (.tuple #[.string x, .int .i64 0]) ∧ Q x w' := by
  refine (do12_any h cNew cNew_ok.1 (fun x c w' => c = 0 ∧ Q x w') (fun u va vc hu ho => ?_)).mono ?_
  · rw [cNew_ok.2] at ho ⊢
    obtain ⟨wb, rfl, htb, hcap, hcl⟩ := words_at ho (by simp)
    have h0 := hcl 0 (by simp)
    refine (carry29_new pb rg wb 0 1 vc u Q h0 (by omega) (hR u hu)).mono ?_
    rintro e w' ⟨x, rfl, hq⟩
    exact ⟨x, 0, rfl, rfl, hq⟩
  · rintro e w' ⟨x, c, rfl, rfl, hq⟩
    exact ⟨x, rfl, hq⟩
end
end Go.Proofs.YtgdfipmdmgkidaaGreatDoor

/- Told: its steps on the world. -/
namespace Go.Proofs.YtgdfipmdmgkidaaGreatDoor
open Go.RowKit

/-- Patches of one file, one behind the other. -/
def Chain (Ps : List PM) (ps : Nat → PL) : Prop := ps 0 = pl0 ∧ (∀ p P, Ps[p]? = some P → ∃ c, P.Cs = [(nmA, c)] ∧ ApplyP c (ps p) (ps (p + 1))) ∧ Ps.length ≤ 39
theorem Chain.nil (ps : Nat → PL) (h : ps 0 = pl0) : Chain [] ps := ⟨h, fun p P hP => by simp at hP, by simp⟩

end Go.Proofs.YtgdfipmdmgkidaaGreatDoor

/- The lines of a telling, read one behind another. -/
namespace Go.Proofs.YtgdfipmdmgkidaaGreatDoor
open Go.RowKit

theorem TReads.small {O : List ByteArray} {a c d : Nat} {X R Z : List ByteArray} (h : TReads O a X c R Z d) : ∀ l ∈ R, l.size ≤ 20 := by
  induction h with
  | done h => intro l hl; cases hl
  | at_ h1 h2 h3 h4 ih =>
    intro l hl
    rcases List.mem_cons.1 hl with rfl | hl
    · rename_i n _ _ _ _ _
      have := (atA_facts (n + 1) (by omega)).2.1
      omega
    · exact ih l hl
  | minus h1 h2 h3 h4 ih =>
    intro l hl
    rcases List.mem_cons.1 hl with rfl | hl
    · exact (tlA_facts 45 (by simp) _ h3).2.1
    · exact ih l hl
  | plus h3 h4 ih =>
    intro l hl
    rcases List.mem_cons.1 hl with rfl | hl
    · exact (tlA_facts 43 (by simp) _ h3).2.1
    · exact ih l hl

theorem wpList_append_all {P : Program} {w : World} {ops : Array Oper} {rest : List Oper} {o : Oper} {a : Act} {Q : Exit → Act → World → Prop} (hgd : o.guard = none) (s x : Operand) (t : TypeId)
    (ho : o.op = .call { callee := .builtin .append, args := #[s, x], argTypes := #[t, t] })
    (base : Nat) (e : TypeId) (i : TypeInfo) (z : Value) (size bytes : Nat) (ht : P.underlying t = some (.slice e)) (hi : P.info? e = some i) (hz : i.zero = some z)
    (hsize : i.size = size) (hby : i.bytes = bytes) (hzs : z.cells.size = size) (hsz : 0 < size)
    (v : Value) (n : Nat) (xs : List Value) (hs : a.eval s = v) (hown : w.ownsRow base e size v n xs)
    (xa : Option Addr) (m c : Nat) (news : List Value) (hx : a.eval x = .slice xa m c) (hl : news.length = m * size) (hnews : m = 0 ∨ ∃ ad, xa = some ad ∧ ∀ j u, news[j]? = some u → w.cell? (ad.add j) = some u) (h1 : ∀ u ∈ news, u.oneCell' = true)
    (h63 : n + m ≤ maxLen) (hbytes : (n + m) * bytes ≤ 140737488355328) (hbase : base ≤ w.heap.size)
    (h : ∀ va vn vc w', w'.ownsRow base e size (.slice va vn vc) (n + m) (xs ++ news) → w.grownBy w' v.ownBlock → wpList P ops Q rest (a.put o.dst (.slice va vn vc)) w') : wpList P ops Q (o :: rest) a w :=
  wpList_plain hgd fun K hK => by
    have h2 := step_append_all (P := P) (ops := #[]) (K := K) (Q := Q) (E := True) hgd s x t ho base e i z size bytes ht hi hz hsize hby hzs hsz v n xs hs hown xa m c news hx hl hnews h1 h63 hbytes hbase (fun va vn vc w' k1 k2 => hK _ _ (h va vn vc w' k1 k2))
    have hw : Region.wanted o (yielded #[] a.tmps) = true := by simp [Region.wanted, hgd]
    rw [if_pos hw] at h2
    exact h2
end Go.Proofs.YtgdfipmdmgkidaaGreatDoor

/- Mathematics: the cells of a file: which there are behind an alteration, which of them live. -/
namespace Go.Proofs.YtgdfipmdmgkidaaGreatDoor
open Go.RowKit

/-- The patch that brought a cell. -/
def sid (s : Spot) : Pid := ⟨s.a, s.b, s.c, s.d⟩
/-- A cell, alive or dead. -/
def cid (s : Spot) : Pid × Int := (sid s, s.num)
theorem cid_dead (s : Spot) : cid (deadS s) = cid s := rfl
theorem cids_dead (S : List Spot) : (deadRow S).map cid = S.map cid := by
  unfold deadRow
  rw [List.map_map]
  rfl

theorem tail_mem {F : List Spot} : ∀ (QB : List (Quad × List Spot)) (c : Nat) (s : Spot), s ∈ tailRow F c QB → s ∈ F ∨ (∃ t ∈ F, s = deadS t) ∨ ∃ r ∈ QB, s ∈ r.2
  | [], c, s, h => .inl (List.mem_of_mem_drop h)
  | (q, B) :: R, c, s, h => by
    unfold tailRow at h
    rcases List.mem_append.1 h with h | h
    · exact .inl (List.mem_of_mem_take (List.mem_of_mem_drop h))
    · rcases List.mem_append.1 h with h | h
      · obtain ⟨t, ht, rfl⟩ := List.mem_map.1 h
        exact .inr (.inl ⟨t, List.mem_of_mem_take (List.mem_of_mem_drop ht), rfl⟩)
      · rcases List.mem_append.1 h with h | h
        · exact .inr (.inr ⟨(q, B), List.mem_cons_self, h⟩)
        · rcases tail_mem R _ s h with h | h | ⟨r, hr, h⟩
          · exact .inl h
          · exact .inr (.inl h)
          · exact .inr (.inr ⟨r, List.mem_cons_of_mem _ hr, h⟩)

theorem split_three (F : List Spot) {c a b : Nat} (hca : c ≤ a) (hab : a ≤ b) : F.drop c = (F.take a).drop c ++ ((F.take b).drop a ++ F.drop b) := by
  have h1 : F.drop a = (F.take b).drop a ++ F.drop b := by
    conv => lhs; rw [← List.take_append_drop b F]
    by_cases hb : b ≤ F.length
    · rw [List.drop_append_of_le_length (by simp; omega)]
    · rw [List.drop_of_length_le (show F.length ≤ b by omega), List.append_nil, List.append_nil]
  have h2 : F.drop c = (F.take a).drop c ++ F.drop a := by
    conv => lhs; rw [← List.take_append_drop a F]
    by_cases ha : a ≤ F.length
    · rw [List.drop_append_of_le_length (by simp; omega)]
    · rw [List.drop_of_length_le (show F.length ≤ a by omega), List.append_nil, List.append_nil]
  rw [h2, h1]

theorem tail_cids {F : List Spot} : ∀ (QB : List (Quad × List Spot)) (x : Nat), GOrd (living F).length x (QB.map (·.1)) →
    ((tailRow F ((living F).getD x 0) QB).map cid).Perm ((F.drop ((living F).getD x 0)).map cid ++ (QB.flatMap (·.2)).map cid)
  | [], x, _ => by simp [tailRow]
  | (q, B) :: R, x, h => by
    have h' : GOrd (living F).length x (q :: R.map (·.1)) := h
    obtain ⟨h1, h2, h3, h4, h5⟩ := GOrd.at h'
    have ih := tail_cids R (q.k + 1) h.2.2.2
    have e : (living F).getD (q.k + 1) 0 = bv F q := rfl
    rw [e] at ih
    unfold tailRow
    rw [split_three F (show (living F).getD x 0 ≤ av F q + 1 by omega) (show av F q + 1 ≤ bv F q by omega)]
    simp only [List.map_append, cids_dead, List.flatMap_cons, List.append_assoc]
    refine List.Perm.append_left _ (List.Perm.append_left _ ?_)
    refine ((List.Perm.append_left _ ih).trans ?_)
    rw [← List.append_assoc, ← List.append_assoc]
    exact List.Perm.append_right _ List.perm_append_comm

/-- All cells that the hunks of an alteration bring. -/
def brAll (i : Pid) (N : List ByteArray) : Int → List Quad → List Spot
  | _, [] => []
  | n, q :: R => bring i n (linesAt N q) ++ brAll i N (n + (linesAt N q).length) R
theorem Made.tail {F : List Spot} {i : Pid} {n : Int} {N : List ByteArray} {q : Quad} {Q : List Quad} {h : Hk} {Hs : List Hk} (hm : Made F i n N (q :: Q) (h :: Hs)) : h.N = namedOf F q ∧ h.Br = bring i n (linesAt N q) ∧ Made F i (n + (linesAt N q).length) N Q Hs := by
  obtain ⟨q0, e1, e2, e3⟩ := hm.2 0 h rfl
  cases e1
  refine ⟨e2, e3, by have := hm.1; simpa using this, fun k x hx => ?_⟩
  obtain ⟨q1, e1, e2, e3⟩ := hm.2 (k + 1) x (by simpa using hx)
  exact ⟨q1, by simpa using e1, e2, by simpa [numTo] using e3⟩
theorem made_brings {F : List Spot} {i : Pid} {N : List ByteArray} : ∀ (Q : List Quad) (Hs : List Hk) (n : Int), Made F i n N Q Hs → Hs.flatMap (·.Br) = brAll i N n Q
  | [], Hs, n, h => by
    have : Hs = [] := List.eq_nil_of_length_eq_zero (by simpa using h.1)
    subst this
    rfl
  | q :: Q, [], n, h => by have := h.1; simp at this
  | q :: Q, h :: Hs, n, hm => by
    obtain ⟨_, h2, h3⟩ := hm.tail
    simp only [List.flatMap_cons, brAll]
    rw [h2, made_brings Q Hs _ h3]
theorem brAll_mem {i : Pid} {N : List ByteArray} : ∀ (Q : List Quad) (n : Int) (s : Spot), s ∈ brAll i N n Q → sid s = i ∧ n ≤ s.num ∧ s.num < numTo n N Q ∧ s.alive = true
  | [], n, s, h => by simp [brAll] at h
  | q :: Q, n, s, h => by
    unfold brAll at h
    rcases List.mem_append.1 h with h | h
    · unfold bring brTo at h
      obtain ⟨k, hk, rfl⟩ := List.mem_map.1 h
      have hk := List.mem_range.1 hk
      have := numTo_le (n + (linesAt N q).length) N Q
      refine ⟨rfl, ?_, ?_, rfl⟩
      · simp only [brS]; omega
      · simp only [brS, numTo]; omega
    · obtain ⟨h1, h2, h3, h4⟩ := brAll_mem Q _ s h
      exact ⟨h1, by omega, h3, h4⟩
theorem bring_cids (i : Pid) (n : Int) (L : List ByteArray) : ((bring i n L).map cid).Nodup := by
  unfold bring brTo
  rw [List.map_map, List.Nodup, List.pairwise_map]
  refine List.Pairwise.imp ?_ List.pairwise_lt_range
  intro a b hab e
  simp only [Function.comp, cid, brS, Prod.mk.injEq] at e
  omega
theorem brAll_nodup {i : Pid} {N : List ByteArray} : ∀ (Q : List Quad) (n : Int), ((brAll i N n Q).map cid).Nodup
  | [], n => by simp [brAll]
  | q :: Q, n => by
    unfold brAll
    rw [List.map_append, List.nodup_append]
    refine ⟨bring_cids _ _ _, brAll_nodup Q _, ?_⟩
    intro a ha b hb e
    obtain ⟨s, hs, rfl⟩ := List.mem_map.1 ha
    obtain ⟨t, ht, rfl⟩ := List.mem_map.1 hb
    obtain ⟨_, h2, _⟩ := brAll_mem Q _ t ht
    unfold bring brTo at hs
    obtain ⟨k, hk, rfl⟩ := List.mem_map.1 hs
    have hk := List.mem_range.1 hk
    simp only [cid, brS, Prod.mk.injEq] at e
    omega

theorem framed_mid {X : List Spot} (h1 : ∃ Z, X = begS :: Z) (h2 : ∃ Y, X = Y ++ [endS]) : X = framed (midRow X) := by
  obtain ⟨Z, rfl⟩ := h1
  obtain ⟨Y, hY⟩ := h2
  have hZ : ∃ W, Z = W ++ [endS] := by
    cases Y with
    | nil => simp [begS, endS, edgeS] at hY
    | cons y Y =>
      simp only [List.cons_append, List.cons.injEq] at hY
      exact ⟨Y, hY.2⟩
  obtain ⟨W, rfl⟩ := hZ
  simp [framed, midRow]
theorem qb_brings {F : List Spot} {i : Pid} {n : Int} {N : List ByteArray} {Q : List Quad} {Hs : List Hk} (hm : Made F i n N Q Hs) : (qbOf Q Hs).flatMap (·.2) = brAll i N n Q := by
  rw [← made_brings Q Hs n hm]
  unfold qbOf
  have : (Q.zip (Hs.map (·.Br))).map (·.2) = Hs.map (·.Br) := List.map_snd_zip (by simp [hm.1])
  rw [List.flatMap_def, this, ← List.flatMap_def]

section
variable {S : List Spot} {N : List ByteArray} {i : Pid} {n : Int} {Q : List Quad} {Hs : List Hk}
/-- The row behind an alteration. -/
def altRow (S : List Spot) (Q : List Quad) (Hs : List Hk) : List Spot := midRow (fSeq (framed S) (qbOf Q Hs) Hs.length)
theorem alt_tail (hm : Made (framed S) i n N Q Hs) (hg : GapsR (rowLines S) N 0 0 Q) (hF : (framed S).Nodup) (hid : ∀ s ∈ framed S, ¬ (s.a = i.a ∧ s.b = i.b ∧ s.c = i.c ∧ s.d = i.d)) : tailRow (framed S) 0 (qbOf Q Hs) = framed (altRow S Q Hs) := by
  have ho := hg.ord (Nat.zero_le _) (Nat.zero_le _)
  have hlf := living_framed S
  have hB : ∀ r ∈ qbOf Q Hs, ∀ s ∈ r.2, s ∉ framed S := fun r hr s hs hsF => by
    obtain ⟨m, h⟩ := qb_mem hm r hr
    rw [h] at hs
    exact hid s hsF (bring_id hs)
  have h0 : HkAt (framed S) (qbOf Q Hs) 0 := HkAt.start (living_first S) (by omega) (by rw [qb_map hm, hlf]; exact ho)
  have hl := (HkAt.all hF hB h0 _ (Nat.le_refl _)).last
  have e : altRow S Q Hs = midRow (tailRow (framed S) 0 (qbOf Q Hs)) := by
    unfold altRow
    rw [← qb_len hm, hl]
  rw [e]
  refine framed_mid ?_ ?_
  · exact tail_first _
  · have := tail_end (G := begS :: S) (qbOf Q Hs) 0 0 (by simp) (by
      have e2 : (begS :: S) ++ [endS] = framed S := rfl
      rw [e2, qb_map hm, hlf]
      exact ho)
    exact this
theorem alt_cids (hm : Made (framed S) i n N Q Hs) (hg : GapsR (rowLines S) N 0 0 Q) (hF : (framed S).Nodup) (hid : ∀ s ∈ framed S, ¬ (s.a = i.a ∧ s.b = i.b ∧ s.c = i.c ∧ s.d = i.d)) : ((altRow S Q Hs).map cid).Perm (S.map cid ++ (brAll i N n Q).map cid) := by
  have ho := hg.ord (Nat.zero_le _) (Nat.zero_le _)
  have hlf := living_framed S
  have h := tail_cids (F := framed S) (qbOf Q Hs) 0 (by rw [qb_map hm, hlf]; exact ho)
  rw [living_first, List.drop_zero, alt_tail hm hg hF hid, qb_brings hm] at h
  unfold framed at h
  simp only [List.map_cons, List.map_append, List.cons_append, List.map_nil, List.append_assoc] at h
  have h1 := (List.perm_cons _).1 h
  have h2 : (S.map cid ++ ([cid endS] ++ (brAll i N n Q).map cid)).Perm (S.map cid ++ (brAll i N n Q).map cid ++ [cid endS]) := by
    rw [List.append_assoc]
    exact List.Perm.append_left _ List.perm_append_comm
  have h3 := h1.trans h2
  exact (List.perm_append_right_iff _).1 h3
theorem alt_mem (hm : Made (framed S) i n N Q Hs) (hg : GapsR (rowLines S) N 0 0 Q) (hF : (framed S).Nodup) (hid : ∀ s ∈ framed S, ¬ (s.a = i.a ∧ s.b = i.b ∧ s.c = i.c ∧ s.d = i.d)) {s : Spot} (hs : s ∈ altRow S Q Hs) : (s ∈ framed S) ∨ (∃ t ∈ framed S, s = deadS t) ∨ s ∈ brAll i N n Q := by
  have h : s ∈ tailRow (framed S) 0 (qbOf Q Hs) := by
    rw [alt_tail hm hg hF hid]
    unfold framed
    simp [hs]
  rcases tail_mem _ _ _ h with h | h | ⟨r, hr, h⟩
  · exact .inl h
  · exact .inr (.inl h)
  · refine .inr (.inr ?_)
    rw [← qb_brings hm]
    exact List.mem_flatMap.2 ⟨r, hr, h⟩
end
end Go.Proofs.YtgdfipmdmgkidaaGreatDoor
