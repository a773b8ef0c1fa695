/- The files of a repository: a map of few names; Text, Erase. -/
import Derived.Test.YtgdfipmdmgkidaaGreatDoorQstnd
import Derived.Test.YtgdfipmdmgkidaaGreatDoorPwords
set_option maxHeartbeats 1600000
set_option maxRecDepth 100000
namespace Go.Proofs.YtgdfipmdmgkidaaGreatDoor
open Go.RowKit
open Go.ChangeMaps Go.MapKept
theorem own_tight2 {w : World} {mb n : Nat} {D : DataW Value} (h : w.ownsMap Tryz.prog 9 latElem mb n D) : w.ownsMap Tryz.prog 9 latElem mb (Maps.size D) D := by
  obtain ⟨es, clock, hb, F, _, hD⟩ := h
  exact ⟨es, clock, hb, F, by rw [hD]; simp [Maps.size, length_sorted], hD⟩
theorem nodup_len {α : Type} [DecidableEq α] : ∀ {L M : List α}, L.Nodup → (∀ x ∈ L, x ∈ M) → L.length ≤ M.length
  | [], _, _, _ => Nat.zero_le _
  | x :: L, M, h, hs => by
    rw [List.nodup_cons] at h
    have hx := hs x (by simp)
    have ih := nodup_len (L := L) (M := M.erase x) h.2 (fun y hy => (List.mem_erase_of_ne (fun e : y = x => h.1 (e ▸ hy))).2 (hs y (by simp [hy])))
    rw [List.length_erase_of_mem hx] at ih
    have : 0 < M.length := List.length_pos_of_mem hx
    rw [List.length_cons]
    omega
theorem FK.few {w : World} {mb n : Nat} {f : ByteArray → Option ByteArray} (h : FK w mb f n) {N : List ByteArray} (hN : ∀ x, (f x).isSome = true → x ∈ N) : FK w mb f N.length := by
  obtain ⟨D, h1, h2, h3⟩ := h
  obtain ⟨k1, k2⟩ := keys_facts h1
  have hsz : Maps.size D = (strKeys D).length := by
    obtain ⟨es, hD, _⟩ := h1.keysOf
    rw [hD]
    simp [strKeys, Maps.size]
  have hle : Maps.size D ≤ N.length := by
    rw [hsz]
    have hsub : (strKeys D) ⊆ N.map (fun x => x.data.toList) := fun x hx => by
      have h5 : (f ⟨x.toArray⟩).isSome = true := by
        rw [← h3]
        have e : kl ⟨x.toArray⟩ = .string x := by simp [kl]
        rw [e]
        exact (k2 x).1 hx
      refine List.mem_map.2 ⟨⟨x.toArray⟩, hN _ h5, by simp⟩
    have := nodup_len k1 hsub
    simpa using this
  obtain ⟨es, clock, hb, F, hn, hD⟩ := own_tight2 h1
  exact ⟨D, ⟨es, clock, hb, F, by omega, hD⟩, h2, h3⟩
theorem FK.del {w' : World} {mb n : Nat} {f : ByteArray → Option ByteArray} {D : DataW Value} (h2 : ∀ x, D.atKey (kl x) (.held (fileS ⟨#[]⟩)) = .held (fileS ((f x).getD ⟨#[]⟩))) (h3 : ∀ x, Maps.has D (kl x) = (f x).isSome) (_hT : Maps.Tidy D) (a : ByteArray) (h1 : w'.ownsMap Tryz.prog 9 latElem mb n (D.del (kl a))) : FK w' mb (fun x => if x = a then none else f x) n := by
  refine ⟨_, h1, fun x => ?_, fun x => ?_⟩
  · show _ = DataW.held (fileS ((if x = a then none else f x).getD ⟨#[]⟩))
    by_cases e : x = a
    · subst e
      rw [Maps.atKey_del_same, if_pos rfl]; rfl
    · rw [Maps.atKey_del_other (fun q => e (kl_inj q)), h2, if_neg e]
  · show _ = (if x = a then none else f x).isSome
    by_cases e : x = a
    · subst e
      rw [Maps.has_del_same, if_pos rfl]; rfl
    · rw [Maps.has_del_other (fun q => e (kl_inj q)), h3, if_neg e]
section
variable {B pb rg : Nat} {cap : Cfg} {gb : Nat} {pv : Value} {Ps : List PM} {fb fn : Nat} {f : ByteArray → Option ByteArray} {G : List Pid}
theorem text79_fk {w : World} (h : OneAt w B pb rg cap gb pv Ps fb fn f G) (x : ByteArray) (hx : x.size ≤ 1000) (hn : nameB x = true) :
    Calls Tryz.prog 79 #[.pointer (some ⟨rg, cap.r * 2, none⟩), .string x] w fun e w' => e = .returned (.tuple #[.string ((f x).getD ⟨#[]⟩), .int .i64 (if (f x).isSome = true then 0 else 5)]) ∧ Below w.heap.size w w' := by
  have HN : Hid (Calls Tryz.prog 61 #[.string x] w fun e w' => e = .returned (.bool true) ∧ Below w.heap.size w w') := by
    have := isName42_any x w
    rw [hn] at this
    exact this
  have HO := hid h
  clear h hn
  obtain ⟨t, ht⟩ : ∃ t, (f x).getD ⟨#[]⟩ = t := ⟨_, rfl⟩
  rw [ht]
  cases hs : (f x).isSome
  · have ht0 : t = ⟨#[]⟩ := by rw [← ht]; cases hf : f x <;> simp_all
    have HT0 := hid ht0
    have HL : Hid (∀ u, Below w.heap.size w u → (Instr.lookup 85 (.map (some fb)) (.string x) true).run Tryz.prog u = .ok (.tuple #[.agg #[.string t], .bool false]) u) := fun u hu => by
      have := (HO.out.below hu).files.look x (by omega)
      rw [ht, hs] at this
      exact this
    clear ht hs ht0
    go_enter Tryz.func79, Tryz.ntmps79
    go_wp2_with fail
    refine HN.out.mono ?_
    rintro e w1 ⟨rfl, hb⟩
    clear HN
    have c1 := (HO.out.below hb).r1
    have hlk := HL.out w1 hb
    have hr := (HO.out.below hb).lts.2.1
    clear HL
    go_wp2
    go_ret2
    rw [HT0.out]
    exact ⟨rfl, hb.alloc hb.size _⟩
  · have HL : Hid (∀ u, Below w.heap.size w u → (Instr.lookup 85 (.map (some fb)) (.string x) true).run Tryz.prog u = .ok (.tuple #[.agg #[.string t], .bool true]) u) := fun u hu => by
      have := (HO.out.below hu).files.look x (by omega)
      rw [ht, hs] at this
      exact this
    clear ht hs
    go_enter Tryz.func79, Tryz.ntmps79
    go_wp2_with fail
    refine HN.out.mono ?_
    rintro e w1 ⟨rfl, hb⟩
    clear HN
    have c1 := (HO.out.below hb).r1
    have hlk := HL.out w1 hb
    have hr := (HO.out.below hb).lts.2.1
    clear HL
    go_wp2
    go_ret2
    exact ⟨rfl, hb.alloc hb.size _⟩
theorem text50_one {w : World} (h : OneAt w B pb rg cap gb pv Ps fb fn f G) (x : ByteArray) (hx : x.size ≤ 1000) (hn : nameB x = true) :
    Calls Tryz.prog 50 #[.pointer (some ⟨pb, 0, none⟩), .int .i64 cap.r, .string x] w fun e w' => e = .returned (.tuple #[.string ((f x).getD ⟨#[]⟩), .int .i64 (if (f x).isSome = true then 0 else 5)]) ∧ Below w.heap.size w w' := by
  have HA := hid (has26_zero h)
  have HK := hid (text79_fk h x hx hn)
  have c0 := h.c0
  have hcap := h.cap1
  obtain ⟨T, hTe⟩ : ∃ T, (f x).getD ⟨#[]⟩ = T := ⟨_, rfl⟩
  obtain ⟨c, hce⟩ : ∃ c : Int, (if (f x).isSome = true then 0 else 5) = c := ⟨_, rfl⟩
  rw [hTe, hce] at HK ⊢
  clear h hTe hce
  go_enter Tryz.func50, Tryz.ntmps50
  go_wp2_with fail
  refine HA.out.mono ?_
  rintro e w0 ⟨rfl, rfl⟩
  clear HA
  go_wp2_with fail
  refine HK.out.mono ?_
  rintro e w1 ⟨rfl, h2⟩
  clear HK
  go_wp2
  go_ret2
  exact ⟨rfl, h2⟩
theorem erase136_fk {w : World} (h : OneAt w B pb rg cap gb pv Ps fb fn f G) (hB : B ≤ w.heap.size) (x : ByteArray) (hx : x.size ≤ 1000) (hn : nameB x = true) :
    Calls Tryz.prog 136 #[.pointer (some ⟨rg, cap.r * 2, none⟩), .string x] w fun e w' => e = .returned (.int .i64 (if (f x).isSome = true then 0 else 5)) ∧ OneAt w' B pb rg cap gb pv Ps fb fn (fun y => if y = x then none else f y) G ∧ Below B w w' ∧ HeldT (fun t => t = 9 ∨ t = 53 ∨ t = 45) w w' := by
  have HK := hid (text79_fk h x hx hn)
  have HO := hid h
  clear h
  obtain ⟨t, ht⟩ : ∃ t, (f x).getD ⟨#[]⟩ = t := ⟨_, rfl⟩
  rw [ht] at HK
  clear ht
  cases hs : (f x).isSome
  · have HE : Hid ((fun y => if y = x then none else f y) = f) := by
      show _ = _
      funext y
      by_cases e : y = x
      · subst e; rw [if_pos rfl]; cases hf : f y <;> simp_all
      · rw [if_neg e]
    rw [hs] at HK
    clear hs
    go_enter Tryz.func136, Tryz.ntmps136
    go_wp2_with fail
    refine HK.out.mono ?_
    rintro e w1 ⟨rfl, hb⟩
    clear HK
    go_wp2
    go_ret
    rw [HE.out]
    exact ⟨rfl, HO.out.below hb, hb.mono hB, HeldT.of_below hb⟩
  · rw [hs] at HK
    clear hs
    go_enter Tryz.func136, Tryz.ntmps136
    go_wp2_with fail
    refine HK.out.mono ?_
    rintro e w1 ⟨rfl, hb⟩
    clear HK
    have c1 := (HO.out.below hb).r1
    obtain ⟨D, hown, h2, h3⟩ := (HO.out.below hb).files
    have H2 := hid h2
    have H3 := hid h3
    have HB := hid hb
    clear h2 h3 hb
    go_wp2_with (at_delete; refine wpList_delete_own _ rfl _ _ 85 9 rfl 105 (Maps.string_keyed Tryz.underlying9) Tryz.underlying85 latElem fb _ D rfl hown _ (kl x) rfl (kl_of (by unfold maxLen; omega)) ?_; intro w2 hown2 hturn2)
    go_ret
    have hO1 := HO.out.below HB.out
    have hg := hturn2.grown
    have hs1 := HB.out.size
    refine ⟨rfl, hO1.map_put hg hO1.files.map (.inr rfl) (hO1.given.same (hg.block gb hO1.lts.2.2.1 (by simp; exact HO.out.ne))) (FK.del H2.out H3.out (hown.tidy (Maps.string_keyed Tryz.underlying9)) x hown2), (HB.out.mono hB).trans ⟨hg.os, hg.tape, hg.output, hg.size, fun k hk => hg.block k (by omega) (by have := HO.out.lo; simp; omega)⟩, (HeldT.of_below HB.out).trans (HeldT.of_map hg hO1.files.map)⟩
theorem erase80_one {w : World} (h : OneAt w B pb rg cap gb pv Ps fb fn f G) (hB : B ≤ w.heap.size) (x : ByteArray) (hx : x.size ≤ 1000) (hn : nameB x = true) :
    Calls Tryz.prog 80 #[.pointer (some ⟨pb, 0, none⟩), .int .i64 cap.r, .string x] w fun e w' => ∃ c : Int, e = .returned (.int .i64 c) ∧ (c = 0 ∨ c = 5) ∧ OneAt w' B pb rg cap gb pv Ps fb fn (fun y => if y = x then none else f y) G ∧ Below B w w' ∧ HeldT (fun t => t = 9 ∨ t = 53 ∨ t = 45) w w' := by
  have HA := hid (has26_zero h)
  have HK : Hid (Calls Tryz.prog 136 #[.pointer (some ⟨rg, cap.r * 2, none⟩), .string x] w fun e w' => ∃ c : Int, e = .returned (.int .i64 c) ∧ (c = 0 ∨ c = 5) ∧ OneAt w' B pb rg cap gb pv Ps fb fn (fun y => if y = x then none else f y) G ∧ Below B w w' ∧ HeldT (fun t => t = 9 ∨ t = 53 ∨ t = 45) w w') := (erase136_fk h hB x hx hn).mono fun e w' ⟨h1, h2, h3⟩ => ⟨_, h1, by split <;> simp, h2, h3⟩
  have c0 := h.c0
  have hcap := h.cap1
  clear h
  go_enter Tryz.func80, Tryz.ntmps80
  go_wp2_with fail
  refine HA.out.mono ?_
  rintro e w0 ⟨rfl, rfl⟩
  clear HA
  go_wp2_with fail
  refine HK.out.mono ?_
  rintro e w1 ⟨c, rfl, h1, h2, h3⟩
  clear HK
  have H2 := hid h2
  clear h2
  go_wp2
  go_ret
  exact ⟨c, rfl, h1, H2.out, h3⟩
theorem write16_one {w : World} (h : OneAt w B pb rg cap gb pv Ps fb fn f G) (hB : B ≤ w.heap.size) (name text : ByteArray) (hfn : fn ≤ 1000) (hs : name.size ≤ 1000) (hn : nameB name = true) (hl : linesOk text = true) (hf : (f name).isSome = true ∨ fn < 5) :
    Calls Tryz.prog 16 #[.pointer (some ⟨pb, 0, none⟩), .int .i64 cap.r, .string name, .string text] w fun e w' => e = .returned (.int .i64 0) ∧ OneAt w' B pb rg cap gb pv Ps fb (fn + 1) (fun x => if x = name then some text else f x) G ∧ Below B w w' ∧ HeldT (fun t => t = 9 ∨ t = 53 ∨ t = 45) w w' := by
  have HA := hid (has26_zero h)
  have HW : Hid (Calls Tryz.prog 43 #[.pointer (some ⟨rg, cap.r * 2, none⟩), .string name, .string text] w fun e w' => e = .returned (.int .i64 0) ∧ OneAt w' B pb rg cap gb pv Ps fb (fn + 1) (fun x => if x = name then some text else f x) G ∧ Below B w w' ∧ HeldT (fun t => t = 9 ∨ t = 53 ∨ t = 45) w w') := by
    refine (write27_yes f fb fn rg (cap.r * 2) name text w h.files hfn h.r1 h.lts.2.1 hs hn hl hf).mono ?_
    rintro e w' ⟨rfl, u, hu, h1, h2⟩
    have hO := h.below hu
    have hus := hu.size
    refine ⟨rfl, hO.map_put h2 hO.files.map (.inr rfl) (hO.given.same (h2.block gb hO.lts.2.2.1 (by simp; exact h.ne))) h1, (hu.mono hB).trans ⟨h2.os, h2.tape, h2.output, h2.size, fun k hk => h2.block k (by omega) (by have := h.lo; simp; omega)⟩, (HeldT.of_below hu).trans (HeldT.of_map h2 hO.files.map)⟩
  have c0 := h.c0
  have hcap := h.cap1
  clear h hn hl hf
  go_enter Tryz.func16, Tryz.ntmps16
  go_wp2_with fail
  refine HA.out.mono ?_
  rintro e w0 ⟨rfl, rfl⟩
  clear HA
  go_wp2_with fail
  refine HW.out.mono ?_
  rintro e w1 ⟨rfl, h2, h3⟩
  clear HW
  have HX := hid h2
  clear h2
  go_wp2
  go_ret
  exact ⟨rfl, HX.out, h3⟩
theorem OneAt.few {w : World} (h : OneAt w B pb rg cap gb pv Ps fb fn f G) {N : List ByteArray} (hN : ∀ x, (f x).isSome = true → x ∈ N) : OneAt w B pb rg cap gb pv Ps fb N.length f G :=
  ⟨h.lo, h.wb, h.row, h.given, h.own, h.chs, h.files.few hN, h.ne, h.cap1, h.oths⟩
end
end Go.Proofs.YtgdfipmdmgkidaaGreatDoor

/- The files are laid as they are kept. -/
set_option maxHeartbeats 3200000
set_option maxRecDepth 100000
namespace Go.Proofs.YtgdfipmdmgkidaaGreatDoor
open Go.RowKit
open Go.ChangeMaps Go.MapKept
structure LayS (rg ro fb N : Nat) (x : ByteArray) (t : ByteArray) (w : World) : Prop where
  m : w.cell? ⟨rg, ro + 1, none⟩ = some (.map (some fb))
  n : w.cell? ⟨N, 0, none⟩ = some (.string x)
  t : w.cell? ⟨N, 2, none⟩ = some (.string t)
section
variable {B pb rg : Nat} {cap : Cfg} {gb : Nat} {pv : Value} {Ps : List PM} {fb fn : Nat} {f : ByteArray → Option ByteArray} {G : List Pid}
theorem lay190_there {w : World} (h : OneAt w B pb rg cap gb pv Ps fb fn f G) (hB : B ≤ w.heap.size) (hfn : fn ≤ 1000) (x t : ByteArray) (hx : x.size ≤ 1000) :
    Calls Tryz.prog 190 #[.pointer (some ⟨rg, cap.r * 2, none⟩), .agg #[.string x, .bool true, .string t]] w fun e w' => e = .returned (.tuple #[]) ∧ OneAt w' B pb rg cap gb pv Ps fb (fn + 1) (fun y => if y = x then some t else f y) G ∧ Below B w w' ∧ HeldT (fun _ => True) w w' ∧ ∀ k, k < w.heap.size → k ≠ fb → w'.heap[k]? = w.heap[k]? := by
  obtain ⟨w1, hw1⟩ : ∃ w1, w1 = w.alloc (.cells #[.string x, .bool true, .string t] 118) := ⟨_, rfl⟩
  have hb1 : Below w.heap.size w w1 := by rw [hw1]; exact (Below.refl _ _).alloc (Nat.le_refl _) _
  have hk1 : w1.heap[w.heap.size]? = some (.cells #[.string x, .bool true, .string t] 118 (0, 0)) := by rw [hw1]; exact (MapKept.heap_alloc w _).1
  have hs1 : w.heap.size < w1.heap.size := by rw [hw1]; simp
  obtain ⟨r0, r1, r2⟩ := cells3_at hk1
  have h1 := h.below hb1
  have HS1 : Hid (LayS rg (cap.r * 2) fb w.heap.size x t w1.drew) := ⟨h1.r1, r0, r2⟩
  obtain ⟨w2, hup, hF2, hg2⟩ := h1.drew.files.put (by omega) x t (by omega)
  have hg2' : w1.grownBy w2 (some fb) := ⟨hg2.os, hg2.tape, hg2.output, hg2.size, hg2.block⟩
  have HX : Hid (OneAt w2 B pb rg cap gb pv Ps fb (fn + 1) (fun y => if y = x then some t else f y) G ∧ Below B w w2 ∧ HeldT (fun _ => True) w w2 ∧ ∀ k, k < w.heap.size → k ≠ fb → w2.heap[k]? = w.heap[k]?) := by
    refine ⟨h1.map_put hg2' h1.files.map (.inr rfl) (h1.given.same (hg2'.block gb h1.lts.2.2.1 (by simp; exact h.ne))) hF2, (hb1.mono hB).trans ⟨hg2'.os, hg2'.tape, hg2'.output, hg2'.size, fun k hk => hg2'.block k (by omega) (by have := h.lo; simp; omega)⟩, (HeldT.of_below hb1).trans (HeldT.of_map hg2' h1.files.map), fun k hk hne => (hg2'.block k (by omega) (by simp; exact hne)).trans (hb1.block k hk)⟩
  unfold fileS at hup
  clear h h1 hk1 hF2 hg2 hg2' hb1
  go_enter Tryz.func190, Tryz.ntmps190
  go_wp2_with fail
  rw [← hw1]
  clear hw1
  go_wp2_with fail
  refine wp_region_Z (LayS rg (cap.r * 2) fb w.heap.size x t) 9 (by kernel_rfl) ?_
  refine zt 0 (v := ?z1) HS1.out (fun w0 hS0 => ?hy) ?_
  case hy => obtain ⟨s1, s2, s3⟩ := hS0; go_simp; with_reducible rfl
  simp only [Act.put, List.setIfInBounds_toArray]
  refine zt 1 (v := ?z2) HS1.out (fun w0 hS0 => ?hy) ?_
  case hy => obtain ⟨s1, s2, s3⟩ := hS0; go_simp; with_reducible rfl
  simp only [Act.put]
  refine zt 2 (v := ?z3) HS1.out (fun w0 hS0 => ?hy) ?_
  case hy => obtain ⟨s1, s2, s3⟩ := hS0; go_simp; with_reducible rfl
  simp only [Act.put]
  refine zt 3 (v := ?z4) HS1.out (fun w0 hS0 => ?hy) ?_
  case hy => obtain ⟨s1, s2, s3⟩ := hS0; go_simp; with_reducible rfl
  simp only [Act.put]
  refine zt 4 (v := ?z5) HS1.out (fun w0 hS0 => ?hy) ?_
  case hy => obtain ⟨s1, s2, s3⟩ := hS0; go_simp; with_reducible rfl
  simp only [Act.put]
  refine zt 5 (v := ?z6) HS1.out (fun w0 hS0 => ?hy) ?_
  case hy => obtain ⟨s1, s2, s3⟩ := hS0; go_simp; with_reducible rfl
  simp only [Act.put]
  refine zt 6 (v := ?z7) HS1.out (fun w0 hS0 => ?hy) ?_
  case hy => obtain ⟨s1, s2, s3⟩ := hS0; go_simp; with_reducible rfl
  simp only [Act.put]
  refine zt 7 (v := ?z8) HS1.out (fun w0 hS0 => ?hy) ?_
  case hy => obtain ⟨s1, s2, s3⟩ := hS0; go_simp; with_reducible rfl
  simp only [Act.put]
  refine zt 8 (v := ?z9) HS1.out (fun w0 hS0 => ?hy) ?_
  case hy => obtain ⟨s1, s2, s3⟩ := hS0; go_simp; with_reducible rfl
  simp only [Act.put]
  refine wpZ_one 9 _ rfl (by kernel_rfl) (fun KK hK => ?_)
  go_simp
  refine hK.out _ _ (fun h => absurd rfl h) ?_
  clear hK hup
  refine wpZ_done (by kernel_rfl) ?_ _
  go_wp2
  refine bodyPost_end (results_none rfl _ _ _) rfl ?_
  exact ⟨rfl, HX.out⟩
theorem lay190_gone {w : World} (h : OneAt w B pb rg cap gb pv Ps fb fn f G) (hB : B ≤ w.heap.size) (_hfn : fn ≤ 1000) (x : ByteArray) (hx : x.size ≤ 1000) :
    Calls Tryz.prog 190 #[.pointer (some ⟨rg, cap.r * 2, none⟩), .agg #[.string x, .bool false, .string ⟨#[]⟩]] w fun e w' => e = .returned (.tuple #[]) ∧ OneAt w' B pb rg cap gb pv Ps fb fn (fun y => if y = x then none else f y) G ∧ Below B w w' ∧ HeldT (fun _ => True) w w' ∧ ∀ k, k < w.heap.size → k ≠ fb → w'.heap[k]? = w.heap[k]? := by
  obtain ⟨w1, hw1⟩ : ∃ w1, w1 = w.alloc (.cells #[.string x, .bool false, .string ⟨#[]⟩] 118) := ⟨_, rfl⟩
  have hb1 : Below w.heap.size w w1 := by rw [hw1]; exact (Below.refl _ _).alloc (Nat.le_refl _) _
  have hk1 : w1.heap[w.heap.size]? = some (.cells #[.string x, .bool false, .string ⟨#[]⟩] 118 (0, 0)) := by rw [hw1]; exact (MapKept.heap_alloc w _).1
  have hs1 : w.heap.size < w1.heap.size := by rw [hw1]; simp
  obtain ⟨r0, r1, r2⟩ := cells3_at hk1
  have h1 := h.below hb1
  have HS1 : Hid (LayS rg (cap.r * 2) fb w.heap.size x ⟨#[]⟩ w1.drew) := ⟨h1.r1, r0, r2⟩
  obtain ⟨D, hown, k2, k3⟩ := h1.drew.files
  obtain ⟨w2, hdel, hown2, hturn2⟩ := hown.drop (Maps.string_keyed Tryz.underlying9) Tryz.underlying85 (kl_of (s := x) (by unfold maxLen; omega)) 0
  have hg2 := hturn2.grown
  have hF2 := FK.del k2 k3 (hown.tidy (Maps.string_keyed Tryz.underlying9)) x hown2
  have hg2' : w1.grownBy w2 (some fb) := ⟨hg2.os, hg2.tape, hg2.output, hg2.size, hg2.block⟩
  have HX : Hid (OneAt w2 B pb rg cap gb pv Ps fb fn (fun y => if y = x then none else f y) G ∧ Below B w w2 ∧ HeldT (fun _ => True) w w2 ∧ ∀ k, k < w.heap.size → k ≠ fb → w2.heap[k]? = w.heap[k]?) := by
    refine ⟨h1.map_put hg2' h1.files.map (.inr rfl) (h1.given.same (hg2'.block gb h1.lts.2.2.1 (by simp; exact h.ne))) hF2, (hb1.mono hB).trans ⟨hg2'.os, hg2'.tape, hg2'.output, hg2'.size, fun k hk => hg2'.block k (by omega) (by have := h.lo; simp; omega)⟩, (HeldT.of_below hb1).trans (HeldT.of_map hg2' h1.files.map), fun k hk hne => (hg2'.block k (by omega) (by simp; exact hne)).trans (hb1.block k hk)⟩
  have HS2 : Hid (LayS rg (cap.r * 2) fb w.heap.size x ⟨#[]⟩ w2) := by
    have hfb := h.lts.2.2.2
    have e := hg2'.block w.heap.size (by omega) (by simp; omega)
    obtain ⟨a0, a1, a2⟩ := cells3_at (e.trans hk1)
    exact ⟨HX.out.1.r1, a0, a2⟩
  clear h h1 hk1 hF2 hg2 hg2' hb1 hown hown2 hturn2 k2 k3
  go_enter Tryz.func190, Tryz.ntmps190
  go_wp2_with fail
  rw [← hw1]
  clear hw1
  go_wp2_with fail
  refine wp_region_Z (LayS rg (cap.r * 2) fb w.heap.size x ⟨#[]⟩) 99 (by kernel_rfl) ?_
  refine zt 0 (v := ?z10) HS1.out (fun w0 hS0 => ?hy) ?_
  case hy => obtain ⟨s1, s2, s3⟩ := hS0; go_simp; with_reducible rfl
  simp only [Act.put, List.setIfInBounds_toArray]
  refine zt 1 (v := ?z11) HS1.out (fun w0 hS0 => ?hy) ?_
  case hy => obtain ⟨s1, s2, s3⟩ := hS0; go_simp; with_reducible rfl
  simp only [Act.put]
  refine zt 2 (v := ?z12) HS1.out (fun w0 hS0 => ?hy) ?_
  case hy => obtain ⟨s1, s2, s3⟩ := hS0; go_simp; with_reducible rfl
  simp only [Act.put]
  refine zt 3 (v := ?z13) HS1.out (fun w0 hS0 => ?hy) ?_
  case hy => obtain ⟨s1, s2, s3⟩ := hS0; go_simp; with_reducible rfl
  simp only [Act.put]
  refine zt 4 (v := ?z14) HS1.out (fun w0 hS0 => ?hy) ?_
  case hy => obtain ⟨s1, s2, s3⟩ := hS0; go_simp; with_reducible rfl
  simp only [Act.put]
  refine zt 5 (v := ?z15) HS1.out (fun w0 hS0 => ?hy) ?_
  case hy => obtain ⟨s1, s2, s3⟩ := hS0; go_simp; with_reducible rfl
  simp only [Act.put]
  refine wpZ_one 6 _ rfl (by kernel_rfl) (fun KK hK => ?_)
  go_simp
  refine hK.out _ _ (fun _ => HS2.out) ?_
  clear hK hdel
  refine wpZ_done (by kernel_rfl) ?_ _
  go_wp2
  refine bodyPost_end (results_none rfl _ _ _) rfl ?_
  exact ⟨rfl, HX.out⟩
end
end Go.Proofs.YtgdfipmdmgkidaaGreatDoor

/- All goes back to what is kept. -/
set_option maxHeartbeats 6400000
set_option maxRecDepth 100000
namespace Go.Proofs.YtgdfipmdmgkidaaGreatDoor
open Go.RowKit
open Go.ChangeMaps Go.MapKept
def keptO (s : ByteArray → PL) (x : ByteArray) : Option ByteArray := if (s x).alive = true then some (rowText (s x).S) else none
open Classical in
noncomputable def keepF (f : ByteArray → Option ByteArray) (s : ByteArray → PL) (L : List ByteArray) (y : ByteArray) : Option ByteArray := if y ∈ L then keptO s y else f y
theorem keepF_nil (f : ByteArray → Option ByteArray) (s : ByteArray → PL) : keepF f s [] = f := by
  funext y
  simp [keepF]
theorem keepF_snoc (f : ByteArray → Option ByteArray) (s : ByteArray → PL) (L : List ByteArray) (x : ByteArray) : (fun y => if y = x then keptO s x else keepF f s L y) = keepF f s (L ++ [x]) := by
  funext y
  unfold keepF
  by_cases e : y = x
  · subst e
    rw [if_pos rfl, if_pos (List.mem_append_right _ (List.mem_singleton_self _))]
  · rw [if_neg e]
    by_cases h : y ∈ L
    · rw [if_pos h, if_pos (List.mem_append_left _ h)]
    · rw [if_neg h, if_neg (by rw [List.mem_append, List.mem_singleton]; exact fun o => o.elim h e)]
section
variable {B pb rg : Nat} {cap : Cfg} {gb : Nat} {pv : Value} {Ps : List PM} {fb fn : Nat} {f : ByteArray → Option ByteArray} {G : List Pid}
theorem lay190_kept {w : World} (h : OneAt w B pb rg cap gb pv Ps fb fn f G) (hB : B ≤ w.heap.size) (hfn : fn ≤ 1000) (s : ByteArray → PL) (x : ByteArray) (hx : x.size ≤ 1000) :
    Calls Tryz.prog 190 #[.pointer (some ⟨rg, cap.r * 2, none⟩), keptPL s x] w fun e w' => e = .returned (.tuple #[]) ∧ OneAt w' B pb rg cap gb pv Ps fb (fn + 1) (fun y => if y = x then keptO s x else f y) G ∧ Below B w w' ∧ HeldT (fun _ => True) w w' ∧ ∀ k, k < w.heap.size → k ≠ fb → w'.heap[k]? = w.heap[k]? := by
  unfold keptPL keptO
  by_cases ha : (s x).alive = true
  · rw [if_pos ha, if_pos ha]
    exact lay190_there h hB hfn x _ hx
  · rw [if_neg ha, if_neg ha]
    refine (lay190_gone h hB hfn x hx).mono ?_
    rintro e w' ⟨h1, h2, h3⟩
    refine ⟨h1, ⟨h2.lo, h2.wb, h2.row, h2.given, h2.own, h2.chs, ?_, h2.ne, h2.cap1, h2.oths⟩, h3⟩
    obtain ⟨D, ⟨es, c, k1, k2, k3, k4⟩, k5⟩ := h2.files
    exact ⟨D, ⟨es, c, k1, k2, by omega, k4⟩, k5⟩
theorem layKept124_any {w : World} (h : OneAt w B pb rg cap gb pv Ps fb fn f G) {st : Nat → Nat → ByteArray → PL} {cnt : Nat → Nat} (hs : Stands Ps st cnt) (hB : B ≤ w.heap.size) (hPs : Ps.length ≤ 1000) (N : List ByteArray) (hN : N.length ≤ 100) (hNf : ∀ x, (f x).isSome = true → x ∈ N) (na : Option Addr) (nn nc : Nat) (L : List ByteArray) (hLN : ∀ x ∈ L, x ∈ N) (hL : View w na L) (hnn : nn = L.length) (hLl : L.length ≤ 1000000)
    (hx : ∀ x ∈ L, x.size ≤ 1000 ∧ (st Ps.length 0 x).S.length ≤ 1000000 ∧ (rowText (st Ps.length 0 x).S).size ≤ 1000000000) :
    Calls Tryz.prog 124 #[.pointer (some ⟨rg, cap.r * 2, none⟩), .slice na nn nc] w fun e w' => e = .returned (.tuple #[]) ∧ OneAt w' B pb rg cap gb pv Ps fb N.length (keepF f (st Ps.length 0) L) G ∧ Below B w w' ∧ HeldT (fun _ => True) w w' := by
  obtain ⟨s, hse⟩ : ∃ s, st Ps.length 0 = s := ⟨_, rfl⟩
  have HK : Hid (Calls Tryz.prog 77 #[.pointer (some ⟨rg, cap.r * 2, none⟩)] w fun e w' => ∃ mb n, e = .returned (.agg #[.map (some mb)]) ∧ TreeAt w' mb s n ∧ n ≤ 100000 ∧ w.heap.size ≤ mb ∧ Below w.heap.size w w') := by
    have := kept_any hs h.view (by omega) h.r0 h.lts.2.1
    rw [hse] at this
    exact this
  rw [hse] at hx ⊢
  have HO := hid (h.few hNf)
  have HX := hid hx
  have HNF := hid hNf
  have HLN := hid hLN
  have HL := hid hL
  clear h hs hse hx hNf hLN hL
  subst hnn
  go_enter Tryz.func124, Tryz.ntmps124
  go_wp2_with fail
  refine HK.out.mono ?_
  rintro e w2 ⟨mb, n, rfl, hT2, hn, hmb, hb2⟩
  clear HK
  obtain ⟨w3, hw3⟩ : ∃ w3, w3 = w2.alloc (.cells #[.map (some mb)] 121) := ⟨_, rfl⟩
  have hb23 : Below w2.heap.size w2 w3 := by rw [hw3]; exact (Below.refl _ _).alloc (Nat.le_refl _) _
  have hb3 : Below w.heap.size w w3 := hb2.trans (hb23.mono hb2.size)
  have hk3 : w3.heap[w2.heap.size]? = some (.cells #[.map (some mb)] 121 (0, 0)) := by rw [hw3]; exact (MapKept.heap_alloc w2 _).1
  have hs3 : w2.heap.size < w3.heap.size := by rw [hw3]; simp
  have hs2 := hb2.size
  have HT3 : Hid (TreeAt w3 mb s n) := hT2.below hb23 (Nat.le_refl _)
  have HO3 := hid (HO.out.below hb3)
  have HK3 := hid hk3
  have HL3 := hid (HL.out.below hb3)
  have HB3 := hid (hb3.mono hB)
  have HW3 : Hid (HeldT (fun _ => True) w w3) := HeldT.of_below hb3
  have hfbw : fb < w.heap.size := HO.out.lts.2.2.2
  have hmb3 := HT3.out.lt
  clear hT2 hb23 hb2 hb3 hk3 HO HL
  go_wp2
  rw [← hw3]
  clear hw3
  go_loopw [11] (fun x wr => ∃ k : Nat, k ≤ L.length ∧ x = .int .i64 k ∧ Hid (OneAt wr B pb rg cap gb pv Ps fb N.length (keepF f s (L.take k)) G ∧ Below B w wr ∧ HeldT (fun _ => True) w3 wr ∧ ∀ k, k < w3.heap.size → k ≠ fb → wr.heap[k]? = w3.heap[k]?)) (fun x _ => L.length - (intOf x).toNat)
  case atStart => exact ⟨0, Nat.zero_le _, rfl, by show _ ∧ _; rw [List.take_zero, keepF_nil]; exact ⟨HO3.out, HB3.out, HeldT.refl _, fun _ _ _ => rfl⟩⟩
  case round =>
    obtain ⟨k, hkl, rfl, HI⟩ := hrel
    by_cases hlt : k < L.length
    · obtain ⟨x, hxe⟩ : ∃ x, L[k] = x := ⟨_, rfl⟩
      have hxm : x ∈ L := by rw [← hxe]; exact List.getElem_mem hlt
      have HSN : Hid (L.take (k + 1) = L.take k ++ [x]) := by show _ = _; rw [List.take_succ_eq_append_getElem hlt, hxe]
      obtain ⟨hO, hB4, hH, hF⟩ := HI.out
      have hszw := hH.size
      have hTr : TreeAt wr mb s n := HT3.out.held (hH.mono (fun _ _ => trivial)) (hF mb hmb3 (by omega))
      have hkr := (hF w2.heap.size hs3 (by omega)).trans HK3.out
      have c0 : wr.cell? ⟨w2.heap.size, 0, none⟩ = some (.map (some mb)) := by simp [World.cell?, hkr]
      obtain ⟨hx1, hx2, hx3⟩ := HX.out x hxm
      have HF : Hid (Calls Tryz.prog 78 #[.agg #[.map (some mb)], .string x] wr fun e w'' => ∃ a b c, keptPL s x = .agg #[.string a, .bool b, .string c] ∧ e = .returned (.agg #[.string a, .bool b, .string c]) ∧ Below wr.heap.size wr w'') := by
        refine (file55_any s mb n x (by omega) wr hTr (by omega) hx2 hx3).mono ?_
        rintro e w' ⟨rfl, hb⟩
        unfold keptPL
        by_cases ha : (s x).alive = true
        · rw [if_pos ha]; exact ⟨_, _, _, rfl, rfl, hb⟩
        · rw [if_neg ha]; exact ⟨_, _, _, rfl, rfl, hb⟩
      have hvw : ∃ b o, na = some ⟨b, o, none⟩ ∧ wr.cell? ⟨b, o + k, none⟩ = some (.string x) := by
        rcases HL3.out with h0 | ⟨b, o, rfl, hb, hcl⟩
        · rw [h0] at hlt
          cases hlt
        · refine ⟨b, o, rfl, ?_⟩
          have h1 := hcl k hlt
          have h2 : L.getD k ByteArray.empty = x := by rw [List.getD_eq_getElem?_getD, List.getElem?_eq_getElem hlt, hxe]; rfl
          rw [h2] at h1
          refine (cell_same (hF b hb ?_) _).trans h1
          rintro rfl
          obtain ⟨es, c, hm⟩ := HO3.out.files.map
          simp [World.cell?, hm] at h1
      obtain ⟨b, o, rfl, cx⟩ := hvw
      clear hxe hO hB4 hH hF hTr hkr
      go_wp2_with fail
      refine HF.out.mono ?_
      rintro e w5 ⟨a', b', c', hke, rfl, hb5⟩
      clear HF
      obtain ⟨hO, hB4, hH, hF⟩ := HI.out
      have hs5 := hb5.size
      have hO5 := hO.below hb5
      have HLY : Hid (Calls Tryz.prog 190 #[.pointer (some ⟨rg, cap.r * 2, none⟩), .agg #[.string a', .bool b', .string c']] w5 fun e w' => e = .returned (.tuple #[]) ∧ OneAt w' B pb rg cap gb pv Ps fb (N.length + 1) (fun y => if y = x then keptO s x else keepF f s (L.take k) y) G ∧ Below B w5 w' ∧ HeldT (fun _ => True) w5 w' ∧ ∀ k, k < w5.heap.size → k ≠ fb → w'.heap[k]? = w5.heap[k]?) := by
        have := lay190_kept hO5 (by have := hB4.size; omega) (by omega) s x hx1
        rw [hke] at this
        exact this
      have HH5 : Hid (Below B w w5 ∧ HeldT (fun _ => True) w3 w5 ∧ ∀ k, k < w3.heap.size → k ≠ fb → w5.heap[k]? = w3.heap[k]?) := ⟨hB4.trans (hb5.mono (by have := hB4.size; omega)), hH.trans (HeldT.of_below hb5), fun k hk hne => (hb5.block k (by omega)).trans (hF k hk hne)⟩
      clear hO hB4 hH hF hO5 hke hb5 HI c0 cx
      go_wp2_with fail
      refine HLY.out.mono ?_
      rintro e w6 ⟨rfl, hO6, hb6, hh6, hf6⟩
      clear HLY
      have HI : Hid (OneAt w6 B pb rg cap gb pv Ps fb N.length (keepF f s (L.take (k + 1))) G ∧ Below B w w6 ∧ HeldT (fun _ => True) w3 w6 ∧ ∀ k, k < w3.heap.size → k ≠ fb → w6.heap[k]? = w3.heap[k]?) := by
        obtain ⟨g1, g2, g3⟩ := HH5.out
        rw [keepF_snoc] at hO6
        refine ⟨?_, g1.trans hb6, g2.trans hh6, fun k hk hne => (hf6 k (by have := g2.size; omega) hne).trans (g3 k hk hne)⟩
        rw [HSN.out]
        refine hO6.few (fun y hy => ?_)
        unfold keepF at hy
        by_cases e : y ∈ L.take k ++ [x]
        · rcases List.mem_append.1 e with e | e
          · exact HLN.out y (List.mem_of_mem_take e)
          · rw [List.mem_singleton] at e
            rw [e]
            exact HLN.out x hxm
        · rw [if_neg e] at hy
          exact HNF.out y hy
      clear hO6 hb6 hh6 hf6 HH5
      go_wp2
      go_roundw
      case rel => exact ⟨k + 1, by omega, by go_num, HI⟩
      case measure => simp [intOf]; omega
    · have e : k = L.length := by omega
      subst e
      rw [List.take_length] at HI
      go_wp2
      refine bodyPost_end (results_none rfl _ _ _) rfl ?_
      exact ⟨rfl, HI.out.1, HI.out.2.1, HW3.out.trans HI.out.2.2.1⟩
theorem keepF_all {s : ByteArray → PL} {L : List ByteArray} (hm : ∀ x, x ∈ L ↔ (f x).isSome = true ∨ (s x).alive = true) : keepF f s L = keptO s := by
  funext y
  unfold keepF
  by_cases h : y ∈ L
  · rw [if_pos h]
  · rw [if_neg h]
    have h1 : ¬ (f y).isSome = true := fun e => h ((hm y).2 (.inl e))
    have h2 : ¬ (s y).alive = true := fun e => h ((hm y).2 (.inr e))
    unfold keptO
    rw [if_neg h2]
    cases hf : f y
    · rfl
    · rw [hf] at h1; simp at h1
theorem revert71_any {w : World} (h : OneAt w B pb rg cap gb pv Ps fb fn f G) {st : Nat → Nat → ByteArray → PL} {cnt : Nat → Nat} (hs : Stands Ps st cnt) (hB : B ≤ w.heap.size) (hPs : Ps.length ≤ 1000) (hfn : fn ≤ 1000) (N : List ByteArray) (hN : N.length ≤ 100) (hNf : ∀ x, (f x).isSome = true → x ∈ N) (hNs : ∀ x, (st Ps.length 0 x).alive = true → x ∈ N)
    (hx : ∀ x ∈ N, x.size ≤ 1000 ∧ (st Ps.length 0 x).S.length ≤ 1000000 ∧ (rowText (st Ps.length 0 x).S).size ≤ 1000000000) :
    Calls Tryz.prog 71 #[.pointer (some ⟨rg, cap.r * 2, none⟩)] w fun e w' => e = .returned (.tuple #[]) ∧ OneAt w' B pb rg cap gb pv Ps fb N.length (keptO (st Ps.length 0)) G ∧ Below B w w' ∧ HeldT (fun t => t = 9 ∨ t = 53) w w' := by
  have HK : Hid (Calls Tryz.prog 77 #[.pointer (some ⟨rg, cap.r * 2, none⟩)] w fun e w' => ∃ mb n, e = .returned (.agg #[.map (some mb)]) ∧ TreeAt w' mb (st Ps.length 0) n ∧ n ≤ 100000 ∧ w.heap.size ≤ mb ∧ Below w.heap.size w w') := kept_any hs h.view (by omega) h.r0 h.lts.2.1
  have HO := hid h
  have HX := hid hx
  have HNF := hid hNf
  have HNS := hid hNs
  have HST := hid hs
  clear h hs hx hNf hNs
  go_enter Tryz.func71, Tryz.ntmps71
  go_wp2_with fail
  refine HK.out.mono ?_
  rintro e w2 ⟨mb, n, rfl, hT2, hn, hmb, hb2⟩
  clear HK
  have hs2 := hb2.size
  have HA : Hid (Calls Tryz.prog 112 #[.pointer (some ⟨rg, cap.r * 2, none⟩), .agg #[.map (some mb)]] w2 fun e w' => ∃ va vn vc L, e = .returned (.slice va vn vc) ∧ w'.ownsRow w2.heap.size 9 1 (.slice va vn vc) L.length (strs L) ∧ (∀ x, x ∈ L ↔ (f x).isSome = true ∨ (st Ps.length 0 x).alive = true) ∧ L.length ≤ fn + n ∧ Below w2.heap.size w2 w') := (HO.out.below hb2).allNames hfn hT2 hn
  clear hT2
  go_wp2_with fail
  refine HA.out.mono ?_
  rintro e w3 ⟨va, vn, vc, L, rfl, h1, h2, h3, hb3⟩
  clear HA
  have hb03 : Below w.heap.size w w3 := hb2.trans (hb3.mono hs2)
  have HL : Hid (Calls Tryz.prog 124 #[.pointer (some ⟨rg, cap.r * 2, none⟩), .slice va vn vc] w3 fun e w' => e = .returned (.tuple #[]) ∧ OneAt w' B pb rg cap gb pv Ps fb N.length (keptO (st Ps.length 0)) G ∧ Below B w3 w' ∧ HeldT (fun t => t = 9 ∨ t = 53) w3 w') := by
    obtain ⟨_, _, e⟩ := own_shape h1
    cases e
    have hm : ∀ x ∈ L, x ∈ N := fun x hx => ((h2 x).1 hx).elim (HNF.out x) (HNS.out x)
    have := layKept124_any (HO.out.below hb03) HST.out (by have := hb03.size; omega) hPs N hN HNF.out va L.length vc L hm (View.own h1) rfl (by omega) (fun x hx => HX.out x (hm x hx))
    rw [keepF_all h2] at this
    exact this.mono fun e w' ⟨a1, a2, a3, a4⟩ => ⟨a1, a2, a3, a4.mono (fun _ _ => trivial)⟩
  clear h1 h2 h3 hb2 hb3
  go_wp2_with fail
  refine HL.out.mono ?_
  rintro e w4 ⟨rfl, h4, hb4, hh4⟩
  clear HL
  have H4 := hid h4
  clear h4
  go_wp2
  refine bodyPost_end (results_none rfl _ _ _) rfl ?_
  exact ⟨rfl, H4.out, (hb03.mono hB).trans hb4, (HeldT.of_below hb03).trans hh4⟩
end
end Go.Proofs.YtgdfipmdmgkidaaGreatDoor

/- The ids of the patches are told. -/
namespace Go.Proofs.YtgdfipmdmgkidaaGreatDoor
open Go.RowKit
theorem idText_size (i : Pid) : (idText i).size = 4 := rfl
def idLn (i : Pid) : List UInt8 := (idText i).data.toList ++ [10]
def logL (ids : List Pid) : List UInt8 := ids.flatMap idLn
theorem idLn_len (i : Pid) : (idLn i).length = 5 := rfl
theorem logL_len : ∀ ids : List Pid, (logL ids).length = 5 * ids.length
  | [] => rfl
  | i :: ids => by
    show (idLn i ++ logL ids).length = _
    rw [List.length_append, logL_len ids, idLn_len, List.length_cons]
    omega
theorem logL_snoc (Ps : List PM) {k : Nat} (hk : k < Ps.length) : logL ((Ps.take (k + 1)).map (·.id)) = logL ((Ps.take k).map (·.id)) ++ idLn Ps[k].id := by
  rw [List.take_succ_eq_append_getElem hk, List.map_append]
  simp [logL]
set_option maxRecDepth 100000 in
set_option maxHeartbeats 3200000 in
theorem ids67_any (Ps : List PM) (pv : Value) (w : World) (hp : PV w pv Ps) (hl : Ps.length ≤ 1000) :
    Calls Tryz.prog 67 #[pv] w fun e w' => e = .returned (.string ⟨(logL (Ps.map (·.id))).toArray⟩) ∧ Below w.heap.size w w' := by
  have HPV := hid hp
  obtain ⟨pa, pc, rfl, hcc⟩ := hp
  clear hcc
  obtain ⟨w3, hw3⟩ : ∃ w3, w3 = w.alloc (.cells #[.pointer none, .slice none 0 0] 158) := ⟨_, rfl⟩
  have hb3 : Below w.heap.size w w3 := by rw [hw3]; exact (Below.refl _ _).alloc (Nat.le_refl _) _
  have hR : w3.heap[w.heap.size]? = some (.cells #[.pointer none, .slice none 0 0] 158 (0, 0)) := by rw [hw3]; exact (MapKept.heap_alloc w _).1
  have hs3' : w.heap.size < w3.heap.size := by rw [hw3]; simp
  have HB0 : Hid (Lib.IsBuilderF 158 5 w.heap.size w.heap.size (Lib.byteCells []) w3) := .inl ⟨Nat.le_refl _, .slice none 0 0, hR, World.ownsRowF_of (World.ownsRow_nil _ _ _ _), by simp [Value.ownBlock]⟩
  clear hR
  go_enter Tryz.func67, Tryz.ntmps67
  go_wp2
  rw [← hw3]
  clear hw3
  go_loopw [8] (fun x wr => ∃ k : Nat, k ≤ Ps.length ∧ x = .int .i64 k ∧ Hid (Lib.IsBuilderF 158 5 w.heap.size w.heap.size (Lib.byteCells (logL ((Ps.take k).map (·.id)))) wr) ∧ Below w.heap.size w3 wr) (fun x _ => Ps.length - (intOf x).toNat)
  case atStart => exact ⟨0, Nat.zero_le _, rfl, by show Lib.IsBuilderF _ _ _ _ _ _; rw [List.take_zero]; exact HB0.out, Below.refl _ _⟩
  case round =>
    clear HB0
    obtain ⟨k, hkl, rfl, HB, hbw⟩ := hrel
    have hszr := hbw.size
    have hbw0 : Below w.heap.size w wr := hb3.trans hbw
    have hgl : (logL ((Ps.take k).map (·.id))).length ≤ 5000 := by rw [logL_len]; simp; omega
    by_cases hlt : k < Ps.length
    · obtain ⟨P, hP⟩ : ∃ P, Ps[k] = P := ⟨_, rfl⟩
      have hck : Ps[k]? = some P := by rw [List.getElem?_eq_getElem hlt, hP]
      have HG : Hid (logL ((Ps.take (k + 1)).map (·.id)) = logL ((Ps.take k).map (·.id)) ++ idLn P.id) := by show _ = _; rw [logL_snoc Ps hlt, hP]
      obtain ⟨_, _, e1, hc1⟩ := HPV.out.below hbw0 (Nat.le_refl _)
      cases e1
      obtain ⟨b, o, rfl, hb, d0, d1, d2, d3, d4, hcv⟩ := hc1 k P hck
      obtain ⟨qa, qn, qc, hqv⟩ := hcv.cvS
      rw [hqv] at d4
      obtain ⟨A, hA⟩ : ∃ A, logL ((Ps.take k).map (·.id)) = A := ⟨_, rfl⟩
      rw [hA] at HG HB hgl
      obtain ⟨w4, hw4⟩ : ∃ w4, w4 = wr.alloc (.cells #[.int .u8 P.id.a, .int .u8 P.id.b, .int .u8 P.id.c, .int .u8 P.id.d, .slice qa qn qc] 149) := ⟨_, rfl⟩
      have hb4 : Below wr.heap.size wr w4 := by rw [hw4]; exact (Below.refl _ _).alloc (Nat.le_refl _) _
      have hk4 := (MapKept.heap_alloc wr (.cells #[.int .u8 P.id.a, .int .u8 P.id.b, .int .u8 P.id.c, .int .u8 P.id.d, .slice qa qn qc] 149)).1
      rw [← hw4] at hk4
      have hs4 : wr.heap.size < w4.heap.size := by rw [hw4]; simp
      obtain ⟨q0, q1, q2, q3, q4⟩ := cells5_at hk4
      have HB4 := hid (bld_below HB.out hb4)
      have HST := hid (string115_any P.id w4)
      obtain ⟨T, hT⟩ : ∃ T, idText P.id = T := ⟨_, rfl⟩
      have hTs : T.size = 4 := by rw [← hT]; rfl
      rw [hT] at HST
      have HIL : Hid (idLn P.id = (T ++ (⟨#[10]⟩ : ByteArray)).data.toList) := by show _ = _; unfold idLn; rw [hT]; simp
      have hTs2 : (T ++ (⟨#[10]⟩ : ByteArray)).size ≤ 5 := by rw [ByteArray.size_append, hTs]; decide
      have hTs3 : T.size + 1 ≤ 5 := by omega
      clear hA hc1 hcv hqv hck hb hT hTs
      go_wp2_with fail
      rw [← hw4]
      clear hw4
      go_wp2_with fail
      refine HST.out.mono ?_
      rintro e w5 ⟨rfl, hb5⟩
      have HB5 := bld_below HB4.out hb5
      have hs5 := hb5.size
      have hbw5 : Below w.heap.size w3 w5 := (hbw.trans (hb4.mono (by omega))).trans (hb5.mono (by omega))
      have HW : Hid (Calls Tryz.prog 114 #[.pointer (some ⟨w.heap.size, 0, none⟩), .string (T ++ (⟨#[10]⟩ : ByteArray))] w5 fun e w' => e = .returned (.tuple #[.int .i64 (T ++ (⟨#[10]⟩ : ByteArray)).size, .nilIface]) ∧ (Lib.BuilderAtF 158 5 w.heap.size w.heap.size (.pointer (some ⟨w.heap.size, 0, none⟩)) (Lib.byteCells A ++ Lib.strCells (T ++ (⟨#[10]⟩ : ByteArray))) w' ∧ Below w.heap.size w5 w' ∧ Lib.OthersKept 5 (some w.heap.size) w5 w')) := Tryz.Builder_WriteString_k _ _ (Lib.byteCells A) (T ++ (⟨#[10]⟩ : ByteArray)) w5 HB5 (by rw [Lib.byteCells_length]; omega) (by omega)
      clear HST HB4 HB5 hb5 hb4 hk4 d0 d1 d2 d3 d4 q0 q1 q2 q3 q4
      go_wp2_with fail
      refine HW.out.mono ?_
      rintro e w6 ⟨rfl, hB6, hb6, _⟩
      clear HW
      rw [Lib.strCells_eq, ← byteCells_app] at hB6
      have hbw6 := hbw5.trans hb6
      go_wp2
      go_roundw
      case rel => exact ⟨k + 1, by omega, by go_num, .inr (by rw [HG.out, HIL.out]; exact hB6), hbw6⟩
      case measure => simp [intOf]; omega
    · have e : k = Ps.length := by omega
      subst e
      rw [List.take_length] at HB hgl
      obtain ⟨A, hA⟩ : ∃ A, logL (Ps.map (·.id)) = A := ⟨_, rfl⟩
      rw [hA] at HB hgl
      have HA := hid hA
      have HS : Hid (Calls Tryz.prog 116 #[.pointer (some ⟨w.heap.size, 0, none⟩)] wr fun e w' => e = .returned (.string ⟨A.toArray⟩) ∧ (Lib.IsBuilderF 158 5 w.heap.size w.heap.size (Lib.byteCells A) w' ∧ Below w.heap.size wr w' ∧ Lib.OthersKept 5 (some w.heap.size) wr w')) := Tryz.Builder_String_any_k _ _ A wr HB.out (by omega)
      clear HB hA
      go_wp2_with fail
      refine HS.out.mono ?_
      rintro e w4 ⟨rfl, _, hbe, _⟩
      clear HS
      go_wp2
      go_ret
      exact ⟨by rw [HA.out]; rfl, hbw0.trans hbe⟩
end Go.Proofs.YtgdfipmdmgkidaaGreatDoor

/- The commands log, revert, unrecord, and record with a name. -/
set_option maxHeartbeats 3200000
set_option maxRecDepth 100000
namespace Go.Proofs.YtgdfipmdmgkidaaGreatDoor
open Go.RowKit
abbrev wdLog : ByteArray := ⟨#[108, 111, 103]⟩
abbrev wdRevert : ByteArray := ⟨#[114, 101, 118, 101, 114, 116]⟩
abbrev wdUnrecord : ByteArray := ⟨#[117, 110, 114, 101, 99, 111, 114, 100]⟩
theorem carry45_log (pb rg ro wb wo wn wc : Nat) (pv : Value) (w : World) (Q : ByteArray → World → Prop) (hw : w.cell? ⟨wb, wo, none⟩ = some (.string wdLog)) (hwn : 1 ≤ wn) (hp : w.cell? ⟨rg, ro, none⟩ = some pv)
    (hN : Calls Tryz.prog 67 #[pv] w fun e w' => ∃ x, e = .returned (.string x) ∧ Q x w') :
    Calls Tryz.prog 45 #[.pointer (some ⟨pb, 0, none⟩), .pointer (some ⟨rg, ro, none⟩), .slice (some ⟨wb, wo, none⟩) wn wc] w fun e w' => ∃ x, e = .returned (.tuple #[.string x, .int .i64 0]) ∧ Q x w' := by
  have HN := hid hN
  clear hN
  have h0 : (0 : Int) < (wn : Int) := by omega
  go_enter Tryz.func45, Tryz.ntmps45
  go_wp2_with fail
  refine HN.out.mono ?_
  rintro e w' ⟨x, rfl, hq⟩
  clear HN
  go_wp2
  go_ret2
  exact ⟨x, rfl, hq⟩
theorem carry45_revert (pb rg ro wb wo wn wc : Nat) (w : World) (Q : World → Prop) (hw : w.cell? ⟨wb, wo, none⟩ = some (.string wdRevert)) (hwn : 1 ≤ wn)
    (hN : Calls Tryz.prog 71 #[.pointer (some ⟨rg, ro, none⟩)] w fun e w' => e = .returned (.tuple #[]) ∧ Q w') :
    Calls Tryz.prog 45 #[.pointer (some ⟨pb, 0, none⟩), .pointer (some ⟨rg, ro, none⟩), .slice (some ⟨wb, wo, none⟩) wn wc] w fun e w' => e = .returned (.tuple #[.string ⟨#[]⟩, .int .i64 0]) ∧ Q w' := by
  have HN := hid hN
  clear hN
  have h0 : (0 : Int) < (wn : Int) := by omega
  go_enter Tryz.func45, Tryz.ntmps45
  go_wp2_with fail
  refine HN.out.mono ?_
  rintro e w' ⟨rfl, hq⟩
  clear HN
  go_wp2
  go_ret2
  exact ⟨rfl, hq⟩
theorem carry45_record3 (pb rg ro wb wo wc : Nat) (a b c d : UInt8) (w : World) (cd : Int) (Q : ByteArray → World → Prop) (hw : w.cell? ⟨wb, wo, none⟩ = some (.string wdRecord)) (hw1 : w.cell? ⟨wb, wo + 1, none⟩ = some (.string ⟨#[a, b, c, d]⟩)) (hwb : TB w wb 9) (hwc : 3 ≤ wc)
    (hN : ∀ u, Below w.heap.size w u → Calls Tryz.prog 72 #[.pointer (some ⟨pb, 0, none⟩), .pointer (some ⟨rg, ro, none⟩), .agg #[.int .u8 a.toNat, .int .u8 b.toNat, .int .u8 c.toNat, .int .u8 d.toNat], (.slice (some ⟨wb, wo + 2, none⟩) 1 (wc - 2))] u fun e w' => ∃ x, e = .returned (.tuple #[.string x, .int .i64 cd]) ∧ Q x w' ∧ HeldT (· = 9) u w') :
    Calls Tryz.prog 45 #[.pointer (some ⟨pb, 0, none⟩), .pointer (some ⟨rg, ro, none⟩), .slice (some ⟨wb, wo, none⟩) 3 wc] w fun e w' => ∃ x, e = .returned (.tuple #[.string x, .int .i64 cd]) ∧ Q x w' := by
  have HN := hid hN
  have HI : Hid (Calls Tryz.prog 70 #[.string ⟨#[a, b, c, d]⟩] w.drew fun e w' => e = .returned (.agg #[.int .u8 a.toNat, .int .u8 b.toNat, .int .u8 c.toNat, .int .u8 d.toNat]) ∧ Below w.heap.size w w') := (idOf51_any a b c d w.drew).mono fun e w' h => ⟨h.1, (Below.refl _ w).drew.trans h.2⟩
  have HS0 := hid hw1
  clear hN
  have j1 : (3 : Int) ≤ (wc : Int) := by omega
  have j3 : ¬ wc = 2 := by omega
  have j2 : (wc : Int) ≤ (wc : Int) := Int.le_refl _
  go_enter Tryz.func45, Tryz.ntmps45
  go_wp2_with fail
  refine wp_region_Z (fun w' => w'.cell? ⟨wb, wo + 1, none⟩ = some (.string ⟨#[a, b, c, d]⟩)) 99 (by kernel_rfl) ?_
  refine zt 0 (v := ?v0) HS0.out (fun w0 hS0 => ?hy) ?_
  case hy =>
    go_simp
    with_reducible rfl
  simp only [Act.put, List.setIfInBounds_toArray]
  refine zt 1 (v := ?v1) HS0.out (fun w0 hS0 => ?hy) ?_
  case hy =>
    go_simp
    with_reducible rfl
  simp only [Act.put]
  refine zt 2 (v := ?v2) HS0.out (fun w0 hS0 => ?hy) ?_
  case hy =>
    go_simp
    with_reducible rfl
  simp only [Act.put]
  refine zt 3 (v := ?v3) HS0.out (fun w0 hS0 => ?hy) ?_
  case hy =>
    go_simp
    with_reducible rfl
  simp only [Act.put]
  refine zt 4 (v := ?v4) HS0.out (fun w0 hS0 => ?hy) ?_
  case hy =>
    go_simp
    with_reducible rfl
  simp only [Act.put]
  refine zt 6 (v := ?v6) HS0.out (fun w0 hS0 => ?hy) ?_
  case hy =>
    go_simp
    with_reducible rfl
  simp only [Act.put]
  refine zt 7 (v := ?v7) HS0.out (fun w0 hS0 => ?hy) ?_
  case hy =>
    go_simp
    with_reducible rfl
  simp only [Act.put]
  refine wpZ_one 5 _ rfl (by kernel_rfl) (fun KK hK => ?_)
  go_simp
  refine HI.out.mono ?_
  rintro e w1 ⟨rfl, hb1⟩
  clear HI
  dsimp only
  have c1 : w1.cell? ⟨wb, wo + 1, none⟩ = some (.string ⟨#[a, b, c, d]⟩) := (hb1.cell (p := ⟨wb, wo + 1, none⟩) hwb.lt).trans hw1
  refine hK.out _ _ (fun _ => c1) ?_
  clear hK
  have hwb1 := hwb.below hb1 (Nat.le_refl _)
  refine wpZ_one 8 _ rfl (by kernel_rfl) (fun KK hK => ?_)
  go_simp
  refine (HN.out _ hb1).mono ?_
  rintro e w2 ⟨x, rfl, hq, hh⟩
  clear HN
  have c2 : w2.cell? ⟨wb, wo + 1, none⟩ = some (.string ⟨#[a, b, c, d]⟩) := (cell_same (hh.keep wb 9 hwb1 rfl) _).trans c1
  dsimp only
  refine hK.out _ _ (fun _ => c2) ?_
  clear hK
  refine zt 9 (v := ?v9) c2 (fun w0 hS0 => ?hy) ?_
  case hy =>
    go_simp
    with_reducible rfl
  simp only [Act.put, List.setIfInBounds_toArray]
  refine zt 10 (v := ?v10) c2 (fun w0 hS0 => ?hy) ?_
  case hy =>
    go_simp
    with_reducible rfl
  simp only [Act.put]
  refine zt 11 (v := ?v11) c2 (fun w0 hS0 => ?hy) ?_
  case hy =>
    go_simp
    with_reducible rfl
  simp only [Act.put]
  refine wpZ_one 12 _ rfl (by kernel_rfl) (fun KK hK => ?_)
  go_simp
  refine hK.out _ _ (fun _ => c2) ?_
  clear hK
  refine wpZ_done (by kernel_rfl) ?_ _
  go_wp2
  all_goals
    go_ret2
    exact ⟨x, rfl, hq⟩
end Go.Proofs.YtgdfipmdmgkidaaGreatDoor
