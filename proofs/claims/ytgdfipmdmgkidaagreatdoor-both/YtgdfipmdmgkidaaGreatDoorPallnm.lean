/- All names: of the files and of what is kept. -/
import Derived.Test.YtgdfipmdmgkidaaGreatDoorPnames
import Derived.Test.YtgdfipmdmgkidaaGreatDoorPtake
import Derived.Lib.SlicesCompact
import Derived.Test.YtgdfipmdmgkidaaGreatDoorPgrow
namespace Go.Proofs.YtgdfipmdmgkidaaGreatDoor
open Go.RowKit
theorem step_append_all {P : Program} {w : World} {ops : Array Oper} {o : Oper} {a : Act} {K : Act → World → Prop} {Q : Exit → Act → World → Prop} {E : Prop} (hgd : o.guard = none) (s x : Operand) (t : TypeId)
    (ho : o.op = .call { callee := .builtin .append, args := #[s, x], argTypes := #[t, t] })
    (base : Nat) (e : TypeId) (i : TypeInfo) (z : Value) (size bytes : Nat) (ht : P.underlying t = some (.slice e)) (hi : P.info? e = some i) (hz : i.zero = some z)
    (hsize : i.size = size) (hby : i.bytes = bytes) (hzs : z.cells.size = size) (hsz : 0 < size)
    (v : Value) (n : Nat) (xs : List Value) (hs : a.eval s = v) (hown : w.ownsRow base e size v n xs)
    (xa : Option Addr) (m c : Nat) (news : List Value) (hx : a.eval x = .slice xa m c) (hl : news.length = m * size) (hnews : m = 0 ∨ ∃ ad, xa = some ad ∧ ∀ j u, news[j]? = some u → w.cell? (ad.add j) = some u) (h1 : ∀ u ∈ news, u.oneCell' = true)
    (h63 : n + m ≤ maxLen) (hbytes : (n + m) * bytes ≤ 140737488355328) (hbase : base ≤ w.heap.size)
    (h : ∀ va vn vc w', w'.ownsRow base e size (.slice va vn vc) (n + m) (xs ++ news) → w.grownBy w' v.ownBlock → K (a.put o.dst (.slice va vn vc)) w') :
    if Region.wanted o (yielded ops a.tmps) = true then Oper.wp P o a w K Q else E := by
  rcases Nat.eq_zero_or_pos m with rfl | hm
  · have hn : news = [] := List.eq_nil_of_length_eq_zero (by simpa using hl)
    subst hn
    have hown2 := hown
    obtain ⟨va, vc, rfl⟩ : ∃ va vc, v = .slice va n vc := by
      rcases hown.2 with ⟨rfl, rfl⟩ | ⟨g, cap, cur, rfl, _⟩
      · exact ⟨_, _, rfl⟩
      · exact ⟨_, _, rfl⟩
    exact step_append_zero hgd s x t ho base e i size ht hi _ n xs hs hown ⟨xa, c, hx⟩ (h va n vc w (by simpa using hown2) (World.grownBy.refl _ _))
  · obtain ⟨ad, rfl, hc⟩ := hnews.resolve_left (by omega)
    exact step_append_lies w hgd s x t ho base e i z size bytes ht hi hz hsize hby hzs hsz v n xs hs hown ad m c news hx hl hc h1 hm h63 hbytes hbase _ rfl (fun g cap w' k1 k2 _ _ => h _ _ _ w' k1 k2)
theorem own_cells {w : World} {B n c : Nat} {xa : Option Addr} {L : List ByteArray} (h : w.ownsRow B 9 1 (.slice xa n c) L.length (strs L)) : n = L.length ∧ (L.length = 0 ∨ ∃ ad, xa = some ad ∧ ∀ j u, (strs L)[j]? = some u → w.cell? (ad.add j) = some u) := by
  have hc := fun g => World.ownsRow.cells h (g := g)
  rcases h.2 with ⟨h1, h0⟩ | ⟨g, cp, cur, h1, _⟩
  · cases h1
    exact ⟨h0.symm, .inl h0⟩
  · cases h1
    exact ⟨rfl, .inr ⟨_, rfl, fun j u hj => hc g rfl j u hj⟩⟩
set_option maxRecDepth 100000 in
set_option maxHeartbeats 3200000 in
theorem allNames89_any (f : ByteArray → Option ByteArray) (fb fn rb ro : Nat) (st : ByteArray → PL) (mb n : Nat) (w : World) (hF : FK w fb f fn) (hfn : fn ≤ 1000000) (hr : w.cell? ⟨rb, ro + 1, none⟩ = some (.map (some fb))) (hrb : rb < w.heap.size) (hT : TreeAt w mb st n) (hn : n ≤ 100000) :
    Calls Tryz.prog 112 #[.pointer (some ⟨rb, ro, none⟩), .agg #[.map (some mb)]] w fun e w' => ∃ v L, e = .returned v ∧ w'.ownsRow w.heap.size 9 1 v L.length (strs L) ∧ (∀ x, x ∈ L ↔ (f x).isSome = true ∨ (st x).alive = true) ∧ L.length ≤ fn + n ∧ Below w.heap.size w w' := by
  obtain ⟨i0, hi, hz0, hz1, hz2⟩ := info_parts Tryz.info9
  obtain ⟨w1, hw1⟩ : ∃ w1, w1 = w.alloc (.cells #[.map (some mb)] 121) := ⟨_, rfl⟩
  have hb1 : Below w.heap.size w w1 := by rw [hw1]; exact (Below.refl _ _).alloc (Nat.le_refl _) _
  have hk1 : w1.heap[w.heap.size]? = some (.cells #[.map (some mb)] 121 (0, 0)) := by rw [hw1]; exact (MapKept.heap_alloc w _).1
  have hs1 : w.heap.size < w1.heap.size := by rw [hw1]; simp
  have hfb := hF.lt
  have hfl : ∀ u, Below w1.heap.size w1 u → FK u fb f fn := fun u hu => hF.same ((hu.block fb (by omega)).trans (hb1.block fb hfb))
  have H1 : Hid (∀ u, Below w1.heap.size w1 u → Calls Tryz.prog 168 #[.pointer (some ⟨rb, ro, none⟩)] u fun e w' => ∃ va vn vc K, e = .returned (.slice va vn vc) ∧ w'.ownsRow u.heap.size 9 1 (.slice va vn vc) K.length (strs K) ∧ (∀ x, x ∈ K ↔ (f x).isSome = true) ∧ K.length ≤ fn ∧ Below u.heap.size u w') := fun u hu => by
    refine (names131_any f fb fn rb ro u (hfl u hu) hfn ((hu.cell (p := ⟨rb, ro + 1, none⟩) (by show rb < _; omega)).trans ((hb1.cell (p := ⟨rb, ro + 1, none⟩) hrb).trans hr))).mono ?_
    rintro e w' ⟨v, K, rfl, g1, _, g3, g4, g5⟩
    obtain ⟨va, vc, rfl⟩ := own_shape g1
    exact ⟨va, _, vc, K, rfl, g1, g3, g4, g5⟩
  have H2 : Hid (∀ u, Below w1.heap.size w1 u → Calls Tryz.prog 180 #[.agg #[.map (some mb)]] u fun e w' => ∃ va vn vc K, e = .returned (.slice va vn vc) ∧ w'.ownsRow u.heap.size 9 1 (.slice va vn vc) K.length (strs K) ∧ (∀ x, x ∈ K ↔ (st x).alive = true) ∧ K.length ≤ n ∧ Below u.heap.size u w') := fun u hu => by
    refine (names143_any st mb n u ((hT.below hb1 (Nat.le_refl _)).below hu (Nat.le_refl _)) hn).mono ?_
    rintro e w' ⟨v, K, rfl, g1, _, g3, g4, g5⟩
    obtain ⟨va, vc, rfl⟩ := own_shape g1
    exact ⟨va, _, vc, K, rfl, g1, g3, g4, g5⟩
  have c1 : w1.cell? ⟨w.heap.size, 0, none⟩ = some (.map (some mb)) := by simp [World.cell?, hk1]
  have HB1 := hid hb1
  have H0 : Hid (Below w1.heap.size w1 w1.drew) := (Below.refl _ _).drew
  clear hF hT hfl hr hk1 hb1
  go_enter Tryz.func112, Tryz.ntmps112
  go_wp2_with fail
  rw [← hw1]
  clear hw1
  refine wp_region_Z (fun w' => w'.cell? ⟨w.heap.size, 0, none⟩ = some (.map (some mb)) ∧ Below w1.heap.size w1 w') 5 (by kernel_rfl) ?_
  refine wpZ_take 0 _ (v := ?v0) rfl (by kernel_rfl) (by kernel_rfl) (by kernel_rfl) (fun _ _ _ h => h) (by kernel_rfl) (by decide) ⟨c1, H0.out⟩ rfl (fun w0 hS0 => ?hy) ?_
  case hy =>
    have s1 := hS0.1
    go_simp
    with_reducible rfl
  simp only [Act.put, List.setIfInBounds_toArray]
  refine wpZ_take 2 _ (v := ?v2) rfl (by kernel_rfl) (by kernel_rfl) (by kernel_rfl) (fun _ _ _ h => h) (by kernel_rfl) (by decide) ⟨c1, H0.out⟩ rfl (fun w0 hS0 => ?hy) ?_
  case hy =>
    have s1 := hS0.1
    go_simp
    with_reducible rfl
  simp only [Act.put]
  refine wpZ_one 1 _ rfl (by kernel_rfl) (fun K hK => ?_)
  go_simp
  refine (H1.out _ H0.out).mono ?_
  rintro e w2 ⟨va, vn, vc, K1, rfl, g1, g2, g3, g4⟩
  have hb2 : Below w1.heap.size w1 w2 := H0.out.trans g4
  have c2 : w2.cell? ⟨w.heap.size, 0, none⟩ = some (.map (some mb)) := (hb2.cell (p := ⟨w.heap.size, 0, none⟩) hs1).trans c1
  dsimp only
  refine hK.out _ _ (fun _ => ⟨c2, hb2⟩) ?_
  clear hK
  have HG1 := hid g1
  have HG2 := hid g2
  clear g1 g2
  refine wpZ_one 3 _ rfl (by kernel_rfl) (fun K hK => ?_)
  go_simp
  refine (H2.out _ hb2).mono ?_
  rintro e w3 ⟨ua, un, uc, K2, rfl, k1, k2, k3, k4⟩
  have hb3 : Below w1.heap.size w1 w3 := hb2.trans (k4.mono hb2.size)
  have c3 : w3.cell? ⟨w.heap.size, 0, none⟩ = some (.map (some mb)) := (hb3.cell (p := ⟨w.heap.size, 0, none⟩) hs1).trans c1
  dsimp only
  refine hK.out _ _ (fun _ => ⟨c3, hb3⟩) ?_
  clear hK
  have HG3 : Hid (w3.ownsRow w1.heap.size 9 1 (.slice va vn vc) K1.length (strs K1)) := own_below HG1.out k4 (Nat.le_refl _)
  obtain ⟨hun, hcells⟩ := own_cells k1
  have HCE := hid hcells
  have HK2 := hid k2
  have hs3 := hb3.size
  clear hcells k1 k2 k4 g4 HG1
  refine wpZ_one 4 _ rfl (by kernel_rfl) (fun K hK => ?_)
  refine step_append_all (by rfl) _ _ _ (by rfl) w1.heap.size 9 i0 _ 1 16 Tryz.underlying35 hi hz0 hz1 hz2 rfl (by omega) _ K1.length (strs K1) (by rfl) HG3.out ua K2.length uc (strs K2) (by rw [← hun]; rfl) (by simp [strs]) HCE.out (strs_one _) (by unfold maxLen; omega) (by omega) hs3 ?_
  intro xa xn xc w4 hown4 hg4
  have hb4 : Below w1.heap.size w1 w4 := hb3.grown hg4 hs3 (fun j hj => (HG3.out.lt j hj).1)
  have c4 : w4.cell? ⟨w.heap.size, 0, none⟩ = some (.map (some mb)) := (hb4.cell (p := ⟨w.heap.size, 0, none⟩) hs1).trans c1
  refine hK.out _ _ (fun _ => ⟨c4, hb4⟩) ?_
  clear hK
  have HO : Hid (w4.ownsRow w.heap.size 9 1 (.slice xa xn xc) (K1 ++ K2).length (strs (K1 ++ K2))) := by
    show World.ownsRow _ _ _ _ _ _ _
    have e : strs (K1 ++ K2) = strs K1 ++ strs K2 := by simp
    rw [e, List.length_append]
    exact ownsRow_mono hown4 (by omega)
  have HB4 : Hid (Below w.heap.size w w4) := HB1.out.trans (hb4.mono (by omega))
  clear hown4 hg4 hb4 hb3 hb2 HG3 HCE c1 c2 c3
  simp only [Act.put, List.setIfInBounds_toArray]
  refine wpZ_one 5 _ rfl (by kernel_rfl) (fun K hK => ?_)
  go_simp
  refine hK.out _ _ (fun h => absurd rfl h) ?_
  clear hK
  refine wpZ_done (by kernel_rfl) ?_ _
  go_wp2
  go_ret
  refine ⟨_, K1 ++ K2, rfl, HO.out, fun x => by rw [List.mem_append, HG2.out, HK2.out], by rw [List.length_append]; omega, HB4.out⟩
end Go.Proofs.YtgdfipmdmgkidaaGreatDoor
/- Files are compared; names that are sorted, each once. -/
namespace Go.Proofs.YtgdfipmdmgkidaaGreatDoor
open Go.RowKit Go.Lib Go.Shelf Go.Sort
def flV (f : Fl) : Value := .agg #[.string f.name, .bool f.there, .string f.text]
section
variable {Z : List (List UInt8)}
theorem compact_mem (x : List UInt8) : x ∈ compact Z ↔ x ∈ Z := by
  unfold compact compactUpTo
  rw [List.mem_map]
  constructor
  · rintro ⟨j, hj, rfl⟩
    rw [List.mem_filter, List.mem_range] at hj
    simp [hj.1]
  · intro h
    have hex : ∃ j : Nat, Z[j]? = some x := List.mem_iff_getElem?.1 h
    obtain ⟨j, hj, hmin⟩ : ∃ j : Nat, Z[j]? = some x ∧ ∀ i : Nat, i < j → Z[i]? ≠ some x := by
      obtain ⟨j0, hj0⟩ := hex
      have : ∀ n : Nat, ∀ j : Nat, j ≤ n → Z[j]? = some x → ∃ j : Nat, Z[j]? = some x ∧ ∀ i : Nat, i < j → Z[i]? ≠ some x := by
        intro n
        induction n with
        | zero => intro j hj he; exact ⟨j, he, fun i hi => by omega⟩
        | succ n ih =>
          intro j hj he
          by_cases hx : ∃ i, i < j ∧ Z[i]? = some x
          · obtain ⟨i, hi, hie⟩ := hx
            exact ih i (by omega) hie
          · exact ⟨j, he, fun i hi hie => hx ⟨i, hi, hie⟩⟩
      exact this j0 j0 (Nat.le_refl _) hj0
    obtain ⟨hlt, he⟩ := List.getElem?_eq_some_iff.1 hj
    refine ⟨j, List.mem_filter.2 ⟨List.mem_range.2 hlt, ?_⟩, by simp [hlt, he]⟩
    unfold keeps
    rw [decide_eq_true_eq]
    rcases Nat.eq_zero_or_pos j with h0 | h0
    · exact .inl h0
    · refine .inr fun e => hmin (j - 1) (by omega) ?_
      have h2 : j - 1 < Z.length := by omega
      simp [hlt, h2, he] at e
      rw [List.getElem?_eq_getElem h2, e]
theorem compact_srt (h : Z.Pairwise (· ≤ ·)) : (compact Z).Pairwise (· < ·) := by
  unfold compact compactUpTo
  refine List.pairwise_map.2 ?_
  refine (List.Pairwise.filter (p := keeps Z.toArray) List.pairwise_lt_range).imp_of_mem ?_
  intro i j hi hj hij
  rw [List.mem_filter, List.mem_range] at hi hj
  have hk := hj.2
  unfold keeps at hk
  rw [decide_eq_true_eq] at hk
  have hne := hk.resolve_left (by omega)
  have le : ∀ a b, a ≤ b → (hb : b < Z.length) → Z.toArray[a]! ≤ Z.toArray[b]! := fun a b hab hb => by
    have ha : a < Z.length := by omega
    rcases Nat.lt_or_eq_of_le hab with h1 | h1
    · simpa [ha, hb] using List.pairwise_iff_getElem.1 h a b ha hb h1
    · subst h1
      exact List.le_refl _
  have h1 := le i (j - 1) (by omega) (by omega)
  have h2 := le (j - 1) j (by omega) hj.1
  refine List.not_le.1 fun h3 => hne ?_
  exact List.le_antisymm (List.le_trans h3 h1) h2
end
end Go.Proofs.YtgdfipmdmgkidaaGreatDoor

/- What is kept of a repository. -/
set_option maxHeartbeats 3200000
set_option maxRecDepth 100000
namespace Go.Proofs.YtgdfipmdmgkidaaGreatDoor
open Go.RowKit
theorem kept54_any (Ps : List PM) (pv : Value) (st : Nat → Nat → ByteArray → PL) (cnt : Nat → Nat) (rb : Nat) (ro : Nat) (w : World) (hp : PV w pv Ps) (hg : ∀ u, Below w.heap.size w u → Grows u Ps st cnt) (hPs : Ps.length ≤ 10000) (hr : w.cell? ⟨rb, ro, none⟩ = some pv) (hrb : rb < w.heap.size) :
    Calls Tryz.prog 77 #[.pointer (some ⟨rb, ro, none⟩)] w fun e w' => ∃ mb n, e = .returned (.agg #[.map (some mb)]) ∧ TreeAt w' mb (st Ps.length 0) n ∧ n ≤ 100000 ∧ w.heap.size ≤ mb ∧ Below w.heap.size w w' := by
  obtain ⟨w1, hw1⟩ : ∃ w1, w1 = w.alloc (.cells #[.map none] 121) := ⟨_, rfl⟩
  have hb1 : Below w.heap.size w w1 := by rw [hw1]; exact (Below.refl _ _).alloc (Nat.le_refl _) _
  have hk1 : w1.heap[w.heap.size]? = some (.cells #[.map none] 121 (0, 0)) := by rw [hw1]; exact (MapKept.heap_alloc w _).1
  have hs1 : w.heap.size < w1.heap.size := by rw [hw1]; simp
  have hr1 := (hb1.cell (p := ⟨rb, ro, none⟩) hrb).trans hr
  have HG : Hid (Calls Tryz.prog 123 #[pv] w1 fun e w' => ∃ mb n, e = .returned (.agg #[.map (some mb)]) ∧ TreeAt w' mb (st Ps.length 0) n ∧ n ≤ 100000 ∧ w1.heap.size ≤ mb ∧ Below w1.heap.size w1 w') := grow95_any Ps pv st cnt w1 (hp.below hb1 (Nat.le_refl _)) (hg w1 hb1) hPs
  obtain ⟨pa, pc, rfl, _⟩ := hp
  clear hg
  go_enter Tryz.func77, Tryz.ntmps77
  go_wp2_with fail
  rw [← hw1]
  clear hw1
  refine HG.out.mono ?_
  rintro e w2 ⟨mb, n, rfl, ht, hn, hmb, hb2⟩
  clear HG
  have hk2 := (hb2.block _ hs1).trans hk1
  have r0 : w2.cell? ⟨w.heap.size, 0, none⟩ = some (.map none) := by simp [World.cell?, hk2]
  have z0 := free3 hk2 0
  obtain ⟨w9, hw9⟩ : ∃ w9, w9 = w2.setCell ⟨w.heap.size, 0, none⟩ (.map (some mb)) := ⟨_, rfl⟩
  have s1 := heap_setCell_same w2 w.heap.size 0 _ 121 (.map (some mb)) hk2
  have s2 := Over.set w2 w.heap.size 0 (.map (some mb))
  rw [← hw9] at s1 s2
  have hb02 : Below w.heap.size w w2 := hb1.trans (hb2.mono (by omega))
  have hb9 : Below w.heap.size w w9 := ⟨s2.os.trans hb02.os, s2.tape.trans hb02.tape, s2.output.trans hb02.output, by rw [s2.size]; exact hb02.size, fun k hk => (s2.block k (by omega)).trans (hb02.block k hk)⟩
  have HT9 : Hid (TreeAt w9 mb (st Ps.length 0) n) := by
    obtain ⟨f, has, D, ⟨es, clock, he, hr⟩, h2, h3, h4, h5, h6⟩ := ht
    exact ⟨f, has, D, ⟨es, clock, (s2.block _ (by omega)).trans he, hr⟩, h2, h3, h4, h5, fun x => (h6 x).far hk2 (by simp) (by rw [s2.size]; exact Nat.le_refl _) (fun k _ hk => s2.block k hk)⟩
  clear ht s2 hk2 hb2
  go_wp2
  rw [← hw9]
  clear hw9
  refine bodyPost_ret (results_cell_row (p := 2) (ty := 121) (by kernel_rfl) _ _ w.heap.size 121 _ (0, 0) _ rfl s1 Tryz.underlying121 rfl (by kernel_rfl)) rfl ?_
  exact ⟨mb, n, rfl, HT9.out, hn, by omega, hb9⟩
end Go.Proofs.YtgdfipmdmgkidaaGreatDoor
/- What is kept of a name is asked for. -/
namespace Go.Proofs.YtgdfipmdmgkidaaGreatDoor
open Go.RowKit
theorem TreeAt.kat {w : World} {mb n : Nat} {st : ByteArray → PL} (h : TreeAt w mb st n) (hn : n ≤ 1000000) : ∃ f has, KAt w mb f has ∧ (∀ x, LatIs (f x) (st x)) ∧ ∀ x, SV w (f x).rv (f x).S := by
  obtain ⟨f, has, D, h1, h2, h3, h4, h5, h6⟩ := h
  exact ⟨f, has, ⟨n, D, hn, h1, h2, h3, h4⟩, h5, h6⟩
def keptPL (st : ByteArray → PL) (x : ByteArray) : Value := if (st x).alive = true then fileV x true (rowText (st x).S) else fileV x false ⟨#[]⟩
theorem file55_any (st : ByteArray → PL) (mb n : Nat) (x : ByteArray) (hx : x.size ≤ 1000000) (w : World) (h : TreeAt w mb st n) (hn : n ≤ 1000000) (hS : (st x).S.length ≤ 1000000) (hT : (rowText (st x).S).size ≤ 1000000000) :
    Calls Tryz.prog 78 #[.agg #[.map (some mb)], .string x] w fun e w' => e = .returned (keptPL st x) ∧ Below w.heap.size w w' := by
  obtain ⟨f, has, hk, hl, hs⟩ := h.kat hn
  obtain ⟨e1, e2, e3⟩ := hl x
  have e : keptFile f x = keptPL st x := by unfold keptFile keptPL; rw [e2, e3]
  rw [← e]
  cases ha : (f x).alive
  · exact file55_dead f has mb x hx w hk (hs x) ha
  · exact file55_alive f has mb x hx w hk (hs x) ha (by rw [e3]; exact hS) (by rw [e3]; exact hT)
theorem keptText30_alive (Ps : List PM) (pv : Value) (st : Nat → Nat → ByteArray → PL) (cnt : Nat → Nat) (rb ro : Nat) (x : ByteArray) (w : World) (hp : PV w pv Ps) (hg : ∀ u, Below w.heap.size w u → ∀ v, Below u.heap.size u v → Grows v Ps st cnt) (hPs : Ps.length ≤ 10000) (hr : w.cell? ⟨rb, ro, none⟩ = some pv) (hrb : rb < w.heap.size)
    (hx : x.size ≤ 1000000) (hnm : nameB x = true) (hal : (st Ps.length 0 x).alive = true) (hS : (st Ps.length 0 x).S.length ≤ 1000000) (hT : (rowText (st Ps.length 0 x).S).size ≤ 1000000000) :
    Calls Tryz.prog 46 #[.pointer (some ⟨rb, ro, none⟩), .string x] w fun e w' => e = .returned (.tuple #[.string (rowText (st Ps.length 0 x).S), .int .i64 0]) ∧ Below w.heap.size w w' := by
  have HN : Hid (Calls Tryz.prog 61 #[.string x] w fun e w' => e = .returned (.bool true) ∧ Below w.heap.size w w') := by
    have := isName42_any x w
    rw [hnm] at this
    exact this
  obtain ⟨T, hTe⟩ : ∃ T, rowText (st Ps.length 0 x).S = T := ⟨_, rfl⟩
  have hkp : keptPL (st Ps.length 0) x = .agg #[.string x, .bool true, .string T] := by unfold keptPL; rw [if_pos hal, hTe]; rfl
  have HTE := hid hTe
  have HF : Hid (∀ w' mb n, n ≤ 100000 → TreeAt w' mb (st Ps.length 0) n → Calls Tryz.prog 78 #[.agg #[.map (some mb)], .string x] w' fun e w'' => e = .returned (.agg #[.string x, .bool true, .string T]) ∧ Below w'.heap.size w' w'') := fun w' mb n hn ht => by
    have := file55_any (st Ps.length 0) mb n x hx w' ht (by omega) hS hT
    rw [hkp] at this
    exact this
  have HK : Hid (∀ u, Below w.heap.size w u → Calls Tryz.prog 77 #[.pointer (some ⟨rb, ro, none⟩)] u fun e w' => ∃ mb n, e = .returned (.agg #[.map (some mb)]) ∧ TreeAt w' mb (st Ps.length 0) n ∧ n ≤ 100000 ∧ u.heap.size ≤ mb ∧ Below u.heap.size u w') := fun u hu => kept54_any Ps pv st cnt rb ro u (hp.below hu (Nat.le_refl _)) (hg u hu) hPs ((hu.cell (p := ⟨rb, ro, none⟩) hrb).trans hr) (Nat.lt_of_lt_of_le hrb hu.size)
  clear hg hp hkp hTe hT hS hal hnm
  go_enter Tryz.func46, Tryz.ntmps46
  go_wp2_with fail
  refine HN.out.mono ?_
  rintro e w1 ⟨rfl, hb1⟩
  clear HN
  go_wp2_with fail
  refine (HK.out w1 hb1).mono ?_
  rintro e w2 ⟨mb, n, rfl, ht, hn, _, hb2⟩
  have HF2 := hid (HF.out w2 mb n hn ht)
  have hs1 := hb1.size
  have hs2 := hb2.size
  clear HK HF ht
  go_wp2_with fail
  refine HF2.out.mono ?_
  rintro e w3 ⟨rfl, hb3⟩
  clear HF2
  have hb4 : Below w.heap.size w w3 := (hb1.trans (hb2.mono hs1)).trans (hb3.mono (by omega))
  go_wp2
  go_ret2
  exact ⟨by rw [HTE.out]; rfl, hb4.alloc hb4.size _⟩
end Go.Proofs.YtgdfipmdmgkidaaGreatDoor

/- The files of some names that are not the same as what is kept. -/
namespace Go.Proofs.YtgdfipmdmgkidaaGreatDoor
open Go.RowKit Go.Lib Go.Shelf Go.Sort
theorem below_setC {B b : Nat} {a : World} (hb : B ≤ b) : ∀ (vs : List Value) (o : Nat) (w : World), Below B a w → Below B a (w.setCells b o vs)
  | [], _, _, h => h
  | v :: vs, o, _w, h => below_setC hb vs (o + 1) _ (h.setCell (p := (⟨b, o, none⟩ : Addr)) hb v)
theorem size_setC (b : Nat) : ∀ (vs : List Value) (o : Nat) (w : World), (w.setCells b o vs).heap.size = w.heap.size
  | [], _, _ => rfl
  | v :: vs, o, w => by
    rw [World.setCells, size_setC b vs (o + 1)]
    simp [World.setCell]
theorem compact194_any {B : Nat} {v : Value} {Z : List (List UInt8)} {w : World} (h : w.ownsRow B 9 1 v Z.length (Z.map encStr)) (hZ : Z.Pairwise (· ≤ ·)) (hl : Z.length ≤ 1000000) :
    Calls Tryz.prog 176 #[v] w fun e w' => ∃ va vc K, e = .returned (.slice va K.length vc) ∧ View w' va K ∧ Srt K ∧ (∀ x, x ∈ K ↔ byt x ∈ Z) ∧ K.length ≤ Z.length ∧ Below B w w' := by
  rcases h.2 with ⟨rfl, h0⟩ | ⟨g, cap, cur, rfl, hbase, hg, hcap, hcm, hcs, htake⟩
  · have : Z = [] := List.eq_nil_of_length_eq_zero h0
    subst this
    refine (Tryz.slices_Compact_string_empty none 0 w).mono ?_
    rintro e w' ⟨rfl, rfl⟩
    exact ⟨none, 0, [], rfl, .inl rfl, List.Pairwise.nil, fun x => by simp, Nat.le_refl _, Below.refl _ _⟩
  · have hcell : ∀ i, i < Z.length → w.cell? ⟨g, 0 + i, none⟩ = some (.string ⟨(Z.getD i []).toArray⟩) := fun i hi => by
      have h1 : (cur.toList.take (Z.length * 1))[i]? = (Z.map encStr)[i]? := by rw [htake]
      rw [List.getElem?_take_of_lt (by omega), Array.getElem?_toList, List.getElem?_map, List.getElem?_eq_getElem hi] at h1
      simp only [World.cell?, hg, Nat.zero_add]
      simp only [Option.isSome_none, Bool.false_eq_true, if_false]
      rw [h1]
      simp [encStr, hi]
    have hsx : strsOf (fun i => (⟨(Z.getD i []).toArray⟩ : ByteArray)) Z.length = Z := by
      unfold strsOf
      apply List.ext_getElem
      · simp
      · intro i h1 h2
        simp at h1
        simp [h1]
    have hC := Tryz.slices_Compact_string_cells g 0 Z.length cap (fun i => ⟨(Z.getD i []).toArray⟩) w (by omega) hcap hcell (fun j _ => by simp [World.frozen?, hg])
    rw [hsx] at hC
    refine hC.mono ?_
    rintro e w' ⟨rfl, q, rfl⟩
    have hle := compact_length_le Z
    have hbk : ((compact Z).map fun b => (⟨b.toArray⟩ : ByteArray)).map byt = compact Z := by
      rw [List.map_map]
      conv => rhs; rw [← List.map_id (compact Z)]
      exact List.map_congr_left fun a _ => of_byt a
    refine ⟨some ⟨g, 0, none⟩, cap, (compact Z).map fun b => ⟨b.toArray⟩, by simp, .inr ⟨g, 0, rfl, ?_, fun k hk => ?_⟩, ?_, fun x => ?_, by simpa using hle, below_setC hbase _ _ _ (below_drewN (Below.refl _ _) q)⟩
    · rw [size_setC]
      exact (Array.getElem?_eq_some_iff.1 hg).1
    · have hk' : k < (compact Z).length := by simpa using hk
      have hlen : ((compact Z ++ List.replicate (Z.length - (compact Z).length) []).map encStr).length = Z.length := by simp; omega
      have hin := World.cell?_setCells_in g ((compact Z ++ List.replicate (Z.length - (compact Z).length) []).map encStr) 0 (w.drewN q) (fun j hj => by
        have := hcell j (by omega)
        show (w.cell? ⟨g, 0 + j, none⟩).isSome = true
        rw [this]; rfl) k (by omega)
      rw [hin]
      simp [encStr, hk']
    · refine List.pairwise_map.2 ((compact_srt hZ).imp fun {a b} hab => ?_)
      rw [of_byt, of_byt]
      exact hab
    · rw [← compact_mem, List.mem_map]
      constructor
      · rintro ⟨b, hb, rfl⟩
        rw [of_byt]
        exact hb
      · intro hx
        exact ⟨byt x, hx, by simp [byt]⟩
def flOf (f : ByteArray → Option ByteArray) (x : ByteArray) : Fl := ⟨x, (f x).isSome, (f x).getD ⟨#[]⟩⟩
def keptFl (st : ByteArray → PL) (x : ByteArray) : Fl := if (st x).alive = true then ⟨x, true, rowText (st x).S⟩ else ⟨x, false, ⟨#[]⟩⟩
def differs (f : ByteArray → Option ByteArray) (st : ByteArray → PL) (x : ByteArray) : Bool := !decide ((flOf f x).name = (keptFl st x).name ∧ (flOf f x).there = (keptFl st x).there ∧ (flOf f x).text = (keptFl st x).text)
theorem keptPL_fl (st : ByteArray → PL) (x : ByteArray) : keptPL st x = flV (keptFl st x) := by
  unfold keptPL keptFl
  split <;> rfl
theorem toList_iff (s t : ByteArray) : s.toList = t.toList ↔ s = t := by
  have h := eq_bytes s t
  by_cases e : s = t
  · simp [e]
  · rw [decide_eq_false e] at h
    simp only [beq_eq_false_iff_ne] at h
    exact ⟨fun h' => absurd h' h, fun h' => absurd h' e⟩
theorem neq_if (x tx : ByteArray) (kf : Fl) (th : Bool) (u : World) : (if x.toList = kf.name.toList then if th = kf.there then if tx.toList = kf.text.toList then Result.ok (Next.value (Value.bool false)) u else Result.ok (Next.value (Value.bool true)) u else Result.ok (Next.value (Value.bool true)) u else Result.ok (Next.value (Value.bool true)) u) = Result.ok (Next.value (Value.bool (!decide ((Fl.mk x th tx).name = kf.name ∧ (Fl.mk x th tx).there = kf.there ∧ (Fl.mk x th tx).text = kf.text)))) u := by
  simp only [toList_iff]
  by_cases h1 : x = kf.name
  · by_cases h2 : th = kf.there
    · by_cases h3 : tx = kf.text
      · simp [h1, h2, h3]
      · simp [h1, h2, h3]
    · simp [h1, h2]
  · simp [h1]
abbrev flCells (Fs : List Fl) : List Value := Fs.flatMap fun f => [.string f.name, .bool f.there, .string f.text]
theorem fl_flat : ∀ (Fs : List Fl) (k : Nat) (r : Fl), Fs[k]? = some r → (flCells Fs)[k * 3]? = some (.string r.name) ∧ (flCells Fs)[k * 3 + 1]? = some (.bool r.there) ∧ (flCells Fs)[k * 3 + 2]? = some (.string r.text)
  | [], k, r, h => by simp at h
  | x :: Cs, 0, r, h => by simp at h; subst h; simp
  | x :: Cs, k + 1, r, h => by
    have ih := fl_flat Cs k r (by simpa using h)
    have e : (k + 1) * 3 = k * 3 + 3 := by omega
    rw [e]
    simp only [flCells, List.flatMap_cons, List.cons_append, List.nil_append, List.getElem?_cons_succ]
    exact ih
theorem fl_view {w : World} {B : Nat} {v : Value} {Fs : List Fl} (h : w.ownsRow B 118 3 v Fs.length (flCells Fs)) : FV w v Fs := by
  have hc := fun g => World.ownsRow.cells h (g := g)
  have hlt := h.lt
  rcases h.2 with ⟨rfl, h0⟩ | ⟨g, cp, cur, rfl, _, hg, hcp, _⟩
  · have : Fs = [] := List.eq_nil_of_length_eq_zero h0
    subst this
    exact ⟨none, 0, rfl, fun k r hk => by simp at hk⟩
  · refine ⟨some ⟨g, 0, none⟩, cp, rfl, fun k r hk => ⟨g, 0, rfl, (hlt g rfl).2, ?_, ?_, ?_⟩⟩
    · have := hc g rfl (k * 3) _ (fl_flat Fs k r hk).1
      rw [Nat.zero_add, ← this]
      cases k <;> simp [Addr.add]
    · have := hc g rfl (k * 3 + 1) _ (fl_flat Fs k r hk).2.1
      rw [Nat.zero_add, ← this]
      simp [Addr.add]
    · have := hc g rfl (k * 3 + 2) _ (fl_flat Fs k r hk).2.2
      rw [Nat.zero_add, ← this]
      simp [Addr.add]
theorem Tryz.info118 : (Tryz.prog.info? 118).map (fun i => (i.zero, i.size, i.bytes)) = some (some (.agg #[.string ⟨#[]⟩, .bool false, .string ⟨#[]⟩]), 3, 40) := by kernel_rfl
set_option maxRecDepth 100000 in
set_option maxHeartbeats 6400000 in
theorem changed88_any (f : ByteArray → Option ByteArray) (fb fn rb ro : Nat) (st : ByteArray → PL) (mb n : Nat) (na : Option Addr) (nn nc : Nat) (L : List ByteArray) (w : World) (hF : FK w fb f fn) (hr : w.cell? ⟨rb, ro + 1, none⟩ = some (.map (some fb))) (hrb : rb < w.heap.size) (hT : TreeAt w mb st n) (hn : n ≤ 100000)
    (hN : TextsAt w.heap.size w (.slice na nn nc) L) (hL : L.length ≤ 200000) (hx : ∀ x ∈ L, x.size ≤ 1000 ∧ (st x).S.length ≤ 1000000 ∧ (rowText (st x).S).size ≤ 1000000000) :
    Calls Tryz.prog 111 #[.pointer (some ⟨rb, ro, none⟩), .agg #[.map (some mb)], .slice na nn nc] w fun e w' => ∃ v K, e = .returned v ∧ FV w' v ((K.filter (differs f st)).map (flOf f)) ∧ Srt K ∧ (∀ x, x ∈ K ↔ x ∈ L) ∧ Below w.heap.size w w' := by
  obtain ⟨i0, hi, hz0, hz1, hz2⟩ := info_parts Tryz.info118
  obtain ⟨w1, hw1⟩ : ∃ w1, w1 = w.alloc (.cells #[.map (some mb)] 121) := ⟨_, rfl⟩
  have hb1 : Below w.heap.size w w1 := by rw [hw1]; exact (Below.refl _ _).alloc (Nat.le_refl _) _
  have hk1 : w1.heap[w.heap.size]? = some (.cells #[.map (some mb)] 121 (0, 0)) := by rw [hw1]; exact (MapKept.heap_alloc w _).1
  have hs1 : w.heap.size < w1.heap.size := by rw [hw1]; simp
  have HV : Hid (Calls Tryz.prog 178 #[.slice na nn nc] w1 fun e w' => e = .returned (.func (.func 220) #[] #[.pointer (some ⟨w1.heap.size, 0, none⟩)]) ∧ w' = w1.alloc (.cells #[.slice na nn nc] 35)) := callsIn_wide.1 (values141_in 5 na nn nc w1)
  have HSO : Hid (Calls Tryz.prog 177 #[.func (.func 220) #[] #[.pointer (some ⟨w1.heap.size, 0, none⟩)]] (w1.alloc (.cells #[.slice na nn nc] 35)) fun e w3 => ∃ va vn vc, e = .returned (.slice va vn vc) ∧ w3.ownsRow w1.heap.size 9 1 (.slice va vn vc) ((L.map byt).mergeSort leB).length (((L.map byt).mergeSort leB).map encStr) ∧ Below w1.heap.size w1 w3) := by
    have hN1 : TextsAt (w1.alloc (.cells #[.slice na nn nc] 35)).heap.size (w1.alloc (.cells #[.slice na nn nc] 35)) (.slice na nn nc) L := by
      have hbb : Below w.heap.size w (w1.alloc (.cells #[.slice na nn nc] 35)) := hb1.alloc (by omega) _
      rcases TextsAt.below hbb hN with h | ⟨b, off, cap, e, hb, hc⟩
      · exact .inl h
      · exact .inr ⟨b, off, cap, e, by have := hbb.size; omega, hc⟩
    refine (callsIn_wide.1 (sorted140_vals 5 (by omega) w1.heap.size (.slice na nn nc) L (by omega) _ (by simp) (by have := (MapKept.heap_alloc w1 (.cells #[.slice na nn nc] 35)).1; unfold World.cell?; rw [this]; rfl) hN1)).mono ?_
    rintro e w3 ⟨v, rfl, h1, h2⟩
    have hl : L.length = ((L.map byt).mergeSort leB).length := by simp
    rw [hl] at h1
    obtain ⟨va, vc, rfl⟩ := own_shape h1
    exact ⟨va, _, vc, rfl, ownsRow_mono h1 (by simp), ((Below.refl _ w1).alloc (Nat.le_refl _) _).trans (h2.mono (by simp))⟩
  have HCO : Hid (∀ w3 va vn vc, w3.ownsRow w1.heap.size 9 1 (.slice va vn vc) ((L.map byt).mergeSort leB).length (((L.map byt).mergeSort leB).map encStr) → Calls Tryz.prog 176 #[.slice va vn vc] w3 fun e w4 => ∃ va vc K, e = .returned (.slice va K.length vc) ∧ View w4 va K ∧ Srt K ∧ (∀ x, x ∈ K ↔ x ∈ L) ∧ K.length ≤ L.length ∧ Below w1.heap.size w3 w4) := fun w3 va vn vc ho => by
    have tr : ∀ a b c : List UInt8, leB a b = true → leB b c = true → leB a c = true := fun a b c h1 h2 => by simp only [leB, decide_eq_true_eq] at *; exact List.le_trans h1 h2
    have to : ∀ a b : List UInt8, (leB a b || leB b a) = true := fun a b => by simp only [leB, Bool.or_eq_true, decide_eq_true_eq]; exact List.le_total a b
    refine (compact194_any ho ((List.pairwise_mergeSort tr to (L.map byt)).imp fun h => by simpa [leB] using h) (by simp; omega)).mono ?_
    rintro e w4 ⟨xa, xc, K, rfl, h1, h2, h3, h4, h5⟩
    refine ⟨xa, xc, K, rfl, h1, h2, fun x => ?_, by simpa using h4, h5⟩
    rw [h3, (List.mergeSort_perm _ _).mem_iff, List.mem_map]
    exact ⟨fun ⟨a, ha, hab⟩ => byt_inj hab ▸ ha, fun h => ⟨x, h, rfl⟩⟩
  have hfb := hF.lt
  have HFI : Hid (∀ u x, Below w1.heap.size w1 u → x.size ≤ 1000 → Calls Tryz.prog 179 #[.pointer (some ⟨rb, ro, none⟩), .string x] u fun e w' => e = .returned (.agg #[.string x, .bool (f x).isSome, .string ((f x).getD ⟨#[]⟩)]) ∧ Below u.heap.size u w') := fun u x hu hx' =>
    file142_any f fb fn rb ro x (by omega) u (hF.same ((hu.block fb (by omega)).trans (hb1.block fb hfb))) ((hu.cell (p := ⟨rb, ro + 1, none⟩) (by show rb < _; omega)).trans ((hb1.cell (p := ⟨rb, ro + 1, none⟩) hrb).trans hr)) (by have := hu.size; omega)
  have HKF : Hid (∀ u x, Below w1.heap.size w1 u → x ∈ L → Calls Tryz.prog 78 #[.agg #[.map (some mb)], .string x] u fun e w' => e = .returned (.agg #[.string (keptFl st x).name, .bool (keptFl st x).there, .string (keptFl st x).text]) ∧ Below u.heap.size u w') := fun u x hu hx' => by
    have := file55_any st mb n x (by have := (hx x hx').1; omega) u ((hT.below hb1 (Nat.le_refl _)).below hu (Nat.le_refl _)) (by omega) (hx x hx').2.1 (hx x hx').2.2
    rw [keptPL_fl] at this
    exact this
  have HNX : Hid (∀ x ∈ L, x.size ≤ 1000) := fun x h => (hx x h).1
  have HB1 := hid hb1
  have HK1 := hid hk1
  clear hF hT hr hN hx hb1 hk1
  go_enter Tryz.func111, Tryz.ntmps111
  go_wp2_with fail
  rw [← hw1]
  clear hw1
  refine HV.out.mono ?_
  rintro e w2 ⟨rfl, rfl⟩
  clear HV
  go_wp2_with fail
  refine HSO.out.mono ?_
  rintro e w3 ⟨va, vn, vc, rfl, ho3, hb3⟩
  clear HSO
  have HCO3 := HCO.out w3 va vn vc ho3
  have HC3 := hid HCO3
  clear HCO HCO3 ho3
  go_wp2_with fail
  refine HC3.out.mono ?_
  rintro e w4 ⟨xa, xc, K, rfl, hvw, hsr, hmem, hkl, hb4⟩
  clear HC3
  have hb14 : Below w1.heap.size w1 w4 := hb3.trans hb4
  have HVW := hid hvw
  have HSR := hid hsr
  have HME := hid hmem
  have HB4 := hid hb14
  have hs4 : w1.heap.size ≤ w4.heap.size := hb14.size
  clear hvw hsr hmem hb3 hb4 hb14
  go_wp2
  go_loopw [7, 16] (fun v x wr => ∃ (k : Nat), k ≤ K.length ∧ x = .int .i64 k ∧ Hid (wr.ownsRow w4.heap.size 118 3 v (((K.take k).filter (differs f st)).map (flOf f)).length (flCells (((K.take k).filter (differs f st)).map (flOf f)))) ∧ Below w4.heap.size w4 wr) (fun _ x _ => K.length - (intOf x).toNat)
  case atStart => exact ⟨0, Nat.zero_le _, rfl, World.ownsRow_nil _ _ _ _, Below.refl _ _⟩
  case round =>
    obtain ⟨k, hk, rfl, HO, hbw⟩ := hrel
    have hsw := hbw.size
    by_cases hlt : k < K.length
    · obtain ⟨x, hxk⟩ : ∃ x, K[k]? = some x := ⟨_, List.getElem?_eq_getElem hlt⟩
      have hxm : x ∈ K := List.mem_of_getElem? hxk
      have hgd : K.getD k ByteArray.empty = x := by rw [List.getD_eq_getElem?_getD, hxk]; rfl
      have hxL : x ∈ L := (HME.out x).1 hxm
      have hxs := HNX.out x hxL
      obtain ⟨b, o, rfl, hb, hcl⟩ := HVW.out.resolve_left (by omega)
      have c0 : wr.cell? ⟨b, o + k, none⟩ = some (.string x) := by rw [← hgd]; exact (hbw.cell (p := ⟨b, o + k, none⟩) hb).trans (hcl k hlt)
      have hb1r : Below w1.heap.size w1 wr := HB4.out.trans (hbw.mono hs4)
      have HF1 := hid (HFI.out wr x hb1r hxs)
      have HTK : Hid (K.take (k + 1) = K.take k ++ [x]) := by show _ = _; rw [List.take_add_one, hxk]; rfl
      have HD : Hid ((flOf f x) = ⟨x, (f x).isSome, (f x).getD ⟨#[]⟩⟩) := rfl
      obtain ⟨th, hth⟩ : ∃ th, (f x).isSome = th := ⟨_, rfl⟩
      obtain ⟨tx, htx⟩ : ∃ tx, (f x).getD ⟨#[]⟩ = tx := ⟨_, rfl⟩
      rw [hth, htx] at HF1 HD
      clear hcl hgd hxk hth htx
      go_wp2_with fail
      refine HF1.out.mono ?_
      rintro e w5 ⟨rfl, hb5⟩
      clear HF1
      obtain ⟨w6, hw6⟩ : ∃ w6, w6 = w5.alloc (.cells #[.string x, .bool th, .string tx] 118) := ⟨_, rfl⟩
      have hb6 : Below w5.heap.size w5 w6 := by rw [hw6]; exact (Below.refl _ _).alloc (Nat.le_refl _) _
      have hk6 : w6.heap[w5.heap.size]? = some (.cells #[.string x, .bool th, .string tx] 118 (0, 0)) := by rw [hw6]; exact (MapKept.heap_alloc w5 _).1
      have hs6 : w5.heap.size < w6.heap.size := by rw [hw6]; simp
      have hs5 := hb5.size
      have hbw6 : Below w4.heap.size w4 w6 := (hbw.trans (hb5.mono hsw)).trans (hb6.mono (by omega))
      have hx6 : w6.heap[w.heap.size]? = some (.cells #[.map (some mb)] 121 (0, 0)) := (hbw6.block _ (by omega)).trans ((HB4.out.block _ hs1).trans HK1.out)
      have s0 : w6.cell? ⟨w.heap.size, 0, none⟩ = some (.map (some mb)) := by simp [World.cell?, hx6]
      obtain ⟨f0, f1, f2⟩ := cells3_at hk6
      have HS6 : Hid ((w6.drew.cell? ⟨w.heap.size, 0, none⟩ = some (.map (some mb)) ∧ w6.drew.cell? ⟨w5.heap.size, 0, none⟩ = some (.string x)) ∧ w6.drew.cell? ⟨w5.heap.size, 1, none⟩ = some (.bool th) ∧ w6.drew.cell? ⟨w5.heap.size, 2, none⟩ = some (.string tx)) := ⟨⟨s0, f0⟩, f1, f2⟩
      have HKC : Hid (Calls Tryz.prog 78 #[.agg #[.map (some mb)], .string x] w6.drew fun e w' => e = .returned (.agg #[.string (keptFl st x).name, .bool (keptFl st x).there, .string (keptFl st x).text]) ∧ Below w6.heap.size w6 w') := (HKF.out w6.drew x ((HB4.out.trans (hbw6.mono hs4)).drew) hxL).mono fun e w' h => ⟨h.1, (Below.refl _ w6).drew.trans h.2⟩
      obtain ⟨kf, hkf⟩ : ∃ kf, keptFl st x = kf := ⟨_, rfl⟩
      rw [hkf] at HKC
      have HNQ : Hid (∀ u : World, (if x.toList = kf.name.toList then if th = kf.there then if tx.toList = kf.text.toList then Result.ok (Next.value (Value.bool false)) u else Result.ok (Next.value (Value.bool true)) u else Result.ok (Next.value (Value.bool true)) u else Result.ok (Next.value (Value.bool true)) u) = Result.ok (Next.value (Value.bool (differs f st x))) u) := fun u => by
        unfold differs
        rw [HD.out, hkf]
        exact neq_if x tx kf th u
      have HK6 := hid hk6
      have HO6 : Hid (w6.ownsRow w4.heap.size 118 3 u7 (((K.take k).filter (differs f st)).map (flOf f)).length (flCells (((K.take k).filter (differs f st)).map (flOf f)))) := own_below (own_below HO.out hb5 (Nat.le_refl _)) hb6 (Nat.le_refl _)
      obtain ⟨df, hdf⟩ : ∃ df, differs f st x = df := ⟨_, rfl⟩
      rw [hdf] at HNQ
      have HDF := hid hdf
      clear HO hb6 hk6 hx6 s0 f0 f1 f2 hb5 hkf hdf c0
      go_wp2_with fail
      rw [← hw6]
      clear hw6
      refine wp_region_Z (fun w' => (w'.cell? ⟨w.heap.size, 0, none⟩ = some (.map (some mb)) ∧ w'.cell? ⟨w5.heap.size, 0, none⟩ = some (.string x)) ∧ w'.cell? ⟨w5.heap.size, 1, none⟩ = some (.bool th) ∧ w'.cell? ⟨w5.heap.size, 2, none⟩ = some (.string tx)) 99 (by kernel_rfl) ?_
      refine zt 0 (v := ?v0) HS6.out (fun w0 hS0 => ?hy) ?_
      case hy => obtain ⟨⟨s1, s2⟩, s3, s4⟩ := hS0; go_simp; with_reducible rfl
      simp only [Act.put, List.setIfInBounds_toArray]
      refine zt 1 (v := ?v1) HS6.out (fun w0 hS0 => ?hy) ?_
      case hy => obtain ⟨⟨s1, s2⟩, s3, s4⟩ := hS0; go_simp; with_reducible rfl
      simp only [Act.put]
      refine zt 2 (v := ?v2) HS6.out (fun w0 hS0 => ?hy) ?_
      case hy => obtain ⟨⟨s1, s2⟩, s3, s4⟩ := hS0; go_simp; with_reducible rfl
      simp only [Act.put]
      refine wpZ_one 3 _ rfl (by kernel_rfl) (fun KK hK => ?_)
      go_simp
      refine HKC.out.mono ?_
      rintro e w7 ⟨rfl, hb7⟩
      have hk7 := (hb7.block _ hs6).trans HK6.out
      obtain ⟨g0, g1, g2⟩ := cells3_at hk7
      have HK7 := hid hk7
      have hbw7 : Below w4.heap.size w4 w7 := hbw6.trans (hb7.mono (by omega))
      have HO7 : Hid (w7.ownsRow w4.heap.size 118 3 u7 (((K.take k).filter (differs f st)).map (flOf f)).length (flCells (((K.take k).filter (differs f st)).map (flOf f)))) := own_below HO6.out hb7 (Nat.le_refl _)
      have hx7 : w7.heap[w.heap.size]? = some (.cells #[.map (some mb)] 121 (0, 0)) := (hbw7.block _ (by omega)).trans ((HB4.out.block _ hs1).trans HK1.out)
      dsimp only
      refine hK.out _ _ (fun _ => ⟨⟨by simp [World.cell?, hx7], g0⟩, g1, g2⟩) ?_
      clear hK hk7 hx7 HO6 HK6 HS6 HKC
      refine wpZ_one 4 _ rfl (by kernel_rfl) (fun KK hK => ?_)
      go_simp
      rw [HNQ.out w7]
      go_simp
      refine hK.out _ _ (fun _ => ⟨⟨by have := (hbw7.block _ (by omega : w.heap.size < w4.heap.size)).trans ((HB4.out.block _ hs1).trans HK1.out); simp [World.cell?, this], g0⟩, g1, g2⟩) ?_
      clear hK HNQ
      refine wpZ_done (by kernel_rfl) ?_ _
      have hs7 := hbw7.size
      cases df
      · have HO8 : Hid (w7.ownsRow w4.heap.size 118 3 u7 (((K.take (k + 1)).filter (differs f st)).map (flOf f)).length (flCells (((K.take (k + 1)).filter (differs f st)).map (flOf f)))) := by
          show World.ownsRow _ _ _ _ _ _ _
          rw [HTK.out, List.filter_append, List.filter_cons_of_neg (by rw [HDF.out]; simp), List.filter_nil, List.append_nil]
          exact HO7.out
        clear HO7 HK7 HTK HDF HD hbw6 hbw hb7
        go_wp2
        go_roundw
        case rel => exact ⟨k + 1, by omega, by go_num, HO8, hbw7⟩
        case measure => simp [intOf]; omega
      · have hown7 := HO7.out
        have hone : ∀ u ∈ [Value.string x, .bool th, .string tx], u.oneCell' = true := by
          intro u hu
          simp only [List.mem_cons, List.not_mem_nil, or_false] at hu
          rcases hu with rfl | rfl | rfl <;> rfl
        obtain ⟨m, hm⟩ : ∃ m, (((K.take k).filter (differs f st)).map (flOf f)).length = m := ⟨_, rfl⟩
        have hml : m ≤ 200000 := by
          rw [← hm, List.length_map]
          have := List.length_filter_le (differs f st) (K.take k)
          have := List.length_take_le k K
          omega
        rw [hm] at hown7
        have HM := hid hm
        have hnew := new_block3 w7 (.string x) (.bool th) (.string tx) 118
        have hownA := hown7.alloc (.cells #[.string x, .bool th, .string tx] 118)
        clear hm hown7
        go_wp2_with (at_builtin; refine wpList_append_own _ rfl _ _ 151 rfl w4.heap.size 118 i0 _ 3 40 Tryz.underlying151 hi hz0 hz1 hz2 rfl (by decide) _ _ _ rfl hownA ⟨w7.heap.size, 0, none⟩ 1 1 [.string x, .bool th, .string tx] rfl rfl hnew hone (by unfold maxLen; omega) (by omega) (by simp; omega) ?_)
        intro v' w8 hown8 hg8 _
        have HO8 : Hid (w8.ownsRow w4.heap.size 118 3 v' (((K.take (k + 1)).filter (differs f st)).map (flOf f)).length (flCells (((K.take (k + 1)).filter (differs f st)).map (flOf f)))) := by
          show World.ownsRow _ _ _ _ _ _ _
          rw [HTK.out, List.filter_append, List.filter_cons_of_pos HDF.out, List.filter_nil, List.map_append, List.map_cons, List.map_nil, HD.out, flCells, List.flatMap_append, List.length_append, List.length_singleton, HM.out]
          exact hown8
        have hbw8 : Below w4.heap.size w4 w8 := (hbw7.alloc (by omega) _).grown hg8 (by simp; omega) (fun j hj => (hownA.lt j hj).1)
        clear HO7 HK7 HTK HDF HD hbw6 hbw hb7 hown8 hg8 hownA hnew hone HM
        go_wp2
        go_roundw
        case rel => exact ⟨k + 1, by omega, by go_num, HO8, hbw8⟩
        case measure => simp [intOf]; omega
    · obtain rfl : k = K.length := by omega
      rw [List.take_length] at HO
      have HFV := hid (fl_view HO.out)
      obtain ⟨ua, uc, hue⟩ := own_shape HO.out
      have HBW : Hid (Below w.heap.size w wr) := HB1.out.trans ((HB4.out.mono (by omega)).trans (hbw.mono (by omega)))
      clear HO hbw
      subst hue
      go_wp2
      go_ret
      exact ⟨_, K, rfl, HFV.out, HSR.out, HME.out, HBW.out⟩
end Go.Proofs.YtgdfipmdmgkidaaGreatDoor
