/- All names: of the files and of what is kept. -/
import Derived.Test.YtgdfipmdmgkidaaGreatDoorPnames
import Derived.Test.YtgdfipmdmgkidaaGreatDoorPtake
import Derived.Lib.SlicesCompact
import Derived.Test.YtgdfipmdmgkidaaGreatDoorPgrow
namespace Go.Proofs.YtgdfipmdmgkidaaGreatDoor
open Go.RowKit

/-- An append to a list of the call's own, of whatever there is to append. -/
theorem step_append_all {P : Program} {w : World} {ops : Array Oper} {o : Oper} {a : Act} {K : Act → World → Prop} {Q : Exit → Act → World → Prop} {E : Prop} (hgd : o.guard = none) (s x : Operand) (t : TypeId)
    (ho : o.op = .call { callee := .builtin .append, args := #[s, x], argTypes := #[t, t] })
    (base : Nat) (e : TypeId) (i : TypeInfo) (z : Value) (size bytes : Nat) (ht : P.underlying t = some (.slice e)) (hi : P.info? e = some i) (hz : i.zero = some z)
    (hsize : i.size = size) (hby : i.bytes = bytes) (hzs : z.cells.size = size) (hsz : 0 < size)
    (v : Value) (n : Nat) (xs : List Value) (hs : a.eval s = v) (hown : w.ownsRow base e size v n xs)
    (xa : Option Addr) (m c : Nat) (news : List Value) (hx : a.eval x = .slice xa m c) (hl : news.length = m * size) (hnews : m = 0 ∨ ∃ ad, xa = some ad ∧ ∀ j u, news[j]? = some u → w.cell? (ad.add j) = some u) (h1 : ∀ u ∈ news, u.oneCell' = true)
    (h63 : n + m ≤ maxLen) (hbytes : (n + m) * bytes ≤ 140737488355328) (hbase : base ≤ w.heap.size)
    (h : ∀ va vn vc w', w'.ownsRow base e size (.slice va vn vc) (n + m) (xs ++ news) → w.grownBy w' v.ownBlock → K (a.put o.dst (.slice va vn vc)) w') :
    if Region.wanted o (yielded ops a.tmps) = true then Oper.wp P o a w K Q else E := by
  rcases Nat.eq_zero_or_pos m with rfl | hm
  · have hn : news = [] := List.eq_nil_of_length_eq_zero (by simpa using hl)
    subst hn
    have hown2 := hown
    obtain ⟨va, vc, rfl⟩ : ∃ va vc, v = .slice va n vc := by
      rcases hown.2 with ⟨rfl, rfl⟩ | ⟨g, cap, cur, rfl, _⟩
      · exact ⟨_, _, rfl⟩
      · exact ⟨_, _, rfl⟩
    exact step_append_zero hgd s x t ho base e i size ht hi _ n xs hs hown ⟨xa, c, hx⟩ (h va n vc w (by simpa using hown2) (World.grownBy.refl _ _))
  · obtain ⟨ad, rfl, hc⟩ := hnews.resolve_left (by omega)
    exact step_append_lies w hgd s x t ho base e i z size bytes ht hi hz hsize hby hzs hsz v n xs hs hown ad m c news hx hl hc h1 hm h63 hbytes hbase _ rfl (fun g cap w' k1 k2 _ _ => h _ _ _ w' k1 k2)

theorem own_cells {w : World} {B n c : Nat} {xa : Option Addr} {L : List ByteArray} (h : w.ownsRow B 9 1 (.slice xa n c) L.length (strs L)) : n = L.length ∧ (L.length = 0 ∨ ∃ ad, xa = some ad ∧ ∀ j u, (strs L)[j]? = some u → w.cell? (ad.add j) = some u) := by
  have hc := fun g => World.ownsRow.cells h (g := g)
  rcases h.2 with ⟨h1, h0⟩ | ⟨g, cp, cur, h1, _⟩
  · cases h1
    exact ⟨h0.symm, .inl h0⟩
  · cases h1
    exact ⟨rfl, .inr ⟨_, rfl, fun j u hj => hc g rfl j u hj⟩⟩

set_option maxRecDepth 100000 in
set_option maxHeartbeats 3200000 in
theorem allNames89_any (f : ByteArray → Option ByteArray) (fb fn rb ro : Nat) (st : ByteArray → PL) (mb n : Nat) (w : World) (hF : FK w fb f fn) (hfn : fn ≤ 1000000) (hr : w.cell? ⟨rb, ro + 1, none⟩ = some (.map (some fb))) (hrb : rb < w.heap.size) (hT : TreeAt w mb st n) (hn : n ≤ 100000) :
    Calls Tryz.prog 112 #[.pointer (some ⟨rb, ro, none⟩), .agg #[.map (some mb)]] w fun e w' => ∃ v L, e = .returned v ∧ w'.ownsRow w.heap.size 9 1 v L.length (strs L) ∧ (∀ x, x ∈ L ↔ (f x).isSome = true ∨ (st x).alive = true) ∧ L.length ≤ fn + n ∧ Below w.heap.size w w' := by
  obtain ⟨i0, hi, hz0, hz1, hz2⟩ := info_parts Tryz.info9
  obtain ⟨w1, hw1⟩ : ∃ w1, w1 = w.alloc (.cells #[.map (some mb)] 121) := ⟨_, rfl⟩
  have hb1 : Below w.heap.size w w1 := by rw [hw1]; exact (Below.refl _ _).alloc (Nat.le_refl _) _
  have hk1 : w1.heap[w.heap.size]? = some (.cells #[.map (some mb)] 121 (0, 0)) := by rw [hw1]; exact (MapKept.heap_alloc w _).1
  have hs1 : w.heap.size < w1.heap.size := by rw [hw1]; simp
  have hfb := hF.lt
  have hfl : ∀ u, Below w1.heap.size w1 u → FK u fb f fn := fun u hu => hF.same ((hu.block fb (by omega)).trans (hb1.block fb hfb))
  have H1 : Hid (∀ u, Below w1.heap.size w1 u → Calls Tryz.prog 168 #[.pointer (some ⟨rb, ro, none⟩)] u fun e w' => ∃ va vn vc K, e = .returned (.slice va vn vc) ∧ w'.ownsRow u.heap.size 9 1 (.slice va vn vc) K.length (strs K) ∧ (∀ x, x ∈ K ↔ (f x).isSome = true) ∧ K.length ≤ fn ∧ Below u.heap.size u w') := fun u hu => by
    refine (names131_any f fb fn rb ro u (hfl u hu) hfn ((hu.cell (p := ⟨rb, ro + 1, none⟩) (by show rb < _; omega)).trans ((hb1.cell (p := ⟨rb, ro + 1, none⟩) hrb).trans hr))).mono ?_
    rintro e w' ⟨v, K, rfl, g1, _, g3, g4, g5⟩
    obtain ⟨va, vc, rfl⟩ := own_shape g1
    exact ⟨va, _, vc, K, rfl, g1, g3, g4, g5⟩
  have H2 : Hid (∀ u, Below w1.heap.size w1 u → Calls Tryz.prog 180 #[.agg #[.map (some mb)]] u fun e w' => ∃ va vn vc K, e = .returned (.slice va vn vc) ∧ w'.ownsRow u.heap.size 9 1 (.slice va vn vc) K.length (strs K) ∧ (∀ x, x ∈ K ↔ (st x).alive = true) ∧ K.length ≤ n ∧ Below u.heap.size u w') := fun u hu => by
    refine (names143_any st mb n u ((hT.below hb1 (Nat.le_refl _)).below hu (Nat.le_refl _)) hn).mono ?_
    rintro e w' ⟨v, K, rfl, g1, _, g3, g4, g5⟩
    obtain ⟨va, vc, rfl⟩ := own_shape g1
    exact ⟨va, _, vc, K, rfl, g1, g3, g4, g5⟩
  have c1 : w1.cell? ⟨w.heap.size, 0, none⟩ = some (.map (some mb)) := by simp [World.cell?, hk1]
  have HB1 : Hid (Below w.heap.size w w1) := hb1
  have H0 : Hid (Below w1.heap.size w1 w1.drew) := (Below.refl _ _).drew
  clear hF hT hfl hr hk1 hb1
  go_enter Tryz.func112, Tryz.ntmps112
  go_wp2_with fail
  rw [← hw1]
  clear hw1
  refine wp_region_Z (fun w' => w'.cell? ⟨w.heap.size, 0, none⟩ = some (.map (some mb)) ∧ Below w1.heap.size w1 w') 5 (by kernel_rfl) ?_
  refine wpZ_take 0 _ (v := ?v0) rfl (by kernel_rfl) (by kernel_rfl) (by kernel_rfl) (fun _ _ _ h => h) (by kernel_rfl) (by decide) ⟨c1, H0.out⟩ rfl (fun w0 hS0 => ?hy) ?_
  case hy =>
    have s1 := hS0.1
    go_simp
    with_reducible rfl
  simp only [Act.put, List.setIfInBounds_toArray]
  refine wpZ_take 2 _ (v := ?v2) rfl (by kernel_rfl) (by kernel_rfl) (by kernel_rfl) (fun _ _ _ h => h) (by kernel_rfl) (by decide) ⟨c1, H0.out⟩ rfl (fun w0 hS0 => ?hy) ?_
  case hy =>
    have s1 := hS0.1
    go_simp
    with_reducible rfl
  simp only [Act.put]
  refine wpZ_one 1 _ rfl (by kernel_rfl) (fun K hK => ?_)
  go_simp
  refine (H1.out _ H0.out).mono ?_
  rintro e w2 ⟨va, vn, vc, K1, rfl, g1, g2, g3, g4⟩
  have hb2 : Below w1.heap.size w1 w2 := H0.out.trans g4
  have c2 : w2.cell? ⟨w.heap.size, 0, none⟩ = some (.map (some mb)) := (hb2.cell (p := ⟨w.heap.size, 0, none⟩) hs1).trans c1
  dsimp only
  refine hK.out _ _ (fun _ => ⟨c2, hb2⟩) ?_
  clear hK
  have HG1 : Hid (w2.ownsRow w1.heap.size 9 1 (.slice va vn vc) K1.length (strs K1)) := g1
  have HG2 : Hid (∀ x, x ∈ K1 ↔ (f x).isSome = true) := g2
  clear g1 g2
  refine wpZ_one 3 _ rfl (by kernel_rfl) (fun K hK => ?_)
  go_simp
  refine (H2.out _ hb2).mono ?_
  rintro e w3 ⟨ua, un, uc, K2, rfl, k1, k2, k3, k4⟩
  have hb3 : Below w1.heap.size w1 w3 := hb2.trans (k4.mono hb2.size)
  have c3 : w3.cell? ⟨w.heap.size, 0, none⟩ = some (.map (some mb)) := (hb3.cell (p := ⟨w.heap.size, 0, none⟩) hs1).trans c1
  dsimp only
  refine hK.out _ _ (fun _ => ⟨c3, hb3⟩) ?_
  clear hK
  have HG3 : Hid (w3.ownsRow w1.heap.size 9 1 (.slice va vn vc) K1.length (strs K1)) := own_below HG1.out k4 (Nat.le_refl _)
  obtain ⟨hun, hcells⟩ := own_cells k1
  have HCE : Hid (K2.length = 0 ∨ ∃ ad, ua = some ad ∧ ∀ j u, (strs K2)[j]? = some u → w3.cell? (ad.add j) = some u) := hcells
  have HK2 : Hid (∀ x, x ∈ K2 ↔ (st x).alive = true) := k2
  have hs3 := hb3.size
  clear hcells k1 k2 k4 g4 HG1
  refine wpZ_one 4 _ rfl (by kernel_rfl) (fun K hK => ?_)
  refine step_append_all (by rfl) _ _ _ (by rfl) w1.heap.size 9 i0 _ 1 16 Tryz.underlying35 hi hz0 hz1 hz2 rfl (by omega) _ K1.length (strs K1) (by rfl) HG3.out ua K2.length uc (strs K2) (by rw [← hun]; rfl) (by simp [strs]) HCE.out (strs_one _) (by unfold maxLen; omega) (by omega) hs3 ?_
  intro xa xn xc w4 hown4 hg4
  have hb4 : Below w1.heap.size w1 w4 := hb3.grown hg4 hs3 (fun j hj => (HG3.out.lt j hj).1)
  have c4 : w4.cell? ⟨w.heap.size, 0, none⟩ = some (.map (some mb)) := (hb4.cell (p := ⟨w.heap.size, 0, none⟩) hs1).trans c1
  refine hK.out _ _ (fun _ => ⟨c4, hb4⟩) ?_
  clear hK
  have HO : Hid (w4.ownsRow w.heap.size 9 1 (.slice xa xn xc) (K1 ++ K2).length (strs (K1 ++ K2))) := by
    show World.ownsRow _ _ _ _ _ _ _
    have e : strs (K1 ++ K2) = strs K1 ++ strs K2 := by simp
    rw [e, List.length_append]
    exact ownsRow_mono hown4 (by omega)
  have HB4 : Hid (Below w.heap.size w w4) := HB1.out.trans (hb4.mono (by omega))
  clear hown4 hg4 hb4 hb3 hb2 HG3 HCE c1 c2 c3
  simp only [Act.put, List.setIfInBounds_toArray]
  refine wpZ_one 5 _ rfl (by kernel_rfl) (fun K hK => ?_)
  go_simp
  refine hK.out _ _ (fun h => absurd rfl h) ?_
  clear hK
  refine wpZ_done (by kernel_rfl) ?_ _
  go_wp2
  go_ret
  refine ⟨_, K1 ++ K2, rfl, HO.out, fun x => by rw [List.mem_append, HG2.out, HK2.out], by rw [List.length_append]; omega, HB4.out⟩
end Go.Proofs.YtgdfipmdmgkidaaGreatDoor

/- Files are compared; names that are sorted, each once. -/
namespace Go.Proofs.YtgdfipmdmgkidaaGreatDoor
open Go.RowKit Go.Lib Go.Shelf Go.Sort

def flV (f : Fl) : Value := .agg #[.string f.name, .bool f.there, .string f.text]
section
variable {Z : List (List UInt8)}
theorem compact_mem (x : List UInt8) : x ∈ compact Z ↔ x ∈ Z := by
  unfold compact compactUpTo
  rw [List.mem_map]
  constructor
  · rintro ⟨j, hj, rfl⟩
    rw [List.mem_filter, List.mem_range] at hj
    simp [hj.1]
  · intro h
    have hex : ∃ j : Nat, Z[j]? = some x := List.mem_iff_getElem?.1 h
    obtain ⟨j, hj, hmin⟩ : ∃ j : Nat, Z[j]? = some x ∧ ∀ i : Nat, i < j → Z[i]? ≠ some x := by
      obtain ⟨j0, hj0⟩ := hex
      have : ∀ n : Nat, ∀ j : Nat, j ≤ n → Z[j]? = some x → ∃ j : Nat, Z[j]? = some x ∧ ∀ i : Nat, i < j → Z[i]? ≠ some x := by
        intro n
        induction n with
        | zero => intro j hj he; exact ⟨j, he, fun i hi => by omega⟩
        | succ n ih =>
          intro j hj he
          by_cases hx : ∃ i, i < j ∧ Z[i]? = some x
          · obtain ⟨i, hi, hie⟩ := hx
            exact ih i (by omega) hie
          · exact ⟨j, he, fun i hi hie => hx ⟨i, hi, hie⟩⟩
      exact this j0 j0 (Nat.le_refl _) hj0
    obtain ⟨hlt, he⟩ := List.getElem?_eq_some_iff.1 hj
    refine ⟨j, List.mem_filter.2 ⟨List.mem_range.2 hlt, ?_⟩, by simp [hlt, he]⟩
    unfold keeps
    rw [decide_eq_true_eq]
    rcases Nat.eq_zero_or_pos j with h0 | h0
    · exact .inl h0
    · refine .inr fun e => hmin (j - 1) (by omega) ?_
      have h2 : j - 1 < Z.length := by omega
      simp [hlt, h2, he] at e
      rw [List.getElem?_eq_getElem h2, e]
theorem compact_srt (h : Z.Pairwise (· ≤ ·)) : (compact Z).Pairwise (· < ·) := by
  unfold compact compactUpTo
  refine List.pairwise_map.2 ?_
  refine (List.Pairwise.filter (p := keeps Z.toArray) List.pairwise_lt_range).imp_of_mem ?_
  intro i j hi hj hij
  rw [List.mem_filter, List.mem_range] at hi hj
  have hk := hj.2
  unfold keeps at hk
  rw [decide_eq_true_eq] at hk
  have hne := hk.resolve_left (by omega)
  have le : ∀ a b, a ≤ b → (hb : b < Z.length) → Z.toArray[a]! ≤ Z.toArray[b]! := fun a b hab hb => by
    have ha : a < Z.length := by omega
    rcases Nat.lt_or_eq_of_le hab with h1 | h1
    · simpa [ha, hb] using List.pairwise_iff_getElem.1 h a b ha hb h1
    · subst h1
      exact List.le_refl _
  have h1 := le i (j - 1) (by omega) (by omega)
  have h2 := le (j - 1) j (by omega) hj.1
  refine List.not_le.1 fun h3 => hne ?_
  exact List.le_antisymm (List.le_trans h3 h1) h2
end
end Go.Proofs.YtgdfipmdmgkidaaGreatDoor

/- What is kept of a repository. -/
namespace Go.Proofs.YtgdfipmdmgkidaaGreatDoor
open Go.RowKit

set_option maxRecDepth 100000 in
set_option maxHeartbeats 3200000 in
theorem kept54_any (Ps : List PM) (pv : Value) (st : Nat → Nat → ByteArray → PL) (cnt : Nat → Nat) (rb : Nat) (ro : Nat) (w : World) (hp : PV w pv Ps) (hg : ∀ u, Below w.heap.size w u → Grows u Ps st cnt) (hPs : Ps.length ≤ 10000) (hr : w.cell? ⟨rb, ro, none⟩ = some pv) (hrb : rb < w.heap.size) :
    Calls Tryz.prog 77 #[.pointer (some ⟨rb, ro, none⟩)] w fun e w' => ∃ mb n, e = .returned (.agg #[.map (some mb)]) ∧ TreeAt w' mb (st Ps.length 0) n ∧ n ≤ 100000 ∧ w.heap.size ≤ mb ∧ Below w.heap.size w w' := by
  obtain ⟨w1, hw1⟩ : ∃ w1, w1 = w.alloc (.cells #[.map none] 121) := ⟨_, rfl⟩
  have hb1 : Below w.heap.size w w1 := by rw [hw1]; exact (Below.refl _ _).alloc (Nat.le_refl _) _
  have hk1 : w1.heap[w.heap.size]? = some (.cells #[.map none] 121 (0, 0)) := by rw [hw1]; exact (MapKept.heap_alloc w _).1
  have hs1 : w.heap.size < w1.heap.size := by rw [hw1]; simp
  have hr1 := (hb1.cell (p := ⟨rb, ro, none⟩) hrb).trans hr
  have HG : Hid (Calls Tryz.prog 123 #[pv] w1 fun e w' => ∃ mb n, e = .returned (.agg #[.map (some mb)]) ∧ TreeAt w' mb (st Ps.length 0) n ∧ n ≤ 100000 ∧ w1.heap.size ≤ mb ∧ Below w1.heap.size w1 w') := grow95_any Ps pv st cnt w1 (hp.below hb1 (Nat.le_refl _)) (hg w1 hb1) hPs
  obtain ⟨pa, pc, rfl, _⟩ := hp
  clear hg
  go_enter Tryz.func77, Tryz.ntmps77
  go_wp2_with fail
  rw [← hw1]
  clear hw1
  refine HG.out.mono ?_
  rintro e w2 ⟨mb, n, rfl, ht, hn, hmb, hb2⟩
  clear HG
  have hk2 := (hb2.block _ hs1).trans hk1
  have r0 : w2.cell? ⟨w.heap.size, 0, none⟩ = some (.map none) := by simp [World.cell?, hk2]
  have z0 := free3 hk2 0
  obtain ⟨w9, hw9⟩ : ∃ w9, w9 = w2.setCell ⟨w.heap.size, 0, none⟩ (.map (some mb)) := ⟨_, rfl⟩
  have s1 := heap_setCell_same w2 w.heap.size 0 _ 121 (.map (some mb)) hk2
  have s2 := Over.set w2 w.heap.size 0 (.map (some mb))
  rw [← hw9] at s1 s2
  have hb02 : Below w.heap.size w w2 := hb1.trans (hb2.mono (by omega))
  have hb9 : Below w.heap.size w w9 := ⟨s2.os.trans hb02.os, s2.tape.trans hb02.tape, s2.output.trans hb02.output, by rw [s2.size]; exact hb02.size, fun k hk => (s2.block k (by omega)).trans (hb02.block k hk)⟩
  have HT9 : Hid (TreeAt w9 mb (st Ps.length 0) n) := by
    obtain ⟨f, has, D, ⟨es, clock, he, hr⟩, h2, h3, h4, h5, h6⟩ := ht
    exact ⟨f, has, D, ⟨es, clock, (s2.block _ (by omega)).trans he, hr⟩, h2, h3, h4, h5, fun x => (h6 x).far hk2 (by simp) (by rw [s2.size]; exact Nat.le_refl _) (fun k _ hk => s2.block k hk)⟩
  clear ht s2 hk2 hb2
  go_wp2
  rw [← hw9]
  clear hw9
  refine bodyPost_ret (results_cell_row (p := 2) (ty := 121) (by kernel_rfl) _ _ w.heap.size 121 _ (0, 0) _ rfl s1 Tryz.underlying121 rfl (by kernel_rfl)) rfl ?_
  exact ⟨mb, n, rfl, HT9.out, hn, by omega, hb9⟩
end Go.Proofs.YtgdfipmdmgkidaaGreatDoor

/- What is kept of a name is asked for. -/
namespace Go.Proofs.YtgdfipmdmgkidaaGreatDoor
open Go.RowKit

theorem TreeAt.kat {w : World} {mb n : Nat} {st : ByteArray → PL} (h : TreeAt w mb st n) (hn : n ≤ 1000000) : ∃ f has, KAt w mb f has ∧ (∀ x, LatIs (f x) (st x)) ∧ ∀ x, SV w (f x).rv (f x).S := by
  obtain ⟨f, has, D, h1, h2, h3, h4, h5, h6⟩ := h
  exact ⟨f, has, ⟨n, D, hn, h1, h2, h3, h4⟩, h5, h6⟩

/-- What is kept of a name, as a file. -/
def keptPL (st : ByteArray → PL) (x : ByteArray) : Value := if (st x).alive = true then fileV x true (rowText (st x).S) else fileV x false ⟨#[]⟩

theorem file55_any (st : ByteArray → PL) (mb n : Nat) (x : ByteArray) (hx : x.size ≤ 1000000) (w : World) (h : TreeAt w mb st n) (hn : n ≤ 1000000) (hS : (st x).S.length ≤ 1000000) (hT : (rowText (st x).S).size ≤ 1000000000) :
    Calls Tryz.prog 78 #[.agg #[.map (some mb)], .string x] w fun e w' => e = .returned (keptPL st x) ∧ Below w.heap.size w w' := by
  obtain ⟨f, has, hk, hl, hs⟩ := h.kat hn
  obtain ⟨e1, e2, e3⟩ := hl x
  have e : keptFile f x = keptPL st x := by unfold keptFile keptPL; rw [e2, e3]
  rw [← e]
  cases ha : (f x).alive
  · exact file55_dead f has mb x hx w hk (hs x) ha
  · exact file55_alive f has mb x hx w hk (hs x) ha (by rw [e3]; exact hS) (by rw [e3]; exact hT)

set_option maxRecDepth 100000 in
set_option maxHeartbeats 3200000 in
theorem keptText30_alive (Ps : List PM) (pv : Value) (st : Nat → Nat → ByteArray → PL) (cnt : Nat → Nat) (rb ro : Nat) (x : ByteArray) (w : World) (hp : PV w pv Ps) (hg : ∀ u, Below w.heap.size w u → ∀ v, Below u.heap.size u v → Grows v Ps st cnt) (hPs : Ps.length ≤ 10000) (hr : w.cell? ⟨rb, ro, none⟩ = some pv) (hrb : rb < w.heap.size)
    (hx : x.size ≤ 1000000) (hnm : nameB x = true) (hal : (st Ps.length 0 x).alive = true) (hS : (st Ps.length 0 x).S.length ≤ 1000000) (hT : (rowText (st Ps.length 0 x).S).size ≤ 1000000000) :
    Calls Tryz.prog 46 #[.pointer (some ⟨rb, ro, none⟩), .string x] w fun e w' => e = .returned (.tuple #[.string (rowText (st Ps.length 0 x).S), .int .i64 0]) ∧ Below w.heap.size w w' := by
  have HN : Hid (Calls Tryz.prog 61 #[.string x] w fun e w' => e = .returned (.bool true) ∧ Below w.heap.size w w') := by
    have := isName42_any x w
    rw [hnm] at this
    exact this
  obtain ⟨T, hTe⟩ : ∃ T, rowText (st Ps.length 0 x).S = T := ⟨_, rfl⟩
  have hkp : keptPL (st Ps.length 0) x = .agg #[.string x, .bool true, .string T] := by unfold keptPL; rw [if_pos hal, hTe]; rfl
  have HTE : Hid (rowText (st Ps.length 0 x).S = T) := hTe
  have HF : Hid (∀ w' mb n, n ≤ 100000 → TreeAt w' mb (st Ps.length 0) n → Calls Tryz.prog 78 #[.agg #[.map (some mb)], .string x] w' fun e w'' => e = .returned (.agg #[.string x, .bool true, .string T]) ∧ Below w'.heap.size w' w'') := fun w' mb n hn ht => by
    have := file55_any (st Ps.length 0) mb n x hx w' ht (by omega) hS hT
    rw [hkp] at this
    exact this
  have HK : Hid (∀ u, Below w.heap.size w u → Calls Tryz.prog 77 #[.pointer (some ⟨rb, ro, none⟩)] u fun e w' => ∃ mb n, e = .returned (.agg #[.map (some mb)]) ∧ TreeAt w' mb (st Ps.length 0) n ∧ n ≤ 100000 ∧ u.heap.size ≤ mb ∧ Below u.heap.size u w') := fun u hu => kept54_any Ps pv st cnt rb ro u (hp.below hu (Nat.le_refl _)) (hg u hu) hPs ((hu.cell (p := ⟨rb, ro, none⟩) hrb).trans hr) (Nat.lt_of_lt_of_le hrb hu.size)
  clear hg hp hkp hTe hT hS hal hnm
  go_enter Tryz.func46, Tryz.ntmps46
  go_wp2_with fail
  refine HN.out.mono ?_
  rintro e w1 ⟨rfl, hb1⟩
  clear HN
  go_wp2_with fail
  refine (HK.out w1 hb1).mono ?_
  rintro e w2 ⟨mb, n, rfl, ht, hn, _, hb2⟩
  have HF2 : Hid (Calls Tryz.prog 78 #[.agg #[.map (some mb)], .string x] w2 fun e w'' => e = .returned (.agg #[.string x, .bool true, .string T]) ∧ Below w2.heap.size w2 w'') := HF.out w2 mb n hn ht
  have hs1 := hb1.size
  have hs2 := hb2.size
  clear HK HF ht
  go_wp2_with fail
  refine HF2.out.mono ?_
  rintro e w3 ⟨rfl, hb3⟩
  clear HF2
  have hb4 : Below w.heap.size w w3 := (hb1.trans (hb2.mono hs1)).trans (hb3.mono (by omega))
  go_wp2
  go_ret2
  exact ⟨by rw [HTE.out]; rfl, hb4.alloc hb4.size _⟩
end Go.Proofs.YtgdfipmdmgkidaaGreatDoor
