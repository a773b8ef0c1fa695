/- The hunks that turn a row into a list of lines. -/
import Derived.Test.YtgdfipmdmgkidaaGreatDoorPgapn
import Derived.Test.YtgdfipmdmgkidaaGreatDoorPalter
import Derived.Deep.RegionHeld3
namespace Go.Proofs.YtgdfipmdmgkidaaGreatDoor
open Go.RowKit
theorem gaps186_any (O N : List ByteArray) (hO : O.length ≤ 10000) (hN : N.length ≤ 10000) (ov nv : Value) (w : World) (hvo : LV w ov O) (hvn : LV w nv N) :
    Calls Tryz.prog 249 #[ov, nv] w fun e w' => ∃ v, e = .returned v ∧ GapsOut O N w w' v ∧ Below w.heap.size w w' := by
  obtain ⟨oa, oc, rfl, ho, _⟩ := hvo
  obtain ⟨na, nc, rfl, hn, hnc, ⟨rfl, rfl, rfl⟩ | ⟨b, o, rfl, hb⟩⟩ := hvn
  · exact gaps186_none O hO oa oc w ho (common197_any O [] hO (by simp) oa none oc 0 w ho hn)
  · exact gaps186_some O N hO hN oa oc b o nc w ho hn hb hnc (common197_any O N hO hN oa _ oc nc w ho hn)
theorem gapOf_ok {O N : List ByteArray} {i j k l : Nat} (hi : i ≤ O.length) (hj : j ≤ N.length) (h : nxt O N i j = (k, l)) : ∀ q ∈ gapOf i k j l, q.i ≤ q.k ∧ q.k ≤ O.length ∧ q.j ≤ q.l ∧ q.l ≤ N.length := by
  have p := nxt_props O N i j hi hj
  rw [h] at p
  intro q hq
  unfold gapOf at hq
  split at hq
  · simp at hq; subst hq; exact ⟨p.1, p.2.1, p.2.2.1, p.2.2.2.1⟩
  · cases hq
theorem GapsR.ok {O N : List ByteArray} {i j : Nat} {Q : List Quad} (h : GapsR O N i j Q) (hi : i ≤ O.length) (hj : j ≤ N.length) : ∀ q ∈ Q, q.i ≤ q.k ∧ q.k ≤ O.length ∧ q.j ≤ q.l ∧ q.l ≤ N.length := by
  induction h with
  | stop h1 h2 => exact gapOf_ok hi hj h1
  | go h1 h2 h3 ih =>
    rename_i i j k l rest
    have p := nxt_props O N i j hi hj
    rw [h1] at p
    simp only at p
    have hl : l < N.length := by
      rcases p.2.2.2.2 with h | h
      · exact h.2.1
      · omega
    intro q hq
    rcases List.mem_append.1 hq with hq | hq
    · exact gapOf_ok hi hj h1 q hq
    · exact ih (by omega) (by omega) q hq
theorem living_len (S : List Spot) : (living S).length = (aliveOf S).length := by
  have h := congrArg List.length (rowLines_eq S)
  unfold rowLines at h
  simpa using h
theorem living_framed (S : List Spot) : (living (framed S)).length = (rowLines S).length + 2 := by
  rw [living_len, rowLines_eq, List.length_map]
  unfold aliveOf framed
  simp [begS, endS, edgeS]
theorem livTo_sorted (S : List Spot) (k : Nat) : (livTo S k).Pairwise (· < ·) := by
  induction k with
  | zero => simp [livTo]
  | succ k ih =>
    unfold livTo
    split
    · rw [List.pairwise_append]
      refine ⟨ih, by simp, fun a ha b hb => ?_⟩
      simp at hb
      subst hb
      exact (livTo_mem ha).1
    · exact ih
theorem living_lt (S : List Spot) {x y : Nat} (hxy : x < y) (hy : y < (living S).length) : (living S)[x]'(by omega) < (living S)[y] :=
  List.pairwise_iff_getElem.1 (livTo_sorted S S.length) x y (by show _ < (living S).length; omega) hy hxy
theorem living_in (S : List Spot) {x : Nat} (hx : x < (living S).length) : (living S)[x] < S.length := livTo_lt (List.getElem_mem hx)
def namedOf (F : List Spot) (q : Quad) : List Spot := (F.take ((living F).getD (q.k + 1) 0 + 1)).drop ((living F).getD q.i 0)
def numTo (n : Int) (N : List ByteArray) : List Quad → Int
  | [] => n
  | q :: qs => numTo (n + (linesAt N q).length) N qs
theorem numTo_snoc (n : Int) (N : List ByteArray) (qs : List Quad) (q : Quad) : numTo n N (qs ++ [q]) = numTo n N qs + (linesAt N q).length := by
  induction qs generalizing n with
  | nil => rfl
  | cons a qs ih => simp only [List.cons_append, numTo, ih]
structure HW (w : World) (B : Nat) (v : Value) (Hs : List Hk) : Prop where
  row : w.ownsRow B 327 2 v Hs.length (Hs.flatMap fun h => [h.nv, h.bv])
  nv : ∀ h ∈ Hs, w.ownsRow B 313 7 h.nv h.N.length (rowC h.N)
  bv : ∀ h ∈ Hs, w.ownsRow B 313 7 h.bv h.Br.length (rowC h.Br)
def Made (F : List Spot) (i : Pid) (n : Int) (N : List ByteArray) (qs : List Quad) (Hs : List Hk) : Prop := Hs.length = qs.length ∧ ∀ (k : Nat) (h : Hk), Hs[k]? = some h → ∃ q, qs[k]? = some q ∧ h.N = namedOf F q ∧ h.Br = bring i (numTo n N (qs.take k)) (linesAt N q)
theorem own_but {w w' : World} {B n size mb : Nat} {e : TypeId} {v : Value} {xs : List Value} (h : w.ownsRow B e size v n xs) (hb : But w w' mb) (hm : mb < B) : w'.ownsRow B e size v n xs := by
  have hlt := h.lt
  refine ⟨h.1, ?_⟩
  rcases h.2 with hn | ⟨g, cap, cur, hv, hg0, hg, rest⟩
  · exact .inl hn
  · exact .inr ⟨g, cap, cur, hv, hg0, (hb.block g (hlt g (by rw [hv]; rfl)).2 (by omega)).trans hg, rest⟩
theorem HW.but {w w' : World} {B mb : Nat} {v : Value} {Hs : List Hk} (h : HW w B v Hs) (hb : But w w' mb) (hm : mb < B) : HW w' B v Hs :=
  ⟨own_but h.row hb hm, fun x hx => own_but (h.nv x hx) hb hm, fun x hx => own_but (h.bv x hx) hb hm⟩
theorem HW.step {w w1 : World} {B : Nat} {v v' : Value} {Hs : List Hk} {h : Hk} (H : HW w B v Hs) (hg : w.grownBy w1 v.ownBlock) (hrow : w1.ownsRow B 327 2 v' (Hs.length + 1) ((Hs.flatMap fun h => [h.nv, h.bv]) ++ [h.nv, h.bv])) (hn : w.ownsRow B 313 7 h.nv h.N.length (rowC h.N)) (hb : w.ownsRow B 313 7 h.bv h.Br.length (rowC h.Br)) : HW w1 B v' (Hs ++ [h]) := by
  refine ⟨by simpa using hrow, fun x hx => ?_, fun x hx => ?_⟩
  · rcases List.mem_append.1 hx with hx | hx
    · exact (H.nv x hx).kept hg (own_far (H.nv x hx) H.row (by decide))
    · simp at hx; subst hx; exact hn.kept hg (own_far hn H.row (by decide))
  · rcases List.mem_append.1 hx with hx | hx
    · exact (H.bv x hx).kept hg (own_far (H.bv x hx) H.row (by decide))
    · simp at hx; subst hx; exact hb.kept hg (own_far hb H.row (by decide))
theorem Made.step {F : List Spot} {i : Pid} {n : Int} {N : List ByteArray} {qs : List Quad} {Hs : List Hk} {q : Quad} {h : Hk} (hm : Made F i n N qs Hs) (h1 : h.N = namedOf F q) (h2 : h.Br = bring i (numTo n N qs) (linesAt N q)) : Made F i n N (qs ++ [q]) (Hs ++ [h]) := by
  refine ⟨by simp [hm.1], fun k x hx => ?_⟩
  by_cases hk : k < Hs.length
  · rw [List.getElem?_append_left hk] at hx
    obtain ⟨q', e1, e2, e3⟩ := hm.2 k x hx
    have hkq : k < qs.length := by rw [← hm.1]; exact hk
    refine ⟨q', by rw [List.getElem?_append_left hkq]; exact e1, e2, ?_⟩
    rw [List.take_append_of_le_length (by omega)]
    exact e3
  · have hke : k = Hs.length := by
      have := (List.getElem?_eq_some_iff.1 hx).1
      simp at this
      omega
    subst hke
    simp at hx
    subst hx
    refine ⟨q, by rw [hm.1]; simp, h1, ?_⟩
    rw [hm.1, List.take_append_of_le_length (Nat.le_refl _), List.take_length]
    exact h2
end Go.Proofs.YtgdfipmdmgkidaaGreatDoor
/- The contract of the maker's hunks. -/
namespace Go.Proofs.YtgdfipmdmgkidaaGreatDoor
open Go.RowKit
theorem Tryz.info327 : (Tryz.prog.info? 327).map (fun i => (i.zero, i.size, i.bytes)) = some (some (.agg #[.slice none 0 0, .slice none 0 0]), 2, 48) := by kernel_rfl
theorem new_block2 (w : World) (x y : Value) (t : TypeId) : ∀ j u, [x, y][j]? = some u → (w.alloc (.cells #[x, y] t)).cell? ((⟨w.heap.size, 0, none⟩ : Addr).add j) = some u := by
  intro j u hj
  obtain ⟨a, b⟩ := cells2_of (MapKept.heap_alloc w (.cells #[x, y] t)).1
  match j, hj with
  | 0, hj => simp at hj; subst hj; exact a
  | 1, hj => simp at hj; subst hj; exact b
  | j + 2, hj => simp at hj
theorem gsC_get (G : List Gp) (k : Nat) (g : Gp) (h : G[k]? = some g) (j : Nat) (hj : j < 3) : (gsC G)[k * 3 + j]? = (gpC g)[j]? := by
  induction G generalizing k with
  | nil => simp at h
  | cons q G ih =>
    cases k with
    | zero =>
      simp at h
      subst h
      simp only [gsC, List.flatMap_cons, Nat.zero_mul, Nat.zero_add]
      rw [List.getElem?_append_left (by simpa using hj)]
    | succ k =>
      simp only [List.getElem?_cons_succ] at h
      simp only [gsC, List.flatMap_cons]
      rw [List.getElem?_append_right (by simp; omega)]
      have e : (k + 1) * 3 + j - (gpC q).length = k * 3 + j := by simp; omega
      rw [e]
      exact ih k h
theorem gp_at {w : World} {B : Nat} {v : Value} {G : List Gp} (h : w.ownsRow B 324 3 v G.length (gsC G)) {k : Nat} {g : Gp} (hk : G[k]? = some g) :
    ∃ b cap, v = .slice (some ⟨b, 0, none⟩) G.length cap ∧ b < w.heap.size ∧ w.cell? ⟨b, k * 3, none⟩ = some (.int .i64 (g.q.i : Nat)) ∧ w.cell? ⟨b, k * 3 + 1, none⟩ = some (.int .i64 (g.q.k : Nat)) ∧ w.cell? ⟨b, k * 3 + 2, none⟩ = some g.lv := by
  have hlt := h.lt
  have hkl := (List.getElem?_eq_some_iff.1 hk).1
  have h0 := h
  rcases h.2 with ⟨rfl, h2⟩ | ⟨b, cap, cur, rfl, _, hg, h3, _⟩
  · omega
  · have c := fun j (hj : j < G.length * 3) => World.ownsRow.cellAt h0 j hj
    refine ⟨b, cap, rfl, (hlt b rfl).2, ?_, ?_, ?_⟩
    · have := c (k * 3 + 0) (by omega); rw [gsC_get G k g hk 0 (by omega)] at this; exact this
    · have := c (k * 3 + 1) (by omega); rw [gsC_get G k g hk 1 (by omega)] at this; exact this
    · have := c (k * 3 + 2) (by omega); rw [gsC_get G k g hk 2 (by omega)] at this; exact this
theorem GapsR.len {O N : List ByteArray} {i j : Nat} {Q : List Quad} (h : GapsR O N i j Q) (hi : i ≤ O.length) (hj : j ≤ N.length) : Q.length + i ≤ O.length + 1 := by
  induction h with
  | stop h1 h2 =>
    rename_i i j k l
    have p := nxt_props O N i j hi hj
    rw [h1] at p
    simp only at p
    have : (gapOf i k j l).length ≤ 1 := by unfold gapOf; split <;> simp
    omega
  | go h1 h2 h3 ih =>
    rename_i i j k l rest
    have p := nxt_props O N i j hi hj
    rw [h1] at p
    simp only at p
    have hl : l < N.length := by
      rcases p.2.2.2.2 with h | h
      · exact h.2.1
      · omega
    have hq := ih (by omega) (by omega)
    have : (gapOf i k j l).length ≤ 1 := by unfold gapOf; split <;> simp
    rw [List.length_append]
    omega
theorem getD_living (F : List Spot) {x : Nat} (h : x < (living F).length) : (living F).getD x 0 = (living F)[x] := by rw [List.getD_eq_getElem?_getD, List.getElem?_eq_getElem h, Option.getD_some]
theorem But.alloc' {w : World} (mb : Nat) (o : Obj) : But w (w.alloc o) mb := (But.refl w mb).alloc o
theorem GV.but {w w1 : World} {B mb : Nat} {v : Value} {N : List ByteArray} {G : List Gp} (h : GV w B v N G) (hb : But w w1 mb) (hm : mb < B) : GV w1 B v N G := ⟨own_but h.row hb hm, fun x hx => own_but (h.lines x hx) hb hm⟩
theorem MAt.below {w w' : World} {mb B : Nat} {i : Pid} {n : Int} (h : MAt w mb i n) (hb : Below B w w') (hm : mb < B) : MAt w' mb i n := (hb.block mb hm).trans h
theorem HW.mono {w : World} {B B' : Nat} {v : Value} {Hs : List Hk} (h : HW w B' v Hs) (hB : B ≤ B') : HW w B v Hs := ⟨ownsRow_mono h.row hB, fun x hx => ownsRow_mono (h.nv x hx) hB, fun x hx => ownsRow_mono (h.bv x hx) hB⟩
def HunksOut (S : List Spot) (N : List ByteArray) (i : Pid) (n : Int) (mb : Nat) (w w' : World) (v : Value) : Prop :=
  ∃ (Hs : List Hk) (Q : List Quad), HW w' w.heap.size v Hs ∧ GapsR (rowLines S) N 0 0 Q ∧ Made (framed S) i n N Q Hs ∧ MAt w' mb i (numTo n N Q)
set_option maxRecDepth 100000 in
set_option maxHeartbeats 6400000 in
theorem hunks165_any (S : List Spot) (N : List ByteArray) (i : Pid) (n : Int) (mb : Nat) (rv lv : Value) (w : World) (hr : SV w rv S) (hl : LV w lv N) (hm : MAt w mb i n) (hS : S.length ≤ 9000) (hN : N.length ≤ 9000) (_hn : 0 ≤ n) (_hn2 : n ≤ 1000000) (hnum : ∀ Q, GapsR (rowLines S) N 0 0 Q → ∀ k, numTo n N (Q.take k) ≤ 10000000 ∧ 0 ≤ numTo n N (Q.take k)) :
    Calls Tryz.prog 217 #[.pointer (some ⟨mb, 0, none⟩), rv, lv] w fun e w' => ∃ v, e = .returned v ∧ HunksOut S N i n mb w w' v ∧ But w w' mb := by
  obtain ⟨i0, hi, hz0, hz1, hz2⟩ := info_parts Tryz.info327
  have hmlt := hm.lt
  have HF : Hid (Calls Tryz.prog 248 #[rv] w fun e w' => ∃ v, e = .returned v ∧ w'.ownsRow w.heap.size 313 7 v (framed S).length (rowC (framed S)) ∧ Below w.heap.size w w') := framed185_any S rv w hr (by omega)
  have hr0 := hr
  obtain ⟨ra, rc, rfl⟩ := hr.shape
  have HLV := hid hl
  obtain ⟨la, lc, rfl⟩ : ∃ la lc, lv = .slice la N.length lc := by obtain ⟨la, lc, e, _⟩ := hl; exact ⟨la, lc, e⟩
  have hfl : (framed S).length ≤ 9002 := by simp [framed]; omega
  have hlf := living_framed S
  have hol := rowLines_len S
  clear hl hr
  go_enter Tryz.func217, Tryz.ntmps217
  go_wp2_with fail
  refine HF.out.mono ?_
  rintro e w1 ⟨fv, rfl, hfo, hb1⟩
  clear HF
  obtain ⟨F, hF⟩ : ∃ F, framed S = F := ⟨_, rfl⟩
  rw [hF] at hfo hfl hlf
  have hs1 := hb1.size
  have HLi : Hid (Calls Tryz.prog 237 #[fv] w1 fun e w' => ∃ v, e = .returned v ∧ w'.ownsRow w1.heap.size 3 1 v (living F).length (nats (living F)) ∧ Below w1.heap.size w1 w') := living174_any F fv w1 (SV.own hfo) (by omega)
  have hfo1 := hfo
  obtain ⟨fa, fc, rfl⟩ := own_shape hfo1
  go_wp2_with fail
  refine HLi.out.mono ?_
  rintro e w2 ⟨lvv, rfl, hlo, hb2⟩
  clear HLi
  have hs2 := hb2.size
  have hfo2 := own_below hfo hb2 (Nat.le_refl _)
  have hlo2 := ownsRow_mono hlo hs1
  have hr2 := (hr0.below hb1 (Nat.le_refl _)).below hb2 (Nat.le_refl _)
  have HLn : Hid (Calls Tryz.prog 200 #[.slice ra S.length rc] w2 fun e w' => ∃ v, e = .returned v ∧ w'.ownsRow w2.heap.size 9 1 v (rowLines S).length (strs (rowLines S)) ∧ Below w2.heap.size w2 w') := lines148_any S _ w2 hr2 (by omega)
  obtain ⟨lva, lvc, rfl⟩ := own_shape hlo2
  clear hfo hlo hr0 hr2
  go_wp2_with fail
  refine HLn.out.mono ?_
  rintro e w3 ⟨ov, rfl, hoo, hb3⟩
  clear HLn
  have hs3 := hb3.size
  have hfo3 := own_below hfo2 hb3 (Nat.le_refl _)
  have hlo3 := own_below hlo2 hb3 (Nat.le_refl _)
  have hbw3 : Below w.heap.size w w3 := (hb1.trans (hb2.mono hs1)).trans (hb3.mono (by omega))
  have HG : Hid (Calls Tryz.prog 249 #[ov, .slice la N.length lc] w3 fun e w' => ∃ v, e = .returned v ∧ GapsOut (rowLines S) N w3 w' v ∧ Below w3.heap.size w3 w') := gaps186_any (rowLines S) N (by omega) (by omega) ov _ w3 (LV.own hoo) (HLV.out.below hbw3 (Nat.le_refl _))
  obtain ⟨oa, oc, rfl⟩ := own_shape hoo
  clear hoo hfo2 hlo2
  go_wp2_with fail
  refine HG.out.mono ?_
  rintro e w4 ⟨gv, rfl, ⟨G, hGV, hGR⟩, hb4⟩
  clear HG
  have hs4 := hb4.size
  have hfo4 := own_below hfo3 hb4 (Nat.le_refl _)
  have hlo4 := own_below hlo3 hb4 (Nat.le_refl _)
  have hGV4 := hGV.mono (B := w.heap.size) (by omega)
  have hbw4 : Below w.heap.size w w4 := hbw3.trans (hb4.mono (by omega))
  have hM4 : MAt w4 mb i n := (hbw4.block mb hmlt).trans hm
  obtain ⟨ga, gc, rfl⟩ := own_shape hGV4.row
  have HGR := hid hGR
  have HOK : Hid (∀ q ∈ G.map (·.q), q.i ≤ q.k ∧ q.k ≤ (rowLines S).length ∧ q.j ≤ q.l ∧ q.l ≤ N.length) := hGR.ok (Nat.zero_le _) (Nat.zero_le _)
  have HNUM := hid (hnum _ hGR)
  have HFE := hid hF
  have HGV := hid hGV4
  have hGl : G.length ≤ 10000 := by have := hGR.len (Nat.zero_le _) (Nat.zero_le _); simp at this; omega
  clear hGV hGV4 hGR hF hfo3 hlo3 hb1 hb2 hb3 hb4 hnum
  have hBM : mb < w.heap.size := hmlt
  have hBM4 : mb < w4.heap.size := by omega
  go_wp2
  go_loopw [9, 24] (fun v x wr => ∃ (k : Nat) (Hs : List Hk), k ≤ G.length ∧ x = .int .i64 k ∧ Hs.length = k ∧ Hid (HW wr w4.heap.size v Hs) ∧ Hid (Made F i n N ((G.map (·.q)).take k) Hs) ∧ Hid (MAt wr mb i (numTo n N ((G.map (·.q)).take k))) ∧ But w4 wr mb) (fun _ x _ => G.length - (intOf x).toNat)
  case atStart => exact ⟨0, [], Nat.zero_le _, rfl, rfl, ⟨World.ownsRow_nil _ _ _ _, (fun h hh => by cases hh), (fun h hh => by cases hh)⟩, ⟨rfl, fun k h hk => by simp at hk⟩, hM4, But.refl _ _⟩
  case round =>
    obtain ⟨k, Hs, hk, rfl, hHl, HHW, HMD, HMA, hbw⟩ := hrel
    have hszr := hbw.size
    by_cases hlt : k < G.length
    · obtain ⟨g, hg⟩ : ∃ g, G[k]? = some g := ⟨_, List.getElem?_eq_getElem hlt⟩
      obtain ⟨gb, gcap, e1, hgb, c0, c1, c2⟩ := gp_at (HGV.out.but hbw hBM).row hg
      have hgq : g.q ∈ G.map (·.q) := List.mem_map.2 ⟨g, List.mem_of_getElem? hg, rfl⟩
      obtain ⟨q1, q2, q3, q4⟩ := HOK.out _ hgq
      have hgl := (HGV.out.but hbw hBM).lines g (List.mem_of_getElem? hg)
      obtain ⟨xa, xc, hxe⟩ := own_shape hgl
      obtain ⟨q, lx⟩ := g
      simp only at c0 c1 c2 q1 q2 q3 q4 hgl hxe
      have hln : (linesAt N q).length ≤ 9000 := by unfold linesAt; simp; omega
      have hA : q.i < (living F).length := by omega
      have hB : q.k + 1 < (living F).length := by omega
      have hAB := living_lt F (show q.i < q.k + 1 by omega) hB
      have hBF := living_in F hB
      have hlow := own_but hlo4 hbw hBM
      obtain ⟨_, _, e2, hnv⟩ := NV.own hlow
      simp only [Value.slice.injEq] at e1 e2
      obtain ⟨e11, e12, e13⟩ := e1
      subst e11
      obtain ⟨e21, e22, e23⟩ := e2
      subst e21
      obtain ⟨lb, lo', hle, hlb, l1⟩ := hnv q.i hA
      obtain ⟨lb2, lo2, hle2, hlb2, l2⟩ := hnv (q.k + 1) hB
      subst hle
      simp only [Option.some.injEq, Addr.mk.injEq, and_true] at hle2
      obtain ⟨rfl, rfl⟩ := hle2
      subst hxe
      obtain ⟨x1, hx1⟩ : ∃ x, (living F)[q.i] = x := ⟨_, rfl⟩
      obtain ⟨x2, hx2⟩ : ∃ x, (living F)[q.k + 1] = x := ⟨_, rfl⟩
      rw [hx1] at l1 hAB
      rw [hx2] at l2 hAB hBF
      have HNM : Hid (namedOf F q = (F.take (x2 + 1)).drop x1) := by show _ = _; unfold namedOf; rw [getD_living F hA, getD_living F hB, hx1, hx2]
      have bA : (q.i : Int) < ((living F).length : Int) := by omega
      have bB : (q.k : Int) + 1 < ((living F).length : Int) := by omega
      have pB : (0 : Int) ≤ (q.k : Int) + 1 := by omega
      have wB : IntKind.i64.wrap ((q.k : Int) + 1) = (q.k : Int) + 1 := by simp [IntKind.wrap, IntKind.signed, IntKind.bits]; omega
      have tB : ((q.k : Int) + 1).toNat = q.k + 1 := by omega
      have hlfb : (living F).length ≤ 9010 := by omega
      obtain ⟨wr1, hwr1⟩ : ∃ wr1, wr1 = wr.alloc (.cells #[.int .i64 (q.i : Nat), .int .i64 (q.k : Nat), .slice xa (linesAt N q).length xc] 324) := ⟨_, rfl⟩
      have hb1 : Below wr.heap.size wr wr1 := by rw [hwr1]; exact (Below.refl _ _).alloc (Nat.le_refl _) _
      have hk1 : wr1.heap[wr.heap.size]? = some (.cells #[.int .i64 (q.i : Nat), .int .i64 (q.k : Nat), .slice xa (linesAt N q).length xc] 324 (0, 0)) := by rw [hwr1]; exact (MapKept.heap_alloc wr _).1
      have hs11 : wr.heap.size < wr1.heap.size := by rw [hwr1]; simp
      obtain ⟨d0, d1, d2⟩ := cells3_at hk1
      have l1' := (hb1.cell (p := ⟨lb, lo' + q.i, none⟩) hlb).trans l1
      have l2' := (hb1.cell (p := ⟨lb, lo' + (q.k + 1), none⟩) hlb).trans l2
      clear hlf hx1 hx2 e12 e13 e22 e23 hnv hlow hgq hA hB
      go_wp2_with fail
      rw [← hwr1]
      clear hwr1 c0 c1 c2 l1 l2
      go_quiet (fail)
      obtain ⟨wq, hwq⟩ : ∃ wq, wq = wr1.drewN nq := ⟨_, rfl⟩
      have hbq : Below wr.heap.size wr wq := by rw [hwq]; exact below_drewN hb1 nq
      have hsq : wr.heap.size < wq.heap.size := by rw [hwq]; exact hs11
      have hkq : wq.heap[wr.heap.size]? = some (.cells #[.int .i64 (q.i : Nat), .int .i64 (q.k : Nat), .slice xa (linesAt N q).length xc] 324 (0, 0)) := by rw [hwq]; exact hk1
      rw [← hwq]
      clear hwq hk1 hb1 hs11 d0 d1 d2 l1' l2'
      have hfq := own_below (own_but hfo4 hbw hBM) hbq (Nat.le_refl _)
      have hsvq := SV.own hfq
      obtain ⟨fb, e3, hfb⟩ : ∃ fb, fa = some ⟨fb, 0, none⟩ ∧ F.length ≤ fc := by
        rcases hfq.2 with ⟨h1, h2⟩ | ⟨g', cp, cur, h1, _, _, h3, _⟩
        · omega
        · simp only [Value.slice.injEq] at h1
          exact ⟨g', h1.1, by omega⟩
      have hpart : SV wq (.slice (some ⟨fb, x1 * 7, none⟩) (x2 + 1 - x1) (fc - x1)) (namedOf F q) := by
        rw [HNM.out]
        rw [e3] at hsvq
        have := hsvq.part x1 (x2 + 1) (by omega) (by omega)
        rwa [Nat.zero_add] at this
      subst e3
      have hnl : (namedOf F q).length ≤ 9002 := by rw [HNM.out]; simp; omega
      have HCl : Hid (Calls Tryz.prog 250 #[.slice (some ⟨fb, x1 * 7, none⟩) (x2 + 1 - x1) (fc - x1)] wq fun e w' => ∃ v, e = .returned v ∧ w'.ownsRow wq.heap.size 313 7 v (namedOf F q).length (rowC (namedOf F q)) ∧ Below wq.heap.size wq w') := clone187_any (namedOf F q) _ wq hpart (by omega)
      have j1 : (x1 : Int) ≤ (x2 : Int) + 1 := by omega
      have j2 : (x2 : Int) + 1 ≤ (fc : Int) := by omega
      have j3 : (0 : Int) ≤ (x2 : Int) + 1 := by omega
      have j4 : (x1 : Int) < (fc : Int) := by omega
      have j5 : x1 < fc := by omega
      have j6 : fc - x1 ≠ 0 := by omega
      have j7 : x2 + 1 ≤ fc := by omega
      have j8 : ((x2 : Int) + 1).toNat = x2 + 1 := by omega
      have j9 : IntKind.i64.wrap ((x2 : Int) + 1) = (x2 : Int) + 1 := by simp [IntKind.wrap, IntKind.signed, IntKind.bits]; omega
      clear hpart hsvq
      go_wp2_with fail
      refine HCl.out.mono ?_
      rintro e w5 ⟨nv, rfl, hno, hb5⟩
      clear HCl
      have hs5 := hb5.size
      have hb05 : Below wr.heap.size wr w5 := hbq.trans (hb5.mono (by omega))
      have hk5 := (hb5.block wr.heap.size hsq).trans hkq
      obtain ⟨_, _, d2⟩ := cells3_at hk5
      have hgl5 := own_below hgl hb05 (Nat.le_refl _)
      have hM5 : MAt w5 mb i (numTo n N ((G.map (·.q)).take k)) := HMA.out.below hb05 (by omega)
      have hnum := HNUM.out k
      have HBr : Hid (Calls Tryz.prog 216 #[.pointer (some ⟨mb, 0, none⟩), .slice xa (linesAt N q).length xc] w5 fun e w' => ∃ v, e = .returned v ∧ w'.ownsRow w5.heap.size 313 7 v (bring i (numTo n N ((G.map (·.q)).take k)) (linesAt N q)).length (rowC (bring i (numTo n N ((G.map (·.q)).take k)) (linesAt N q))) ∧ MAt w' mb i (numTo n N ((G.map (·.q)).take k) + (linesAt N q).length) ∧ But w5 w' mb) := bring164_any i _ (linesAt N q) xa xc mb w5 (View.own hgl5) hM5 (by omega) hnum.2 (by omega)
      obtain ⟨nl, hnl2⟩ : ∃ m, (namedOf F q).length = m := ⟨_, rfl⟩
      have hno2 := hno
      rw [hnl2] at hno2
      obtain ⟨na, nc, rfl⟩ := own_shape hno2
      have HNO := hid hno
      clear hno2 hno hnl2 hgl5 hM5
      go_wp2_with fail
      refine HBr.out.mono ?_
      rintro e w6 ⟨bv, rfl, hbo, hM6, hbt⟩
      clear HBr
      have hs6 := hbt.size
      have hbt0 : But wr w6 mb := (But.of_below mb hb05).trans hbt
      have hHW6 := HHW.out.but hbt0 hBM4
      obtain ⟨bl, hbl⟩ : ∃ m, (bring i (numTo n N ((G.map (·.q)).take k)) (linesAt N q)).length = m := ⟨_, rfl⟩
      have hbo2 := hbo
      rw [hbl] at hbo2
      obtain ⟨ba, bc, rfl⟩ := own_shape hbo2
      have hHWA : HW (w6.alloc (.cells #[.slice na nl nc, .slice ba bl bc] 327)) w4.heap.size u9 Hs := hHW6.but (But.alloc' mb _) hBM4
      have hnoA : (w6.alloc (.cells #[.slice na nl nc, .slice ba bl bc] 327)).ownsRow w4.heap.size 313 7 (.slice na nl nc) (namedOf F q).length (rowC (namedOf F q)) := (own_but (ownsRow_mono HNO.out (show w4.heap.size ≤ wq.heap.size by omega)) hbt hBM4).alloc _
      have hboA : (w6.alloc (.cells #[.slice na nl nc, .slice ba bl bc] 327)).ownsRow w4.heap.size 313 7 (.slice ba bl bc) (bring i (numTo n N ((G.map (·.q)).take k)) (linesAt N q)).length (rowC (bring i (numTo n N ((G.map (·.q)).take k)) (linesAt N q))) := (ownsRow_mono hbo (by omega)).alloc _
      have hrowA := hHWA.row
      have hnew := new_block2 w6 (.slice na nl nc) (.slice ba bl bc) 327
      have hone : ∀ u ∈ [Value.slice na nl nc, .slice ba bl bc], u.oneCell' = true := by
        intro u hu
        simp only [List.mem_cons, List.not_mem_nil, or_false] at hu
        rcases hu with rfl | rfl <;> rfl
      have HHA := hid hHWA
      have HNA := hid hnoA
      have HBA := hid hboA
      have HBL := hid hbl
      have HHL := hid hHl
      have hHk : Hs.length ≤ 10000 := by omega
      have HM6 := hid hM6
      clear hbo2 hbo hbl hnoA hboA hHWA hHW6 HNO hM6 d2 hHl
      go_wp2_with (at_builtin; refine wpList_append_own _ rfl _ _ 285 rfl w4.heap.size 327 i0 _ 2 48 Tryz.underlying285 hi hz0 hz1 hz2 rfl (by decide) _ _ _ rfl hrowA ⟨w6.heap.size, 0, none⟩ 1 1 [.slice na nl nc, .slice ba bl bc] rfl rfl hnew hone (by unfold maxLen; omega) (by omega) (by simp; omega) ?_)
      intro v' w7 hown' hg7 _
      have hrow0 : ∀ j, u9.ownBlock = some j → w4.heap.size ≤ j := fun j hj => (hrowA.lt j hj).1
      have HH7 : Hid (HW w7 w4.heap.size v' (Hs ++ [⟨.slice na nl nc, .slice ba bl bc, namedOf F q, bring i (numTo n N ((G.map (·.q)).take k)) (linesAt N q)⟩])) := HHA.out.step hg7 hown' HNA.out HBA.out
      have hbt7 : But w4 w7 mb := ((hbw.trans hbt0).alloc _).grown hg7 hrow0
      have HM7 : Hid (MAt w7 mb i (numTo n N ((G.map (·.q)).take (k + 1)))) := by
        have hk2 : (G.map (·.q)).take (k + 1) = (G.map (·.q)).take k ++ [q] := by
          rw [List.take_add_one, List.getElem?_map, hg]; rfl
        show MAt _ _ _ _
        rw [hk2, numTo_snoc]
        have h1 := hg7.block mb (by simp; omega) (fun e => by have := hrow0 mb e.symm; omega)
        exact h1.trans ((Below.heap_alloc w6 _ _ (by omega)).trans HM6.out)
      have HMD7 : Hid (Made F i n N ((G.map (·.q)).take (k + 1)) (Hs ++ [⟨.slice na nl nc, .slice ba bl bc, namedOf F q, bring i (numTo n N ((G.map (·.q)).take k)) (linesAt N q)⟩])) := by
        have hk2 : (G.map (·.q)).take (k + 1) = (G.map (·.q)).take k ++ [q] := by
          rw [List.take_add_one, List.getElem?_map, hg]; rfl
        show Made _ _ _ _ _ _
        rw [hk2]
        exact HMD.out.step rfl rfl
      clear hown' hg7 hrowA hnew hone HHA HNA HBA HM6 HMA HMD HHW hbt0 hbt hb05 hb5 hbq hfq hgl
      go_wp2
      go_roundw
      case rel => exact ⟨k + 1, _, by omega, by go_num, by simp [HHL.out], HH7, HMD7, HM7, hbt7⟩
      case measure => simp [intOf]; omega
    · have e : k = G.length := by omega
      have HF : Hid (HunksOut S N i n mb w wr u9) := by
        refine ⟨Hs, G.map (·.q), HHW.out.mono (by omega), HGR.out, ?_, ?_⟩
        · have := HMD.out
          rw [e, List.take_of_length_le (by simp)] at this
          rw [HFE.out]
          exact this
        · have := HMA.out
          rw [e, List.take_of_length_le (by simp)] at this
          exact this
      have HB : Hid (But w wr mb) := (But.of_below mb (hbw4.mono (Nat.le_refl _))).trans hbw
      clear e HHW HMD HMA
      go_wp2
      go_ret
      exact ⟨_, rfl, HF.out, HB.out⟩
end Go.Proofs.YtgdfipmdmgkidaaGreatDoor

/- The change that a patch makes of one file: an addition, or an alteration. -/
set_option maxHeartbeats 6400000
set_option maxRecDepth 100000
namespace Go.Proofs.YtgdfipmdmgkidaaGreatDoor
open Go.RowKit
theorem id_cells {w : World} {g : Nat} {k : Pid} {x y : Value} {t : TypeId} {f : Nat × Nat} (h : w.heap[g]? = some (.cells #[.int .u8 k.a, .int .u8 k.b, .int .u8 k.c, .int .u8 k.d, x, y] t f)) :
    w.cell? ⟨g, 0, none⟩ = some (.int .u8 k.a) ∧ w.cell? ⟨g, 1, none⟩ = some (.int .u8 k.b) ∧ w.cell? ⟨g, 2, none⟩ = some (.int .u8 k.c) ∧ w.cell? ⟨g, 3, none⟩ = some (.int .u8 k.d) ∧ w.cell? ⟨g, 4, none⟩ = some x ∧ w.cell? ⟨g, 5, none⟩ = some y := by
  simp [World.cell?, h]
theorem two_blocks' (w : World) {w3 : World} (x y : Obj) (h : w3 = (w.alloc x).alloc y) : Below w.heap.size w w3 ∧ w3.heap.size = w.heap.size + 2 ∧ w3.heap[w.heap.size]? = some x ∧ w3.heap[w.heap.size + 1]? = some y := by
  subst h
  have b1 : Below w.heap.size w (w.alloc x) := (Below.refl _ _).alloc (Nat.le_refl _) _
  have s1 : (w.alloc x).heap.size = w.heap.size + 1 := by simp
  refine ⟨b1.alloc (by omega) _, by simp, ?_, ?_⟩
  · rw [Below.heap_alloc _ _ _ (by omega)]
    exact (MapKept.heap_alloc w x).1
  · have := (MapKept.heap_alloc (w.alloc x) y).1
    rwa [s1] at this
theorem change138_add (i kb : Pid) (n : Int) (mb : Nat) (ka : Option Addr) (kn kc : Nat) (name text : ByteArray) (there : Bool) (w : World) (hm : MAt w mb i n) (ht : text.size ≤ 10000) (hL : (cutAll text).length ≤ 10000) (hn : 0 ≤ n) (hn2 : n ≤ 1000000) :
    Calls Tryz.prog 175 #[.pointer (some ⟨mb, 0, none⟩), .agg #[.int .u8 kb.a, .int .u8 kb.b, .int .u8 kb.c, .int .u8 kb.d, .bool false, .slice ka kn kc], .agg #[.string name, .bool there, .string text]] w fun e w' =>
      ∃ v, e = .returned (.iface 282 (.agg #[.int .u8 i.a, .int .u8 i.b, .int .u8 i.c, .int .u8 i.d, .int .u8 kb.a, .int .u8 kb.b, .int .u8 kb.c, .int .u8 kb.d, v])) ∧ w'.ownsRow w.heap.size 313 7 v (bring i n (cutAll text)).length (rowC (bring i n (cutAll text))) ∧ MAt w' mb i (n + (cutAll text).length) ∧ But w w' mb := by
  obtain ⟨w2, hw2⟩ : ∃ w2, w2 = (w.alloc (.cells #[.int .u8 kb.a, .int .u8 kb.b, .int .u8 kb.c, .int .u8 kb.d, .bool false, .slice ka kn kc] 185)).alloc (.cells #[.string name, .bool there, .string text] 118) := ⟨_, rfl⟩
  obtain ⟨hb2, hs2, hk2, hf2⟩ := two_blocks' w _ _ hw2
  have hmlt := hm.lt
  have hM2 : MAt w2 mb i n := hm.below hb2 hmlt
  obtain ⟨m0, m1, m2, m3, m4⟩ := hM2.cells
  obtain ⟨k0, k1, k2, k3, k4, k5⟩ := id_cells hk2
  obtain ⟨f0, f1, f2⟩ := cells3_at hf2
  obtain ⟨L, hLe⟩ : ∃ L, cutAll text = L := ⟨_, rfl⟩
  have HLE := hid hLe
  rw [hLe] at hL
  have hs2' : w.heap.size + 1 < w2.heap.size := by omega
  clear hs2
  go_enter Tryz.func175, Tryz.ntmps175
  go_wp2_with fail
  rw [← hw2]
  clear hw2
  have HS0 : Hid (w2.cell? ⟨mb, 0, none⟩ = some (.int .u8 i.a) ∧ w2.cell? ⟨mb, 1, none⟩ = some (.int .u8 i.b) ∧ w2.cell? ⟨mb, 2, none⟩ = some (.int .u8 i.c) ∧ w2.cell? ⟨mb, 3, none⟩ = some (.int .u8 i.d) ∧ w2.cell? ⟨w.heap.size, 0, none⟩ = some (.int .u8 kb.a) ∧ w2.cell? ⟨w.heap.size, 1, none⟩ = some (.int .u8 kb.b) ∧ w2.cell? ⟨w.heap.size, 2, none⟩ = some (.int .u8 kb.c) ∧ w2.cell? ⟨w.heap.size, 3, none⟩ = some (.int .u8 kb.d) ∧ w2.cell? ⟨w.heap.size + 1, 2, none⟩ = some (.string text)) := ⟨m0, m1, m2, m3, k0, k1, k2, k3, f2⟩
  have HC1 : Hid (Calls Tryz.prog 103 #[.string text] w2.drew fun e w3 => ∃ la lc, e = .returned (.slice la L.length lc) ∧ (w3.ownsRow w2.heap.size 9 1 (.slice la L.length lc) L.length (strs L) ∧ Below w2.heap.size w2 w3 ∧ MAt w3 mb i n ∧ w3.cell? ⟨mb, 0, none⟩ = some (.int .u8 i.a) ∧ w3.cell? ⟨mb, 1, none⟩ = some (.int .u8 i.b) ∧ w3.cell? ⟨mb, 2, none⟩ = some (.int .u8 i.c) ∧ w3.cell? ⟨mb, 3, none⟩ = some (.int .u8 i.d) ∧ w3.cell? ⟨w.heap.size, 0, none⟩ = some (.int .u8 kb.a) ∧ w3.cell? ⟨w.heap.size, 1, none⟩ = some (.int .u8 kb.b) ∧ w3.cell? ⟨w.heap.size, 2, none⟩ = some (.int .u8 kb.c) ∧ w3.cell? ⟨w.heap.size, 3, none⟩ = some (.int .u8 kb.d) ∧ w3.cell? ⟨w.heap.size + 1, 2, none⟩ = some (.string text))) := by
    have HC := cut19_any text w2.drew (by omega)
    rw [hLe] at HC
    refine HC.mono ?_
    rintro e w3 ⟨lv, rfl, hlo, hb3⟩
    obtain ⟨la, lc, rfl⟩ := own_shape hlo
    have hb3' : Below w2.heap.size w2 w3 := (Below.refl _ w2).drew.trans hb3
    have hM3 : MAt w3 mb i n := hM2.below hb3' (by omega)
    obtain ⟨a0, a1, a2, a3, _⟩ := hM3.cells
    obtain ⟨b0, b1, b2, b3, _, _⟩ := id_cells ((hb3'.block w.heap.size (by omega)).trans hk2)
    obtain ⟨_, _, c2⟩ := cells3_at ((hb3'.block (w.heap.size + 1) (by omega)).trans hf2)
    exact ⟨la, lc, rfl, hlo, hb3', hM3, a0, a1, a2, a3, b0, b1, b2, b3, c2⟩
  have HC2 : Hid (∀ (w3 : World) la lc, w3.ownsRow w2.heap.size 9 1 (.slice la L.length lc) L.length (strs L) → Below w2.heap.size w2 w3 → MAt w3 mb i n → Calls Tryz.prog 216 #[.pointer (some ⟨mb, 0, none⟩), .slice la L.length lc] w3 fun e w4 => ∃ ba bl bc, e = .returned (.slice ba bl bc) ∧ (w4.ownsRow w.heap.size 313 7 (.slice ba bl bc) (bring i n L).length (rowC (bring i n L)) ∧ MAt w4 mb i (n + L.length) ∧ But w w4 mb ∧ w4.cell? ⟨mb, 0, none⟩ = some (.int .u8 i.a) ∧ w4.cell? ⟨mb, 1, none⟩ = some (.int .u8 i.b) ∧ w4.cell? ⟨mb, 2, none⟩ = some (.int .u8 i.c) ∧ w4.cell? ⟨mb, 3, none⟩ = some (.int .u8 i.d) ∧ w4.cell? ⟨w.heap.size, 0, none⟩ = some (.int .u8 kb.a) ∧ w4.cell? ⟨w.heap.size, 1, none⟩ = some (.int .u8 kb.b) ∧ w4.cell? ⟨w.heap.size, 2, none⟩ = some (.int .u8 kb.c) ∧ w4.cell? ⟨w.heap.size, 3, none⟩ = some (.int .u8 kb.d) ∧ w4.cell? ⟨w.heap.size + 1, 2, none⟩ = some (.string text))) := fun w3 la lc hlo hb3 hM3 => by
    refine (bring164_any i n L la lc mb w3 (View.own hlo) hM3 (by omega) hn (by omega)).mono ?_
    rintro e w4 ⟨bv, rfl, hbo, hM4, hbt⟩
    obtain ⟨ba, bc, hbe⟩ := own_shape hbo
    have hs3 := hb3.size
    have hbt0 : But w w4 mb := (But.of_below mb ((hb2.trans (hb3.mono (by omega))))).trans hbt
    obtain ⟨a0, a1, a2, a3, _⟩ := hM4.cells
    obtain ⟨b0, b1, b2, b3, _, _⟩ := id_cells ((hbt.block w.heap.size (by omega) (by omega)).trans ((hb3.block w.heap.size (by omega)).trans hk2))
    obtain ⟨_, _, c2⟩ := cells3_at ((hbt.block (w.heap.size + 1) (by omega) (by omega)).trans ((hb3.block (w.heap.size + 1) (by omega)).trans hf2))
    subst hbe
    exact ⟨ba, _, bc, rfl, ownsRow_mono hbo (by omega), hM4, hbt0, a0, a1, a2, a3, b0, b1, b2, b3, c2⟩
  clear k4 k5 f0 f1 m4 hk2 hf2 hM2 hLe
  go_region_held3 (fun w' => w'.cell? ⟨mb, 0, none⟩ = some (.int .u8 i.a) ∧ w'.cell? ⟨mb, 1, none⟩ = some (.int .u8 i.b) ∧ w'.cell? ⟨mb, 2, none⟩ = some (.int .u8 i.c) ∧ w'.cell? ⟨mb, 3, none⟩ = some (.int .u8 i.d) ∧ w'.cell? ⟨w.heap.size, 0, none⟩ = some (.int .u8 kb.a) ∧ w'.cell? ⟨w.heap.size, 1, none⟩ = some (.int .u8 kb.b) ∧ w'.cell? ⟨w.heap.size, 2, none⟩ = some (.int .u8 kb.c) ∧ w'.cell? ⟨w.heap.size, 3, none⟩ = some (.int .u8 kb.d) ∧ w'.cell? ⟨w.heap.size + 1, 2, none⟩ = some (.string text))
    (first | exact KP2.out | exact KP1.out | exact ⟨m0, m1, m2, m3, k0, k1, k2, k3, f2⟩ | go_keep)
    (first
      | (go_at_call 103; refine HC1.out.mono ?_; rintro e w3 ⟨la, lc, rfl, hlo, hb3, hM3, hSS⟩; have KP1 : Hid (w3.cell? ⟨mb, 0, none⟩ = some (.int .u8 i.a) ∧ w3.cell? ⟨mb, 1, none⟩ = some (.int .u8 i.b) ∧ w3.cell? ⟨mb, 2, none⟩ = some (.int .u8 i.c) ∧ w3.cell? ⟨mb, 3, none⟩ = some (.int .u8 i.d) ∧ w3.cell? ⟨w.heap.size, 0, none⟩ = some (.int .u8 kb.a) ∧ w3.cell? ⟨w.heap.size, 1, none⟩ = some (.int .u8 kb.b) ∧ w3.cell? ⟨w.heap.size, 2, none⟩ = some (.int .u8 kb.c) ∧ w3.cell? ⟨w.heap.size, 3, none⟩ = some (.int .u8 kb.d) ∧ w3.cell? ⟨w.heap.size + 1, 2, none⟩ = some (.string text)) := hSS; clear hSS)
      | (go_at_call 216; refine (HC2.out _ _ _ hlo hb3 hM3).mono ?_; rintro e w4 ⟨ba, bl, bc, rfl, hbo, hM4, hbt, hSS⟩; have KP2 : Hid (w4.cell? ⟨mb, 0, none⟩ = some (.int .u8 i.a) ∧ w4.cell? ⟨mb, 1, none⟩ = some (.int .u8 i.b) ∧ w4.cell? ⟨mb, 2, none⟩ = some (.int .u8 i.c) ∧ w4.cell? ⟨mb, 3, none⟩ = some (.int .u8 i.d) ∧ w4.cell? ⟨w.heap.size, 0, none⟩ = some (.int .u8 kb.a) ∧ w4.cell? ⟨w.heap.size, 1, none⟩ = some (.int .u8 kb.b) ∧ w4.cell? ⟨w.heap.size, 2, none⟩ = some (.int .u8 kb.c) ∧ w4.cell? ⟨w.heap.size, 3, none⟩ = some (.int .u8 kb.d) ∧ w4.cell? ⟨w.heap.size + 1, 2, none⟩ = some (.string text)) := hSS; clear hSS))
  all_goals
    have HO := hid hbo
    clear hbo KP1 KP2 hlo hb3 hM3 m0 m1 m2 m3 k0 k1 k2 k3 f2
    go_wp2
    go_ret
    exact ⟨_, rfl, by rw [HLE.out]; exact HO.out, by rw [HLE.out]; exact hM4, hbt⟩
theorem change138_alter (i kb : Pid) (n : Int) (mb : Nat) (S : List Spot) (rv : Value) (name text : ByteArray) (w : World) (hm : MAt w mb i n) (hr : SV w rv S) (ht : text.size ≤ 10000) (hL : (cutAll text).length ≤ 9000) (hS : S.length ≤ 9000) (hn : 0 ≤ n) (hn2 : n ≤ 1000000)
    (hnum : ∀ Q, GapsR (rowLines S) (cutAll text) 0 0 Q → ∀ k, numTo n (cutAll text) (Q.take k) ≤ 10000000 ∧ 0 ≤ numTo n (cutAll text) (Q.take k)) :
    Calls Tryz.prog 175 #[.pointer (some ⟨mb, 0, none⟩), .agg #[.int .u8 kb.a, .int .u8 kb.b, .int .u8 kb.c, .int .u8 kb.d, .bool true, rv], .agg #[.string name, .bool true, .string text]] w fun e w' =>
      ∃ v, e = .returned (.iface 288 (.agg #[.int .u8 kb.a, .int .u8 kb.b, .int .u8 kb.c, .int .u8 kb.d, v])) ∧ HunksOut S (cutAll text) i n mb w w' v ∧ But w w' mb := by
  obtain ⟨ka, kc, rfl⟩ := hr.shape
  obtain ⟨w2, hw2⟩ : ∃ w2, w2 = (w.alloc (.cells #[.int .u8 kb.a, .int .u8 kb.b, .int .u8 kb.c, .int .u8 kb.d, .bool true, .slice ka S.length kc] 185)).alloc (.cells #[.string name, .bool true, .string text] 118) := ⟨_, rfl⟩
  obtain ⟨hb2, hs2, hk2, hf2⟩ := two_blocks' w _ _ hw2
  have hmlt := hm.lt
  have hM2 : MAt w2 mb i n := hm.below hb2 hmlt
  have hr2 := hr.below hb2 (Nat.le_refl _)
  obtain ⟨k0, k1, k2, k3, k4, k5⟩ := id_cells hk2
  obtain ⟨f0, f1, f2⟩ := cells3_at hf2
  obtain ⟨L, hLe⟩ : ∃ L, cutAll text = L := ⟨_, rfl⟩
  have HLE := hid hLe
  rw [hLe] at hL hnum
  have hs2' : w.heap.size + 1 < w2.heap.size := by omega
  clear hs2
  go_enter Tryz.func175, Tryz.ntmps175
  go_wp2_with fail
  rw [← hw2]
  clear hw2
  have HC1 : Hid (Calls Tryz.prog 103 #[.string text] w2.drew fun e w3 => ∃ la lc, e = .returned (.slice la L.length lc) ∧ (w3.ownsRow w2.heap.size 9 1 (.slice la L.length lc) L.length (strs L) ∧ Below w2.heap.size w2 w3 ∧ MAt w3 mb i n ∧ w3.cell? ⟨w.heap.size, 0, none⟩ = some (.int .u8 kb.a) ∧ w3.cell? ⟨w.heap.size, 1, none⟩ = some (.int .u8 kb.b) ∧ w3.cell? ⟨w.heap.size, 2, none⟩ = some (.int .u8 kb.c) ∧ w3.cell? ⟨w.heap.size, 3, none⟩ = some (.int .u8 kb.d) ∧ w3.cell? ⟨w.heap.size, 5, none⟩ = some (.slice ka S.length kc) ∧ w3.cell? ⟨w.heap.size + 1, 2, none⟩ = some (.string text))) := by
    have HC := cut19_any text w2.drew (by omega)
    rw [hLe] at HC
    refine HC.mono ?_
    rintro e w3 ⟨lv, rfl, hlo, hb3⟩
    obtain ⟨la, lc, rfl⟩ := own_shape hlo
    have hb3' : Below w2.heap.size w2 w3 := (Below.refl _ w2).drew.trans hb3
    have hM3 : MAt w3 mb i n := hM2.below hb3' (by omega)
    obtain ⟨b0, b1, b2, b3, _, b5⟩ := id_cells ((hb3'.block w.heap.size (by omega)).trans hk2)
    obtain ⟨_, _, c2⟩ := cells3_at ((hb3'.block (w.heap.size + 1) (by omega)).trans hf2)
    exact ⟨la, lc, rfl, hlo, hb3', hM3, b0, b1, b2, b3, b5, c2⟩
  have HC2 : Hid (∀ (w3 : World) la lc, w3.ownsRow w2.heap.size 9 1 (.slice la L.length lc) L.length (strs L) → Below w2.heap.size w2 w3 → MAt w3 mb i n → Calls Tryz.prog 217 #[.pointer (some ⟨mb, 0, none⟩), .slice ka S.length kc, .slice la L.length lc] w3 fun e w4 => ∃ ba bl bc, e = .returned (.slice ba bl bc) ∧ (HunksOut S L i n mb w w4 (.slice ba bl bc) ∧ But w w4 mb ∧ w4.cell? ⟨w.heap.size, 0, none⟩ = some (.int .u8 kb.a) ∧ w4.cell? ⟨w.heap.size, 1, none⟩ = some (.int .u8 kb.b) ∧ w4.cell? ⟨w.heap.size, 2, none⟩ = some (.int .u8 kb.c) ∧ w4.cell? ⟨w.heap.size, 3, none⟩ = some (.int .u8 kb.d) ∧ w4.cell? ⟨w.heap.size, 5, none⟩ = some (.slice ka S.length kc) ∧ w4.cell? ⟨w.heap.size + 1, 2, none⟩ = some (.string text))) := fun w3 la lc hlo hb3 hM3 => by
    have hs3 := hb3.size
    refine (hunks165_any S L i n mb _ _ w3 (hr2.below hb3 (Nat.le_refl _)) (LV.own hlo) hM3 hS hL hn hn2 hnum).mono ?_
    rintro e w4 ⟨bv, rfl, hO, hbt⟩
    have hbt0 : But w w4 mb := (But.of_below mb ((hb2.trans (hb3.mono (by omega))))).trans hbt
    obtain ⟨b0, b1, b2, b3, _, b5⟩ := id_cells ((hbt.block w.heap.size (by omega) (by omega)).trans ((hb3.block w.heap.size (by omega)).trans hk2))
    obtain ⟨_, _, c2⟩ := cells3_at ((hbt.block (w.heap.size + 1) (by omega) (by omega)).trans ((hb3.block (w.heap.size + 1) (by omega)).trans hf2))
    obtain ⟨Hs, Q, h1, h2, h3, h4⟩ := hO
    obtain ⟨ba, bc, hbe⟩ := own_shape h1.row
    subst hbe
    exact ⟨ba, _, bc, rfl, ⟨Hs, Q, h1.mono (by omega), h2, h3, h4⟩, hbt0, b0, b1, b2, b3, b5, c2⟩
  clear k4 f0 f1 hk2 hf2 hM2 hLe hnum
  go_region_held3 (fun w' => w'.cell? ⟨w.heap.size, 0, none⟩ = some (.int .u8 kb.a) ∧ w'.cell? ⟨w.heap.size, 1, none⟩ = some (.int .u8 kb.b) ∧ w'.cell? ⟨w.heap.size, 2, none⟩ = some (.int .u8 kb.c) ∧ w'.cell? ⟨w.heap.size, 3, none⟩ = some (.int .u8 kb.d) ∧ w'.cell? ⟨w.heap.size, 5, none⟩ = some (.slice ka S.length kc) ∧ w'.cell? ⟨w.heap.size + 1, 2, none⟩ = some (.string text))
    (first | exact KP2.out | exact KP1.out | exact ⟨k0, k1, k2, k3, k5, f2⟩ | go_keep)
    (first
      | (go_at_call 103; refine HC1.out.mono ?_; rintro e w3 ⟨la, lc, rfl, hlo, hb3, hM3, hSS⟩; have KP1 : Hid (w3.cell? ⟨w.heap.size, 0, none⟩ = some (.int .u8 kb.a) ∧ w3.cell? ⟨w.heap.size, 1, none⟩ = some (.int .u8 kb.b) ∧ w3.cell? ⟨w.heap.size, 2, none⟩ = some (.int .u8 kb.c) ∧ w3.cell? ⟨w.heap.size, 3, none⟩ = some (.int .u8 kb.d) ∧ w3.cell? ⟨w.heap.size, 5, none⟩ = some (.slice ka S.length kc) ∧ w3.cell? ⟨w.heap.size + 1, 2, none⟩ = some (.string text)) := hSS; clear hSS)
      | (go_at_call 217; refine (HC2.out _ _ _ hlo hb3 hM3).mono ?_; rintro e w4 ⟨ba, bl, bc, rfl, hO, hbt, hSS⟩; have KP2 : Hid (w4.cell? ⟨w.heap.size, 0, none⟩ = some (.int .u8 kb.a) ∧ w4.cell? ⟨w.heap.size, 1, none⟩ = some (.int .u8 kb.b) ∧ w4.cell? ⟨w.heap.size, 2, none⟩ = some (.int .u8 kb.c) ∧ w4.cell? ⟨w.heap.size, 3, none⟩ = some (.int .u8 kb.d) ∧ w4.cell? ⟨w.heap.size, 5, none⟩ = some (.slice ka S.length kc) ∧ w4.cell? ⟨w.heap.size + 1, 2, none⟩ = some (.string text)) := hSS; clear hSS))
  all_goals
    have HO := hid hO
    clear hO KP1 KP2 hlo hb3 hM3 k0 k1 k2 k3 k5 f2
    go_wp2
    go_ret
    exact ⟨_, rfl, by rw [HLE.out]; exact HO.out, hbt⟩
end Go.Proofs.YtgdfipmdmgkidaaGreatDoor
