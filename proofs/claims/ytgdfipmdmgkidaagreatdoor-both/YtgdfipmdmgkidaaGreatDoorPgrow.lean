/- What some patches make, in their order. -/
import Derived.Test.YtgdfipmdmgkidaaGreatDoorPtree
set_option maxHeartbeats 6400000
set_option maxRecDepth 100000
namespace Go.Proofs.YtgdfipmdmgkidaaGreatDoor
open Go.RowKit
structure PL where
  by_ : Pid
  alive : Bool
  S : List Spot
def LatIs (l : Lat) (p : PL) : Prop := l.by_ = p.by_ ∧ l.alive = p.alive ∧ l.S = p.S
def pl0 : PL := ⟨⟨0, 0, 0, 0⟩, false, []⟩
def TreeAt (w : World) (mb : Nat) (st : ByteArray → PL) (n : Nat) : Prop := ∃ (f : ByteArray → Lat) (has : ByteArray → Bool) (D : DataW Value), w.ownsMap Tryz.prog 9 latElem mb n D ∧ (∀ x, D.atKey (kl x) (.held (latV lat0)) = .held (latV (f x))) ∧ (∀ x, Maps.has D (kl x) = has x) ∧ (∀ x, has x = false → f x = lat0) ∧ (∀ x, LatIs (f x) (st x)) ∧ ∀ x, SV w (f x).rv (f x).S
theorem TreeAt.lt {w : World} {mb n : Nat} {st : ByteArray → PL} (h : TreeAt w mb st n) : mb < w.heap.size := by
  obtain ⟨_, _, _, h1, _⟩ := h
  exact h1.lt
theorem TreeAt.made (w : World) : TreeAt (w.alloc (.map #[] 0)) w.heap.size (fun _ => pl0) 0 :=
  ⟨fun _ => lat0, fun _ => false, .map [], World.ownsMap_made w _ _ _, fun _ => rfl, fun _ => rfl, fun _ _ => rfl, fun _ => ⟨rfl, rfl, rfl⟩, fun _ => lat0_row _⟩
theorem TreeAt.below {w w' : World} {mb n : Nat} {st : ByteArray → PL} (h : TreeAt w mb st n) {B : Nat} (hb : Below B w w') (hB : w.heap.size ≤ B) : TreeAt w' mb st n := by
  have hlt := h.lt
  obtain ⟨f, has, D, ⟨es, clock, he, hr⟩, h2, h3, h4, h5, h6⟩ := h
  exact ⟨f, has, D, ⟨es, clock, (hb.block mb (by omega)).trans he, hr⟩, h2, h3, h4, h5, fun x => (h6 x).below hb hB⟩
theorem SV.map {w w' : World} {v : Value} {S : List Spot} {mb : Nat} (h : SV w v S) (hg : w.grownBy w' (some mb)) (hm : ∃ es c, w.heap[mb]? = some (.map es c)) : SV w' v S := by
  obtain ⟨es, c, hm⟩ := hm
  rcases h with h | ⟨b, o, cap, rfl, hcap, hb, hcl⟩
  · exact .inl h
  · refine .inr ⟨b, o, cap, rfl, hcap, hb.same (hg.block b hb.lt ?_), fun j u hj => (cell_same (hg.block b hb.lt ?_) _).trans (hcl j u hj)⟩
    all_goals
      intro e
      injection e with e
      subst e
      obtain ⟨A, fz, hb⟩ := hb
      rw [hm] at hb
      cases hb
theorem TreeAt.put {w : World} {mb n : Nat} {st st' : ByteArray → PL} (h : TreeAt w mb st n) (hn : n + 1 ≤ 1000000) (a : ByteArray) (l : Lat) (ha : a.size ≤ 1000000) (hl : LatIs l (st' a)) (hs : SV w l.rv l.S) (ho : ∀ x, x ≠ a → st' x = st x) :
    ∃ w', (Instr.mapUpdate 119 (.map (some mb)) (.string a) (latV l)).run Tryz.prog w = .ok () w' ∧ TreeAt w' mb st' (n + 1) ∧ w.grownBy w' (some mb) := by
  obtain ⟨f, has, D, h1, h2, h3, h4, h5, h6⟩ := h
  have hm : ∃ es c, w.heap[mb]? = some (.map es c) := by obtain ⟨es, c, he, _⟩ := h1; exact ⟨es, c, he⟩
  obtain ⟨w', hr, ho', ⟨_, _, _, _, _, _, _⟩, hg⟩ := KAt.put (f := f) (has := has) n D hn h1 h2 h3 h4 a l ha
  refine ⟨w', hr, ⟨fun x => if x = a then l else f x, fun x => decide (x = a) || has x, _, ho', fun x => ?_, fun x => ?_, fun x hx => ?_, fun x => ?_, fun x => ?_⟩, hg⟩
  · show _ = DataW.held (latV (if x = a then l else f x))
    by_cases e : x = a
    · subst e
      rw [Maps.atKey_put_same h1.isMap (kl_key x), if_pos rfl]
    · rw [Maps.atKey_put_other (fun q => e (kl_inj q)), h2, if_neg e]
  · by_cases e : x = a
    · subst e
      rw [Maps.has_put_same h1.isMap (kl_key x)]; simp
    · rw [Maps.has_put_other (fun q => e (kl_inj q)), h3]; simp [e]
  · have e : x ≠ a := fun e => by simp [e] at hx
    show (if x = a then l else f x) = lat0
    rw [if_neg e]
    exact h4 x (by simpa [e] using hx)
  · show LatIs (if x = a then l else f x) (st' x)
    by_cases e : x = a
    · subst e; rw [if_pos rfl]; exact hl
    · rw [if_neg e, ho x e]; exact h5 x
  · show SV w' (if x = a then l else f x).rv (if x = a then l else f x).S
    by_cases e : x = a
    · rw [if_pos e]; exact hs.map hg hm
    · rw [if_neg e]; exact (h6 x).map hg hm
theorem TreeAt.look {w : World} {mb n : Nat} {st : ByteArray → PL} (h : TreeAt w mb st n) (a : ByteArray) (ha : a.size ≤ 1000000) : ∃ l, (Instr.lookup 119 (.map (some mb)) (.string a) false).run Tryz.prog w = .ok (latV l) w ∧ LatIs l (st a) ∧ SV w l.rv l.S := by
  obtain ⟨f, has, D, h1, h2, h3, h4, h5, h6⟩ := h
  obtain ⟨v, ps, hr, hv⟩ := h1.lookup (Maps.string_keyed Tryz.underlying9) Tryz.underlying119 (zero147 w) (latElem_mk lat0) (kl_of (s := a) (by unfold maxLen; omega))
  rw [h2 a] at hv
  exact ⟨f a, by rw [hr, latElem_inv hv], h5 a, h6 a⟩
structure PM where
  id : Pid
  cv : Value
  Cs : List (ByteArray × ChM)
def PV (w : World) (v : Value) (Ps : List PM) : Prop := ∃ ao cap, v = .slice ao Ps.length cap ∧ ∀ (k : Nat) (p : PM), Ps[k]? = some p → ∃ b o, ao = some ⟨b, o, none⟩ ∧ TB w b 149 ∧ w.cell? ⟨b, o + k * 5, none⟩ = some (.int .u8 p.id.a) ∧ w.cell? ⟨b, o + k * 5 + 1, none⟩ = some (.int .u8 p.id.b) ∧ w.cell? ⟨b, o + k * 5 + 2, none⟩ = some (.int .u8 p.id.c) ∧ w.cell? ⟨b, o + k * 5 + 3, none⟩ = some (.int .u8 p.id.d) ∧ w.cell? ⟨b, o + k * 5 + 4, none⟩ = some p.cv ∧ CV w p.cv p.Cs
theorem PV.below {w w' : World} {v : Value} {Ps : List PM} (h : PV w v Ps) {B : Nat} (hb : Below B w w') (hB : w.heap.size ≤ B) : PV w' v Ps := by
  obtain ⟨ao, cap, rfl, hc⟩ := h
  refine ⟨ao, cap, rfl, fun k r hk => ?_⟩
  obtain ⟨b, o, e, h1, h2, h3, h4, h5, h6, h7⟩ := hc k r hk
  have hlt := h1.lt
  have t := fun (j : Nat) => hb.cell (p := ⟨b, o + k * 5 + j, none⟩) (by show b < B; omega)
  have t0 := hb.cell (p := ⟨b, o + k * 5, none⟩) (by show b < B; omega)
  exact ⟨b, o, e, h1.below hb hB, t0.trans h2, (t 1).trans h3, (t 2).trans h4, (t 3).trans h5, (t 4).trans h6, h7.below hb hB⟩
end Go.Proofs.YtgdfipmdmgkidaaGreatDoor
/- The contract of Grow. -/
namespace Go.Proofs.YtgdfipmdmgkidaaGreatDoor
open Go.RowKit
theorem three_blocks' (w : World) {w3 : World} (x y z : Obj) (h : w3 = ((w.alloc x).alloc y).alloc z) : Below w.heap.size w w3 ∧ w3.heap.size = w.heap.size + 3 ∧ w3.heap[w.heap.size]? = some x ∧ w3.heap[w.heap.size + 1]? = some y ∧ w3.heap[w.heap.size + 1 + 1]? = some z := by
  obtain ⟨a, b, c, d⟩ := three_blocks w x y z h
  refine ⟨a, b, c, ?_, d⟩
  subst h
  have s1 : (w.alloc x).heap.size = w.heap.size + 1 := by simp
  rw [Below.heap_alloc _ _ _ (by simp)]
  have := (MapKept.heap_alloc (w.alloc x) y).1
  rwa [s1] at this
structure Grows (w : World) (Ps : List PM) (st : Nat → Nat → ByteArray → PL) (cnt : Nat → Nat) : Prop where
  start : st 0 0 = fun _ => pl0
  next : ∀ p P, Ps[p]? = some P → st (p + 1) 0 = st p P.Cs.length
  other : ∀ p P k c, Ps[p]? = some P → P.Cs[k]? = some c → ∀ x, x ≠ c.1 → st p (k + 1) x = st p k x
  step : ∀ p P k c, Ps[p]? = some P → P.Cs[k]? = some c → ∀ u l, Below w.heap.size w u → LatIs l (st p k c.1) → SV u l.rv l.S → Calls Tryz.prog (chApply c.2) #[chIn c.2, latV l] u fun e w' => ∃ l', e = .returned (latV l') ∧ LatIs l' (st p (k + 1) c.1) ∧ SV w' l'.rv l'.S ∧ Below u.heap.size u w'
  names : ∀ P ∈ Ps, ∀ c ∈ P.Cs, c.1.size ≤ 1000
  few : ∀ P ∈ Ps, P.Cs.length ≤ 1000
  count : ∀ p P, Ps[p]? = some P → cnt (p + 1) = cnt p + P.Cs.length
  small : ∀ p, cnt p ≤ 100000
structure GInv (w wr : World) (st : ByteArray → PL) (c : Nat) : Prop where
  bel : Below w.heap.size w wr
  lo : w.heap.size + 3 ≤ wr.heap.size
  tb : wr.heap[w.heap.size + 1 + 1]? = some (.cells #[.map (some (w.heap.size + 1))] 121 (0, 0))
  rb : wr.heap[w.heap.size]? = some (.cells #[.map none] 121 (0, 0))
  tree : ∃ n, n ≤ c ∧ TreeAt wr (w.heap.size + 1) st n
theorem GInv.below {w wr w' : World} {st : ByteArray → PL} {c : Nat} (h : GInv w wr st c) (hb : Below wr.heap.size wr w') : GInv w w' st c := by
  have h1 := h.bel.size
  have h2 := h.lo
  obtain ⟨n, hn, ht⟩ := h.tree
  exact ⟨h.bel.trans (hb.mono h1), Nat.le_trans h.lo hb.size, (hb.block _ (by omega)).trans h.tb, (hb.block _ (by omega)).trans h.rb, n, hn, ht.below hb (Nat.le_refl _)⟩
theorem cells5_of {w : World} {g : Nat} {x0 x1 x2 x3 x4 : Value} {t : TypeId} {f : Nat × Nat} (h : w.heap[g]? = some (.cells #[x0, x1, x2, x3, x4] t f)) : w.cell? ⟨g, 0, none⟩ = some x0 ∧ w.cell? ⟨g, 1, none⟩ = some x1 ∧ w.cell? ⟨g, 2, none⟩ = some x2 ∧ w.cell? ⟨g, 3, none⟩ = some x3 ∧ w.cell? ⟨g, 4, none⟩ = some x4 := by
  refine ⟨?_, ?_, ?_, ?_, ?_⟩ <;> simp [World.cell?, h]
theorem But.base {a b c : World} {m : Nat} (h : But b c m) (hb : Below a.heap.size a b) (hm : a.heap.size ≤ m) : Below a.heap.size a c :=
  ⟨h.os.trans hb.os, h.tape.trans hb.tape, h.output.trans hb.output, Nat.le_trans hb.size h.size, fun k hk => (h.block k (Nat.lt_of_lt_of_le hk hb.size) (by omega)).trans (hb.block k hk)⟩
theorem SV.kept {w w' : World} {v : Value} {S : List Spot} (h : SV w v S) (k : ∀ g t, TB w g t → w'.heap[g]? = w.heap[g]?) : SV w' v S := by
  rcases h with h | ⟨b, o, cap, rfl, hcap, hb, hcl⟩
  · exact .inl h
  · have e := k b 313 hb
    exact .inr ⟨b, o, cap, rfl, hcap, hb.same e, fun j u hj => (cell_same e _).trans (hcl j u hj)⟩
theorem HV.kept {w w' : World} {v : Value} {Hs : List Hk} (h : HV w v Hs) (k : ∀ g t, TB w g t → w'.heap[g]? = w.heap[g]?) : HV w' v Hs := by
  obtain ⟨ao, cap, rfl, hc⟩ := h
  refine ⟨ao, cap, rfl, fun j r hj => ?_⟩
  obtain ⟨b, o, e, h1, h2, h3, h4, h5⟩ := hc j r hj
  have s := k b 327 h1
  exact ⟨b, o, e, h1.same s, (cell_same s _).trans h2, (cell_same s _).trans h3, h4.kept k, h5.kept k⟩
theorem CV.kept {w w' : World} {v : Value} {Cs : List (ByteArray × ChM)} (h : CV w v Cs) (k : ∀ g t, TB w g t → w'.heap[g]? = w.heap[g]?) : CV w' v Cs := by
  obtain ⟨ao, cap, rfl, hc⟩ := h
  refine ⟨ao, cap, rfl, fun j r hj => ?_⟩
  obtain ⟨b, o, e, h1, h2, h3, h4⟩ := hc j r hj
  have s := k b 226 h1
  refine ⟨b, o, e, h1.same s, (cell_same s _).trans h2, (cell_same s _).trans h3, ?_⟩
  generalize r.2 = c at h4 ⊢
  cases c
  · exact SV.kept h4 k
  · exact SV.kept h4 k
  · exact HV.kept h4 k
theorem TreeAt.map {w : World} {mb n : Nat} {st : ByteArray → PL} (h : TreeAt w mb st n) : ∃ es c, w.heap[mb]? = some (.map es c) := by
  obtain ⟨_, _, _, ⟨es, c, he, _⟩, _⟩ := h
  exact ⟨es, c, he⟩
theorem But.tb {w w' : World} {mb : Nat} (hb : But w w' mb) (hm : ∃ es c, w.heap[mb]? = some (.map es c)) : ∀ g t, TB w g t → w'.heap[g]? = w.heap[g]? := fun g t hg => by
  refine hb.block g hg.lt ?_
  rintro rfl
  obtain ⟨es, c, e1⟩ := hm
  obtain ⟨A, fz, e2⟩ := hg
  rw [e1] at e2
  cases e2
structure AInv (w wr : World) (mb : Nat) (s : ByteArray → PL) (c : Nat) : Prop where
  but : But w wr mb
  lo : w.heap.size + 2 ≤ wr.heap.size
  tb : wr.heap[w.heap.size]? = some (.cells #[.map (some mb)] 121 (0, 0))
  tree : ∃ n, n ≤ c ∧ TreeAt wr mb s n
theorem AInv.below {w wr w' : World} {mb : Nat} {s : ByteArray → PL} {c : Nat} (h : AInv w wr mb s c) (hb : Below wr.heap.size wr w') : AInv w w' mb s c := by
  have h2 := h.lo
  obtain ⟨n, hn, ht⟩ := h.tree
  exact ⟨h.but.below hb, Nat.le_trans h.lo hb.size, (hb.block _ (by omega)).trans h.tb, n, hn, ht.below hb (Nat.le_refl _)⟩
theorem add189_any (i : Pid) (cv : Value) (Cs : List (ByteArray × ChM)) (mb n : Nat) (s : Nat → ByteArray → PL) (w : World) (hcv : CV w cv Cs) (hT : TreeAt w mb (s 0) n)
    (hother : ∀ k c, Cs[k]? = some c → ∀ x, x ≠ c.1 → s (k + 1) x = s k x)
    (hstep : ∀ k c, Cs[k]? = some c → ∀ u l, But w u mb → LatIs l (s k c.1) → SV u l.rv l.S → Calls Tryz.prog (chApply c.2) #[chIn c.2, latV l] u fun e w' => ∃ l', e = .returned (latV l') ∧ LatIs l' (s (k + 1) c.1) ∧ SV w' l'.rv l'.S ∧ Below u.heap.size u w')
    (hnames : ∀ c ∈ Cs, c.1.size ≤ 1000) (_hfew : Cs.length ≤ 1000) (hn : n + Cs.length ≤ 100000) :
    Calls Tryz.prog 189 #[.agg #[.map (some mb)], .agg #[.int .u8 i.a, .int .u8 i.b, .int .u8 i.c, .int .u8 i.d, cv]] w fun e w' => e = .returned (.tuple #[]) ∧ (∃ m, m ≤ n + Cs.length ∧ TreeAt w' mb (s Cs.length) m) ∧ But w w' mb := by
  have HCV := hid hcv
  have HM := hid hT.map
  have hmb := hT.lt
  obtain ⟨ca, cc, rfl, _⟩ := hcv
  have HO := hid hother
  have HS := hid hstep
  have HN := hid hnames
  obtain ⟨w2, hw2⟩ : ∃ w2, w2 = (w.alloc (.cells #[.map (some mb)] 121)).alloc (.cells #[.int .u8 i.a, .int .u8 i.b, .int .u8 i.c, .int .u8 i.d, .slice ca Cs.length cc] 149) := ⟨_, rfl⟩
  obtain ⟨hb2, hs2, hA2⟩ := two_blocks w _ _ hw2
  have hP2 : w2.heap[w.heap.size + 1]? = some (.cells #[.int .u8 i.a, .int .u8 i.b, .int .u8 i.c, .int .u8 i.d, .slice ca Cs.length cc] 149 (0, 0)) := by
    rw [hw2]
    have s1 : (w.alloc (.cells #[.map (some mb)] 121)).heap.size = w.heap.size + 1 := by simp
    have := (MapKept.heap_alloc (w.alloc (.cells #[.map (some mb)] 121)) (.cells #[.int .u8 i.a, .int .u8 i.b, .int .u8 i.c, .int .u8 i.d, .slice ca Cs.length cc] 149)).1
    rwa [s1] at this
  have c4 : w2.cell? ⟨w.heap.size + 1, 4, none⟩ = some (.slice ca Cs.length cc) := by simp [World.cell?, hP2]
  have HI : Hid (AInv w w2 mb (s 0) n) := (⟨But.of_below mb hb2, by omega, hA2, n, Nat.le_refl _, hT.below hb2 (Nat.le_refl _)⟩ : AInv w w2 mb (s 0) n)
  clear hother hstep hnames hT hA2 hP2 hs2 hb2
  go_enter Tryz.func189, Tryz.ntmps189
  go_wp2
  rw [← hw2]
  clear hw2
  go_wp2
  clear c4
  go_loopw [9] (fun x wr => ∃ k : Nat, k ≤ Cs.length ∧ x = .int .i64 k ∧ Hid (AInv w wr mb (s k) (n + k))) (fun x _ => Cs.length - (intOf x).toNat)
  case atStart => exact ⟨0, Nat.zero_le _, rfl, HI⟩
  case round =>
    clear HI
    obtain ⟨k, hkl, rfl, HI⟩ := hrel
    by_cases hlt2 : k < Cs.length
    · obtain ⟨c, hck⟩ : ∃ c, Cs[k]? = some c := ⟨_, List.getElem?_eq_getElem hlt2⟩
      obtain ⟨_, _, e2, hcc⟩ := HCV.out.kept (HI.out.but.tb HM.out)
      cases e2
      obtain ⟨b2, o2, rfl, hb2, d0, d1, _⟩ := hcc k c hck
      have hnk := HN.out c (List.mem_of_getElem? hck)
      have HOk := HO.out k c hck
      have HST := HS.out k c hck
      have hlo := HI.out.lo
      obtain ⟨m, hm, ht⟩ := HI.out.tree
      obtain ⟨nm, ch⟩ := c
      simp only at d0 d1 hnk HOk HST
      obtain ⟨w5, hw5⟩ : ∃ w5, w5 = wr.alloc (.cells #[.string nm, chV ch] 226) := ⟨_, rfl⟩
      have hb5 : Below wr.heap.size wr w5 := by rw [hw5]; exact (Below.refl _ _).alloc (Nat.le_refl _) _
      have hk5 : w5.heap[wr.heap.size]? = some (.cells #[.string nm, chV ch] 226 (0, 0)) := by rw [hw5]; exact (MapKept.heap_alloc wr _).1
      have hs5 : wr.heap.size < w5.heap.size := by rw [hw5]; simp
      have hI5 := HI.out.below hb5
      have ht5 : TreeAt w5.drew mb (s k) m := (ht.below hb5 (Nat.le_refl _)).below ((Below.refl _ _).drew) (Nat.le_refl _)
      obtain ⟨l, hlk, hl1, hl2⟩ := ht5.look nm (by omega)
      have tb5 : w5.cell? ⟨w.heap.size, 0, none⟩ = some (.map (some mb)) := by have := hI5.tb; simp [World.cell?, this]
      obtain ⟨l0, l1⟩ := cells2_of hk5
      have HA : Hid (Calls Tryz.prog (chApply ch) #[chIn ch, latV l] w5.drew fun e w6 => ∃ l' w7, e = .returned (latV l') ∧ (Instr.mapUpdate 119 (.map (some mb)) (.string nm) (latV l')).run Tryz.prog w6 = .ok () w7 ∧ (w6.cell? ⟨w.heap.size, 0, none⟩ = some (.map (some mb)) ∧ w6.cell? ⟨wr.heap.size, 0, none⟩ = some (.string nm) ∧ w6.cell? ⟨wr.heap.size, 1, none⟩ = some (chV ch)) ∧ (w7.cell? ⟨w.heap.size, 0, none⟩ = some (.map (some mb)) ∧ w7.cell? ⟨wr.heap.size, 0, none⟩ = some (.string nm) ∧ w7.cell? ⟨wr.heap.size, 1, none⟩ = some (chV ch)) ∧ AInv w w7 mb (s (k + 1)) (n + (k + 1))) := by
        refine (HST w5.drew l hI5.but.drew hl1 hl2).mono ?_
        rintro e w6 ⟨l', rfl, hl3, hl4, hb6⟩
        have hb6' : Below w5.heap.size w5 w6 := (Below.refl _ w5).drew.trans hb6
        have hI6 := hI5.below hb6'
        have ht6 : TreeAt w6 mb (s k) m := ht5.below hb6 (Nat.le_refl _)
        obtain ⟨w7, hup, ht7, hg7⟩ := ht6.put (st' := s (k + 1)) (by omega) nm l' (by omega) hl3 hl4 HOk
        have hk6 := (hb6'.block wr.heap.size hs5).trans hk5
        have hs6 := hb6'.size
        have hk7 := (hg7.block wr.heap.size (by omega) (by simp; omega)).trans hk6
        have tb7 := (hg7.block w.heap.size (by omega) (by simp; omega)).trans hI6.tb
        refine ⟨l', w7, rfl, hup, ⟨?_, (cells2_of hk6).1, (cells2_of hk6).2⟩, ⟨?_, (cells2_of hk7).1, (cells2_of hk7).2⟩, ⟨?_, ?_, tb7, m + 1, by omega, ht7⟩⟩
        · have := hI6.tb; simp [World.cell?, this]
        · simp [World.cell?, tb7]
        · exact ⟨hg7.os.trans hI6.but.os, hg7.tape.trans hI6.but.tape, hg7.output.trans hI6.but.output, Nat.le_trans hI6.but.size hg7.size, fun j hj hne => (hg7.block j (Nat.lt_of_lt_of_le hj hI6.but.size) (by simp; omega)).trans (hI6.but.block j hj hne)⟩
        · have := hg7.size; omega
      have me1 := meth_apply236
      have me2 := meth_apply238
      have me3 := meth_apply242
      obtain ⟨lc, hlc⟩ : ∃ lc, latV l = lc := ⟨_, rfl⟩
      rw [hlc] at hlk HA
      clear HST HOk hI5 ht5 ht hk5 hcc hck hl1 hl2 hlc
      rcases ch with ⟨ci, cl, crv, cS⟩ | ⟨ci, crv, cS⟩ | ⟨ci, crv, cH⟩
      · simp only [chV, chIn, chT, chApply] at d0 d1 l0 l1 HA hw5
        go_wp2_with fail
        rw [← hw5]
        clear hw5 d0 d1
        go_region_held3 (fun w' => w'.cell? ⟨w.heap.size, 0, none⟩ = some (.map (some mb)) ∧ w'.cell? ⟨wr.heap.size, 0, none⟩ = some (.string nm) ∧ w'.cell? ⟨wr.heap.size, 1, none⟩ = some (.iface 282 (.agg #[.int .u8 ci.a, .int .u8 ci.b, .int .u8 ci.c, .int .u8 ci.d, .int .u8 cl.a, .int .u8 cl.b, .int .u8 cl.c, .int .u8 cl.d, crv])))
          (first | exact KP2.out | exact KP1.out | exact ⟨tb5, l0, l1⟩ | go_keep)
          (first
            | (go_at_call 332; refine HA.out.mono ?_; rintro e w6 ⟨l', w7, rfl, hup, hS6, hS7, hG7⟩; have KP1 : Hid (w6.cell? ⟨w.heap.size, 0, none⟩ = some (.map (some mb)) ∧ w6.cell? ⟨wr.heap.size, 0, none⟩ = some (.string nm) ∧ w6.cell? ⟨wr.heap.size, 1, none⟩ = some (.iface 282 (.agg #[.int .u8 ci.a, .int .u8 ci.b, .int .u8 ci.c, .int .u8 ci.d, .int .u8 cl.a, .int .u8 cl.b, .int .u8 cl.c, .int .u8 cl.d, crv]))) := hS6; have KP2 : Hid (w7.cell? ⟨w.heap.size, 0, none⟩ = some (.map (some mb)) ∧ w7.cell? ⟨wr.heap.size, 0, none⟩ = some (.string nm) ∧ w7.cell? ⟨wr.heap.size, 1, none⟩ = some (.iface 282 (.agg #[.int .u8 ci.a, .int .u8 ci.b, .int .u8 ci.c, .int .u8 ci.d, .int .u8 cl.a, .int .u8 cl.b, .int .u8 cl.c, .int .u8 cl.d, crv]))) := hS7; have HG7 : Hid (AInv w w7 mb (s (k + 1)) (n + (k + 1))) := hG7; clear hS6 hS7 hG7))
        clear KP1 KP2 hup hlk tb5 l0 l1 me1 me2 me3 HA
        go_wp2
        go_roundw
        case rel => exact ⟨k + 1, by omega, by go_num, HG7⟩
        case measure => simp [intOf]; omega
      · simp only [chV, chIn, chT, chApply] at d0 d1 l0 l1 HA hw5
        go_wp2_with fail
        rw [← hw5]
        clear hw5 d0 d1
        go_region_held3 (fun w' => w'.cell? ⟨w.heap.size, 0, none⟩ = some (.map (some mb)) ∧ w'.cell? ⟨wr.heap.size, 0, none⟩ = some (.string nm) ∧ w'.cell? ⟨wr.heap.size, 1, none⟩ = some (.iface 284 (.agg #[.int .u8 ci.a, .int .u8 ci.b, .int .u8 ci.c, .int .u8 ci.d, crv])))
          (first | exact KP2.out | exact KP1.out | exact ⟨tb5, l0, l1⟩ | go_keep)
          (first
            | (go_at_call 340; refine HA.out.mono ?_; rintro e w6 ⟨l', w7, rfl, hup, hS6, hS7, hG7⟩; have KP1 : Hid (w6.cell? ⟨w.heap.size, 0, none⟩ = some (.map (some mb)) ∧ w6.cell? ⟨wr.heap.size, 0, none⟩ = some (.string nm) ∧ w6.cell? ⟨wr.heap.size, 1, none⟩ = some (.iface 284 (.agg #[.int .u8 ci.a, .int .u8 ci.b, .int .u8 ci.c, .int .u8 ci.d, crv]))) := hS6; have KP2 : Hid (w7.cell? ⟨w.heap.size, 0, none⟩ = some (.map (some mb)) ∧ w7.cell? ⟨wr.heap.size, 0, none⟩ = some (.string nm) ∧ w7.cell? ⟨wr.heap.size, 1, none⟩ = some (.iface 284 (.agg #[.int .u8 ci.a, .int .u8 ci.b, .int .u8 ci.c, .int .u8 ci.d, crv]))) := hS7; have HG7 : Hid (AInv w w7 mb (s (k + 1)) (n + (k + 1))) := hG7; clear hS6 hS7 hG7))
        clear KP1 KP2 hup hlk tb5 l0 l1 me1 me2 me3 HA
        go_wp2
        go_roundw
        case rel => exact ⟨k + 1, by omega, by go_num, HG7⟩
        case measure => simp [intOf]; omega
      · simp only [chV, chIn, chT, chApply] at d0 d1 l0 l1 HA hw5
        go_wp2_with fail
        rw [← hw5]
        clear hw5 d0 d1
        go_region_held3 (fun w' => w'.cell? ⟨w.heap.size, 0, none⟩ = some (.map (some mb)) ∧ w'.cell? ⟨wr.heap.size, 0, none⟩ = some (.string nm) ∧ w'.cell? ⟨wr.heap.size, 1, none⟩ = some (.iface 288 (.agg #[.int .u8 ci.a, .int .u8 ci.b, .int .u8 ci.c, .int .u8 ci.d, crv])))
          (first | exact KP2.out | exact KP1.out | exact ⟨tb5, l0, l1⟩ | go_keep)
          (first
            | (go_at_call 350; refine HA.out.mono ?_; rintro e w6 ⟨l', w7, rfl, hup, hS6, hS7, hG7⟩; have KP1 : Hid (w6.cell? ⟨w.heap.size, 0, none⟩ = some (.map (some mb)) ∧ w6.cell? ⟨wr.heap.size, 0, none⟩ = some (.string nm) ∧ w6.cell? ⟨wr.heap.size, 1, none⟩ = some (.iface 288 (.agg #[.int .u8 ci.a, .int .u8 ci.b, .int .u8 ci.c, .int .u8 ci.d, crv]))) := hS6; have KP2 : Hid (w7.cell? ⟨w.heap.size, 0, none⟩ = some (.map (some mb)) ∧ w7.cell? ⟨wr.heap.size, 0, none⟩ = some (.string nm) ∧ w7.cell? ⟨wr.heap.size, 1, none⟩ = some (.iface 288 (.agg #[.int .u8 ci.a, .int .u8 ci.b, .int .u8 ci.c, .int .u8 ci.d, crv]))) := hS7; have HG7 : Hid (AInv w w7 mb (s (k + 1)) (n + (k + 1))) := hG7; clear hS6 hS7 hG7))
        clear KP1 KP2 hup hlk tb5 l0 l1 me1 me2 me3 HA
        go_wp2
        go_roundw
        case rel => exact ⟨k + 1, by omega, by go_num, HG7⟩
        case measure => simp [intOf]; omega
    · obtain rfl : k = Cs.length := by omega
      go_wp2
      refine bodyPost_end (results_none rfl _ _ _) rfl ?_
      exact ⟨rfl, HI.out.tree, HI.out.but⟩
theorem grow95_cnt (Ps : List PM) (pv : Value) (st : Nat → Nat → ByteArray → PL) (cnt : Nat → Nat) (w : World) (hp : PV w pv Ps) (hg : Grows w Ps st cnt) (hPs : Ps.length ≤ 10000) :
    Calls Tryz.prog 123 #[pv] w fun e w' => ∃ mb n, e = .returned (.agg #[.map (some mb)]) ∧ TreeAt w' mb (st Ps.length 0) n ∧ n ≤ cnt Ps.length ∧ w.heap.size ≤ mb ∧ Below w.heap.size w w' := by
  have HPV := hid hp
  obtain ⟨pa, pc, rfl, hpp⟩ := hp
  clear hpp
  have HG := hid hg
  obtain ⟨w3, hw3⟩ : ∃ w3, w3 = ((w.alloc (.cells #[.map none] 121)).alloc (.map #[] 0)).alloc (.cells #[.map (some (w.heap.size + 1))] 121) := ⟨_, rfl⟩
  obtain ⟨hb3, hs3, hR3, hMM, hT3⟩ := three_blocks' w _ _ _ hw3
  have hI : GInv w w3 (st 0 0) (cnt 0) := by
    refine ⟨hb3, by omega, hT3, hR3, 0, Nat.zero_le _, ?_⟩
    rw [hg.start]
    have h0 := TreeAt.made (w.alloc (.cells #[.map none] 121))
    have s1 : (w.alloc (.cells #[.map none] 121)).heap.size = w.heap.size + 1 := by simp
    rw [s1] at h0
    rw [hw3]
    exact h0.below ((Below.refl _ _).alloc (Nat.le_refl _) _) (Nat.le_refl _)
  have HI := hid hI
  clear hg hI hb3 hR3 hMM hT3 hs3
  have hmm : ∀ w, (Instr.makeMap 119 none).run Tryz.prog w = .ok (.map (some w.heap.size)) (w.alloc (.map #[] 0)) := fun _ => by kernel_rfl
  go_enter Tryz.func123, Tryz.ntmps123
  go_wp2
  rw [← hw3]
  clear hw3
  go_loopw [10] (fun x wr => ∃ p : Nat, p ≤ Ps.length ∧ x = .int .i64 p ∧ Hid (GInv w wr (st p 0) (cnt p))) (fun x _ => Ps.length - (intOf x).toNat)
  case atStart => exact ⟨0, Nat.zero_le _, rfl, HI⟩
  case round =>
    clear HI
    obtain ⟨p, hpl, rfl, HI⟩ := hrel
    by_cases hlt : p < Ps.length
    · obtain ⟨P, hP⟩ : ∃ P, Ps[p]? = some P := ⟨_, List.getElem?_eq_getElem hlt⟩
      obtain ⟨_, _, e1, hc1⟩ := HPV.out.below HI.out.bel (Nat.le_refl _)
      cases e1
      obtain ⟨b, o, rfl, hb, c0, c1, c2, c3, c4, hcv⟩ := hc1 p P hP
      have HP := hid hP
      have hfew := HG.out.few P (List.mem_of_getElem? hP)
      obtain ⟨ca, cc, hce, _⟩ := hcv
      rw [hce] at c4
      have HCE := hid hce
      obtain ⟨w4, hw4⟩ : ∃ w4, w4 = wr.alloc (.cells #[.int .u8 P.id.a, .int .u8 P.id.b, .int .u8 P.id.c, .int .u8 P.id.d, .slice ca P.Cs.length cc] 149) := ⟨_, rfl⟩
      have hb4 : Below wr.heap.size wr w4 := by rw [hw4]; exact (Below.refl _ _).alloc (Nat.le_refl _) _
      have hk4 : w4.heap[wr.heap.size]? = some (.cells #[.int .u8 P.id.a, .int .u8 P.id.b, .int .u8 P.id.c, .int .u8 P.id.d, .slice ca P.Cs.length cc] 149 (0, 0)) := by rw [hw4]; exact (MapKept.heap_alloc wr _).1
      have HI4 := HI.out.below hb4
      obtain ⟨x0, x1, x2, x3, x4⟩ := cells5_of hk4
      have tb4 : w4.cell? ⟨w.heap.size + 1 + 1, 0, none⟩ = some (.map (some (w.heap.size + 1))) := by have := HI4.tb; simp [World.cell?, this]
      have hcv4 : CV w4 (.slice ca P.Cs.length cc) P.Cs := by
        obtain ⟨_, _, e1, hc1⟩ := HPV.out.below HI4.bel (Nat.le_refl _)
        obtain ⟨b', o', hbo, _, _, _, _, _, _, hcv⟩ := hc1 p P HP.out
        rw [HCE.out] at hcv
        exact hcv
      have hsm := HG.out.small (p + 1)
      rw [HG.out.count p P HP.out] at hsm
      obtain ⟨n4, hn4, ht4⟩ := HI4.tree
      have HA : Hid (Calls Tryz.prog 189 #[.agg #[.map (some (w.heap.size + 1))], .agg #[.int .u8 P.id.a, .int .u8 P.id.b, .int .u8 P.id.c, .int .u8 P.id.d, .slice ca P.Cs.length cc]] w4 fun e w' => e = .returned (.tuple #[]) ∧ GInv w w' (st (p + 1) 0) (cnt (p + 1))) := by
        refine (add189_any P.id (.slice ca P.Cs.length cc) P.Cs (w.heap.size + 1) n4 (st p) w4 hcv4 ht4 (fun k c hk => HG.out.other p P k c HP.out hk) (fun k c hk u l hu h1 h2 => HG.out.step p P k c HP.out hk u l (hu.base HI4.bel (by omega)) h1 h2) (HG.out.names P (List.mem_of_getElem? HP.out)) hfew (by omega)).mono ?_
        rintro e w' ⟨rfl, ⟨m, hm, ht⟩, hbt⟩
        have hlo := HI4.lo
        refine ⟨rfl, hbt.base HI4.bel (by omega), Nat.le_trans hlo hbt.size, (hbt.block _ (by omega) (by omega)).trans HI4.tb, (hbt.block _ (by omega) (by omega)).trans HI4.rb, m, ?_, ?_⟩
        · rw [HG.out.count p P HP.out]; omega
        · rw [HG.out.next p P HP.out]; exact ht
      clear hc1 hP hce HI hb4 hk4 hcv4 ht4 HI4
      subst hw4
      go_wp2_with fail
      refine HA.out.mono ?_
      rintro e w5 ⟨rfl, hG5⟩
      have HG5 := hid hG5
      clear hG5 HA x0 x1 x2 x3 x4 tb4 c0 c1 c2 c3 c4
      go_wp2
      go_roundw
      case rel => exact ⟨p + 1, by omega, by go_num, HG5⟩
      case measure => simp [intOf]; omega
    · obtain rfl : p = Ps.length := by omega
      obtain ⟨n, hn, ht⟩ := HI.out.tree
      have hlo := HI.out.lo
      have tb0 : wr.cell? ⟨w.heap.size + 1 + 1, 0, none⟩ = some (.map (some (w.heap.size + 1))) := by have := HI.out.tb; simp [World.cell?, this]
      have rb0 : wr.cell? ⟨w.heap.size, 0, none⟩ = some (.map none) := by have := HI.out.rb; simp [World.cell?, this]
      have rf0 : wr.frozen? ⟨w.heap.size, 0, none⟩ = false := free3 HI.out.rb 0
      obtain ⟨w9, hw9⟩ : ∃ w9, w9 = wr.setCell ⟨w.heap.size, 0, none⟩ (.map (some (w.heap.size + 1))) := ⟨_, rfl⟩
      have s1 := heap_setCell_same wr w.heap.size 0 _ 121 (.map (some (w.heap.size + 1))) HI.out.rb
      have s2 := Over.set wr w.heap.size 0 (.map (some (w.heap.size + 1)))
      rw [← hw9] at s1 s2
      have hb9 : Below w.heap.size w w9 := ⟨s2.os.trans HI.out.bel.os, s2.tape.trans HI.out.bel.tape, s2.output.trans HI.out.bel.output, by rw [s2.size]; exact HI.out.bel.size, fun k hk => (s2.block k (by omega)).trans (HI.out.bel.block k hk)⟩
      have ht9 : TreeAt w9 (w.heap.size + 1) (st Ps.length 0) n := by
        obtain ⟨f, has, D, ⟨es, clock, he, hr⟩, h2, h3, h4, h5, h6⟩ := ht
        refine ⟨f, has, D, ⟨es, clock, (s2.block _ (by omega)).trans he, hr⟩, h2, h3, h4, h5, fun x => (h6 x).far HI.out.rb (by simp) (by rw [s2.size]; exact Nat.le_refl _) (fun k _ hk => s2.block k hk)⟩
      have HT9 := hid ht9
      clear ht9 ht HI s2
      go_wp2
      rw [← hw9]
      clear hw9
      refine bodyPost_ret (results_cell_row (p := 2) (ty := 121) (by kernel_rfl) _ _ w.heap.size 121 _ (0, 0) _ rfl s1 Tryz.underlying121 rfl (by kernel_rfl)) rfl ?_
      exact ⟨w.heap.size + 1, n, rfl, HT9.out, hn, by omega, hb9⟩
theorem grow95_any (Ps : List PM) (pv : Value) (st : Nat → Nat → ByteArray → PL) (cnt : Nat → Nat) (w : World) (hp : PV w pv Ps) (hg : Grows w Ps st cnt) (hPs : Ps.length ≤ 10000) :
    Calls Tryz.prog 123 #[pv] w fun e w' => ∃ mb n, e = .returned (.agg #[.map (some mb)]) ∧ TreeAt w' mb (st Ps.length 0) n ∧ n ≤ 100000 ∧ w.heap.size ≤ mb ∧ Below w.heap.size w w' :=
  (grow95_cnt Ps pv st cnt w hp hg hPs).mono fun _ _ ⟨mb, n, h1, h2, h3, h4⟩ => ⟨mb, n, h1, h2, Nat.le_trans h3 (hg.small _), h4⟩
end Go.Proofs.YtgdfipmdmgkidaaGreatDoor
