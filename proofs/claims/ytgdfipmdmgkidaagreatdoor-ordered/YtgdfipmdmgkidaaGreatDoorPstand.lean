/- Patches that stand one behind the other: what they make, and how one is told. -/
import Derived.Test.YtgdfipmdmgkidaaGreatDoorPheld
import Derived.Test.YtgdfipmdmgkidaaGreatDoorPgiven
import Derived.Test.YtgdfipmdmgkidaaGreatDoorPmrow
namespace Go.Proofs.YtgdfipmdmgkidaaGreatDoor
open Go.RowKit

/-- What a change makes of a file. -/
def ApplyP (c : ChM) (p p' : PL) : Prop := match c with
  | .add i _ _ S => p' = ⟨i, true, S⟩
  | .remove i _ S => p' = ⟨i, false, deadRow S⟩ ∧ S.length ≤ 100000
  | .alter i _ Hs => ∃ g : Nat → List Spot, g 0 = framed p.S ∧ Steps g Hs ∧ p' = ⟨i, true, midRow (g Hs.length)⟩ ∧ p.S.length ≤ 100000 ∧ Hs.length ≤ 100000
theorem apply_any {c : ChM} {p p' : PL} (h : ApplyP c p p') {u : World} {l : Lat} (hc : ChOK u c) (hl : LatIs l p) (hs : SV u l.rv l.S) :
    Calls Tryz.prog (chApply c) #[chIn c, latV l] u fun e w' => ∃ l', e = .returned (latV l') ∧ LatIs l' p' ∧ SV w' l'.rv l'.S ∧ Below u.heap.size u w' := by
  obtain ⟨l1, l2, l3⟩ := hl
  obtain ⟨xa, xc, hx⟩ := hs.shape
  cases c with
  | add i l rv S =>
    refine (add238_any i l S rv _ _ _ xa _ xc hx u hc).mono ?_
    rintro e w' ⟨rfl, hb⟩
    rw [h]
    exact ⟨⟨i, true, rv, S⟩, rfl, ⟨rfl, rfl, rfl⟩, SV.below hc hb (Nat.le_refl _), hb⟩
  | remove i rv S =>
    refine (remove340_any i S rv _ _ _ xa _ xc hx u hc h.2).mono ?_
    rintro e w' ⟨v, rfl, hv', hb⟩
    rw [h.1]
    exact ⟨⟨i, false, v, deadRow S⟩, rfl, ⟨rfl, rfl, rfl⟩, hv', hb⟩
  | alter i hv Hs =>
    obtain ⟨g, g0, g1, g2, g3, g4⟩ := h
    rw [← l3] at g0 g3
    refine (alter245_any i Hs g _ g0 g1 hv _ _ _ u hc hs g3 g4).mono ?_
    rintro e w' ⟨v, rfl, hv', hb⟩
    rw [g2]
    exact ⟨⟨i, true, v, _⟩, rfl, ⟨rfl, rfl, rfl⟩, hv', hb⟩

/-- How a change is told. -/
def TellsP (c : ChM) (name : ByteArray) (p : PL) (t : ByteArray) : Prop := match c with
  | .add _ _ _ S => Small S ∧ t = addHead name ++ tellB ⟨#[43]⟩ S
  | .remove _ _ S => Small S ∧ t = removeHead name ++ tellB ⟨#[45]⟩ S
  | .alter _ _ Hs => ∃ g : Nat → ByteArray, g 0 = alterHead name ∧ Tells (framed p.S) Hs g ∧ t = g Hs.length ∧ p.S.length ≤ 90000 ∧ Hs.length ≤ 100000
theorem tell_any {c : ChM} {name : ByteArray} {p : PL} {t : ByteArray} (h : TellsP c name p t) (hn : name.size ≤ 1000) {u : World} {l : Lat} (hc : ChOK u c) (hl : LatIs l p) (hs : SV u l.rv l.S) :
    Calls Tryz.prog (chTell c) #[chIn c, .string name, latV l] u fun e w' => e = .returned (.string t) ∧ Below u.heap.size u w' := by
  obtain ⟨l1, l2, l3⟩ := hl
  obtain ⟨xa, xc, hx⟩ := hs.shape
  cases c with
  | add i l rv S =>
    rw [h.2]
    exact addtell239_any i l S rv name hn _ _ _ xa _ xc hx u hc h.1
  | remove i rv S =>
    rw [h.2]
    exact remtell344_any i S rv name hn _ _ _ xa _ xc hx u hc h.1
  | alter i hv Hs =>
    obtain ⟨g, g0, g1, g2, g3, g4⟩ := h
    rw [← l3] at g1 g3
    rw [g2]
    exact altell246_any i Hs g _ name hn g0 g1 hv _ _ _ u hc hs g3 g4

/-- Patches that stand one behind the other. -/
structure Stands (Ps : List PM) (st : Nat → Nat → ByteArray → PL) (cnt : Nat → Nat) : Prop where
  start : st 0 0 = fun _ => pl0
  next : ∀ p P, Ps[p]? = some P → st (p + 1) 0 = st p P.Cs.length
  other : ∀ p P k c, Ps[p]? = some P → P.Cs[k]? = some c → ∀ x, x ≠ c.1 → st p (k + 1) x = st p k x
  app : ∀ p P k c, Ps[p]? = some P → P.Cs[k]? = some c → ApplyP c.2 (st p k c.1) (st p (k + 1) c.1)
  names : ∀ P ∈ Ps, ∀ c ∈ P.Cs, c.1.size ≤ 1000
  few : ∀ P ∈ Ps, P.Cs.length ≤ 1000
  count : ∀ p P, Ps[p]? = some P → cnt (p + 1) = cnt p + P.Cs.length
  small : ∀ p, cnt p ≤ 100000
theorem Stands.grows {Ps : List PM} {st : Nat → Nat → ByteArray → PL} {cnt : Nat → Nat} (h : Stands Ps st cnt) {w : World} {pv : Value} (hp : PV w pv Ps) : Grows w Ps st cnt := by
  refine ⟨h.start, h.next, h.other, fun p P k c hP hc u l hu hl hs => ?_, h.names, h.few, h.count, h.small⟩
  obtain ⟨ao, cap, rfl, hcc⟩ := hp.below hu (Nat.le_refl _)
  obtain ⟨b, o, _, _, _, _, _, _, _, hcv⟩ := hcc p P hP
  obtain ⟨_, _, _, hch⟩ := hcv
  obtain ⟨_, _, _, _, _, _, hok⟩ := hch k c hc
  exact apply_any (h.app p P k c hP hc) hok hl hs
theorem kept_any {Ps : List PM} {st : Nat → Nat → ByteArray → PL} {cnt : Nat → Nat} (h : Stands Ps st cnt) {w : World} {pv : Value} (hp : PV w pv Ps) (hPs : Ps.length ≤ 10000) {rb ro : Nat} (hr : w.cell? ⟨rb, ro, none⟩ = some pv) (hrb : rb < w.heap.size) :
    Calls Tryz.prog 77 #[.pointer (some ⟨rb, ro, none⟩)] w fun e w' => ∃ mb n, e = .returned (.agg #[.map (some mb)]) ∧ TreeAt w' mb (st Ps.length 0) n ∧ n ≤ 100000 ∧ w.heap.size ≤ mb ∧ Below w.heap.size w w' :=
  kept54_any Ps pv st cnt rb ro w hp (fun _u hu => h.grows (hp.below hu (Nat.le_refl _))) hPs hr hrb

/-- What is told of the first changes. -/
def toldTo (t : Nat → ByteArray) : Nat → List UInt8
  | 0 => []
  | k + 1 => toldTo t k ++ (t k).data.toList
theorem toldTo_len (t : Nat → ByteArray) (m : Nat) (h : ∀ k, (t k).size ≤ m) : ∀ k, (toldTo t k).length ≤ k * m
  | 0 => by simp [toldTo]
  | k + 1 => by
    have := toldTo_len t m h k
    have h1 := h k
    have e : (t k).data.toList.length = (t k).size := rfl
    simp only [toldTo, List.length_append, e]
    rw [Nat.add_mul]
    omega
theorem told_any (i : Pid) {Cs : List (ByteArray × ChM)} {cv : Value} {mb n : Nat} {st : ByteArray → PL} {w : World} (hc : CV w cv Cs) (hT : TreeAt w mb st n) (hn : n ≤ 1000000) (hCs : Cs.length ≤ 100) (hnm : ∀ c ∈ Cs, c.1.size ≤ 1000) (t : Nat → ByteArray)
    (ht : ∀ k c, Cs[k]? = some c → TellsP c.2 c.1 (st c.1) (t k)) (hts : ∀ k, (t k).size ≤ 1000000) :
    Calls Tryz.prog 113 #[.agg #[.int .u8 i.a, .int .u8 i.b, .int .u8 i.c, .int .u8 i.d, cv], .agg #[.map (some mb)]] w fun e w' => e = .returned (.string ⟨(toldTo t Cs.length).toArray⟩) ∧ Below w.heap.size w w' := by
  obtain ⟨f, has, hk, hl, hs⟩ := hT.kat hn
  refine ptell90_any i Cs cv mb f has t (toldTo t) w hc hk (by omega) hnm (fun k c hkc u hu => ?_) rfl (fun k _ => rfl) (fun k hk => ?_) (fun k => by have := hts k; omega)
  · obtain ⟨_, _, _, hch⟩ := hc.below hu (Nat.le_refl _)
    obtain ⟨_, _, _, _, _, _, hok⟩ := hch k c hkc
    exact tell_any (ht k c hkc) (hnm c (List.mem_of_getElem? hkc)) hok (hl c.1) ((hs c.1).below hu (Nat.le_refl _))
  · have := toldTo_len t 1000000 hts k
    have : k * 1000000 ≤ 100 * 1000000 := Nat.mul_le_mul_right _ (by omega)
    omega
end Go.Proofs.YtgdfipmdmgkidaaGreatDoor

/- A world of one repository in memory. -/
namespace Go.Proofs.YtgdfipmdmgkidaaGreatDoor
open Go.RowKit

abbrev pmCells (Ps : List PM) : List Value := Ps.flatMap fun P => [.int .u8 P.id.a, .int .u8 P.id.b, .int .u8 P.id.c, .int .u8 P.id.d, P.cv]
theorem pm_flat : ∀ (Ps : List PM) (k : Nat) (r : PM), Ps[k]? = some r → (pmCells Ps)[k * 5]? = some (.int .u8 r.id.a) ∧ (pmCells Ps)[k * 5 + 1]? = some (.int .u8 r.id.b) ∧ (pmCells Ps)[k * 5 + 2]? = some (.int .u8 r.id.c) ∧ (pmCells Ps)[k * 5 + 3]? = some (.int .u8 r.id.d) ∧ (pmCells Ps)[k * 5 + 4]? = some r.cv
  | [], k, r, h => by simp at h
  | x :: Cs, 0, r, h => by simp at h; subst h; simp
  | x :: Cs, k + 1, r, h => by
    have ih := pm_flat Cs k r (by simpa using h)
    have e : (k + 1) * 5 = k * 5 + 5 := by omega
    rw [e]
    simp only [pmCells, List.flatMap_cons, List.cons_append, List.nil_append, List.getElem?_cons_succ]
    exact ih
theorem pm_view {w : World} {B : Nat} {v : Value} {Ps : List PM} (h : w.ownsRow B 149 5 v Ps.length (pmCells Ps)) (hok : ∀ P ∈ Ps, CV w P.cv P.Cs) : PV w v Ps := by
  have hc := fun g => World.ownsRow.cells h (g := g)
  rcases h.2 with ⟨rfl, h0⟩ | ⟨g, cp, cur, rfl, _, hg, hcp, _⟩
  · have : Ps = [] := List.eq_nil_of_length_eq_zero h0
    subst this
    exact ⟨none, 0, rfl, fun k r hk => by simp at hk⟩
  · obtain ⟨add⟩ : Nonempty (∀ j : Nat, ((⟨g, 0, none⟩ : Addr).add j) = ⟨g, 0 + j, none⟩) := ⟨fun j => by cases j <;> simp [Addr.add]⟩
    refine ⟨some ⟨g, 0, none⟩, cp, rfl, fun k r hk => ?_⟩
    obtain ⟨f0, f1, f2, f3, f4⟩ := pm_flat Ps k r hk
    refine ⟨g, 0, rfl, ⟨cur, _, hg⟩, ?_, ?_, ?_, ?_, ?_, hok r (List.mem_of_getElem? hk)⟩
    · have := hc g rfl (k * 5) _ f0; rw [add] at this; exact this
    · have := hc g rfl (k * 5 + 1) _ f1; rw [add] at this; rw [Nat.add_assoc]; exact this
    · have := hc g rfl (k * 5 + 2) _ f2; rw [add] at this; rw [Nat.add_assoc]; exact this
    · have := hc g rfl (k * 5 + 3) _ f3; rw [add] at this; rw [Nat.add_assoc]; exact this
    · have := hc g rfl (k * 5 + 4) _ f4; rw [add] at this; rw [Nat.add_assoc]; exact this

/-- A world of one repository: its blocks lie from B on. -/
structure OneAt (w : World) (B pb rg cap gb : Nat) (pv : Value) (Ps : List PM) (fb fn : Nat) (f : ByteArray → Option ByteArray) (G : List Pid) : Prop where
  lo : B ≤ pb ∧ B ≤ rg ∧ B ≤ gb ∧ B ≤ fb
  wb : w.heap[pb]? = some (.cells #[.slice (some ⟨rg, 0, none⟩) 1 cap, .map (some gb)] 83 (0, 0))
  row : ∃ A : Array Value, w.heap[rg]? = some (.cells A 87 (0, 0)) ∧ A[0]? = some pv ∧ A[1]? = some (.map (some fb))
  given : GAt w gb G
  own : w.ownsRow B 149 5 pv Ps.length (pmCells Ps)
  chs : ∀ P ∈ Ps, CV w P.cv P.Cs
  files : FK w fb f fn
  ne : gb ≠ fb
  cap1 : 1 ≤ cap

section
variable {w : World} {B pb rg cap gb : Nat} {pv : Value} {Ps : List PM} {fb fn : Nat} {f : ByteArray → Option ByteArray} {G : List Pid}
theorem OneAt.lts (h : OneAt w B pb rg cap gb pv Ps fb fn f G) : pb < w.heap.size ∧ rg < w.heap.size ∧ gb < w.heap.size ∧ fb < w.heap.size := by
  obtain ⟨A, hA, _⟩ := h.row
  exact ⟨(Array.getElem?_eq_some_iff.1 h.wb).1, (Array.getElem?_eq_some_iff.1 hA).1, h.given.lt, h.files.lt⟩
theorem OneAt.below (h : OneAt w B pb rg cap gb pv Ps fb fn f G) {w' : World} (hb : Below w.heap.size w w') : OneAt w' B pb rg cap gb pv Ps fb fn f G := by
  obtain ⟨l1, l2, l3, l4⟩ := h.lts
  obtain ⟨A, hA, hA2⟩ := h.row
  exact ⟨h.lo, (hb.block _ l1).trans h.wb, ⟨A, (hb.block _ l2).trans hA, hA2⟩, h.given.same (hb.block _ l3), own_below h.own hb (Nat.le_refl _), fun P hP => (h.chs P hP).below hb (Nat.le_refl _), h.files.same (hb.block _ l4), h.ne, h.cap1⟩
theorem OneAt.drew (h : OneAt w B pb rg cap gb pv Ps fb fn f G) : OneAt w.drew B pb rg cap gb pv Ps fb fn f G := h.below (Below.refl _ _).drew
theorem OneAt.view (h : OneAt w B pb rg cap gb pv Ps fb fn f G) : PV w pv Ps := pm_view h.own h.chs
theorem OneAt.c0 (h : OneAt w B pb rg cap gb pv Ps fb fn f G) : w.cell? ⟨pb, 0, none⟩ = some (.slice (some ⟨rg, 0, none⟩) 1 cap) := by simp [World.cell?, h.wb]
theorem OneAt.c1 (h : OneAt w B pb rg cap gb pv Ps fb fn f G) : w.cell? ⟨pb, 1, none⟩ = some (.map (some gb)) := by simp [World.cell?, h.wb]
theorem OneAt.r0 (h : OneAt w B pb rg cap gb pv Ps fb fn f G) : w.cell? ⟨rg, 0, none⟩ = some pv := by
  obtain ⟨A, hA, h0, _⟩ := h.row
  simp [World.cell?, hA, h0]
theorem OneAt.r1 (h : OneAt w B pb rg cap gb pv Ps fb fn f G) : w.cell? ⟨rg, 1, none⟩ = some (.map (some fb)) := by
  obtain ⟨A, hA, _, h1⟩ := h.row
  simp [World.cell?, hA, h1]
theorem FK.map {mb n : Nat} (h : FK w mb f n) : ∃ es c, w.heap[mb]? = some (.map es c) := by
  obtain ⟨D, ⟨es, c, he, _⟩, _⟩ := h
  exact ⟨es, c, he⟩

/-- One of the maps was written. -/
theorem OneAt.map_put (h : OneAt w B pb rg cap gb pv Ps fb fn f G) {w' : World} {m : Nat} (hg : w.grownBy w' (some m)) (hm : ∃ es c, w.heap[m]? = some (.map es c)) {G' : List Pid} {f' : ByteArray → Option ByteArray} {fn' : Nat} (h1 : GAt w' gb G') (h2 : FK w' fb f' fn') : OneAt w' B pb rg cap gb pv Ps fb fn' f' G' := by
  obtain ⟨l1, l2, l3, l4⟩ := h.lts
  obtain ⟨A, hA, hA2⟩ := h.row
  obtain ⟨es, c, hm⟩ := hm
  have ne : ∀ {k : Nat} {cs : Array Value} {t : TypeId} {fz : Nat × Nat}, w.heap[k]? = some (.cells cs t fz) → some k ≠ some m := fun hk e => by
    injection e with e
    subst e
    rw [hm] at hk
    cases hk
  refine ⟨h.lo, (hg.block _ l1 (ne h.wb)).trans h.wb, ⟨A, (hg.block _ l2 (ne hA)).trans hA, hA2⟩, h1, h.own.kept hg (Or.inr ?_), fun P hP => (h.chs P hP).held (HeldT.of_map hg ⟨es, c, hm⟩), h2, h.ne, h.cap1⟩
  rcases h.own.2 with ⟨rfl, _⟩ | ⟨g, cp, cur, rfl, _, hq, _⟩
  · simp [Value.ownBlock]
  · simp only [Value.ownBlock]
    exact ne hq
/-- A patch was laid behind the others, and the list stored. -/
theorem OneAt.push (h : OneAt w B pb rg cap gb pv Ps fb fn f G) {w1 w2 : World} {P : PM} {g c : Nat} (hb1 : Below w.heap.size w w1) (hg : w1.grownBy w2 pv.ownBlock) (hown : w2.ownsRow B 149 5 (.slice (some ⟨g, 0, none⟩) (Ps.length + 1) c) (Ps.length + 1) (pmCells Ps ++ [.int .u8 P.id.a, .int .u8 P.id.b, .int .u8 P.id.c, .int .u8 P.id.d, P.cv])) (hP : CV w1 P.cv P.Cs) :
    OneAt (w2.setCell ⟨rg, 0, none⟩ (.slice (some ⟨g, 0, none⟩) (Ps.length + 1) c)) B pb rg cap gb (.slice (some ⟨g, 0, none⟩) (Ps.length + 1) c) (Ps ++ [P]) fb fn f G ∧ (∀ T : TypeId → Prop, ¬ T 149 → ¬ T 87 → HeldT T w1 (w2.setCell ⟨rg, 0, none⟩ (.slice (some ⟨g, 0, none⟩) (Ps.length + 1) c))) ∧ ∀ k, k < w1.heap.size → k ≠ rg → (∀ q, pv.ownBlock = some q → k ≠ q) → (w2.setCell ⟨rg, 0, none⟩ (.slice (some ⟨g, 0, none⟩) (Ps.length + 1) c)).heap[k]? = w1.heap[k]? := by
  have h1 := h.below hb1
  obtain ⟨l1, l2, l3, l4⟩ := h1.lts
  obtain ⟨A, hA, hA0, hA1⟩ := h1.row
  have tb : ∀ q, pv.ownBlock = some q → TB w1 q 149 := fun q hq => own_TB h1.own hq
  have ne : ∀ {k : Nat} {o : Obj}, w1.heap[k]? = some o → (∀ cs fz, o ≠ .cells cs 149 fz) → ∀ q, pv.ownBlock = some q → k ≠ q := fun hk ho q hq e => by
    subst e
    obtain ⟨cs, fz, hq2⟩ := tb _ hq
    rw [hk] at hq2
    injection hq2 with e
    exact ho cs fz e
  have far : ∀ k, k < w1.heap.size → (∀ q, pv.ownBlock = some q → k ≠ q) → w2.heap[k]? = w1.heap[k]? := fun k hk hq => hg.block k hk (fun e => hq k e.symm rfl)
  have far2 : ∀ k, k < w1.heap.size → k ≠ rg → (∀ q, pv.ownBlock = some q → k ≠ q) → (w2.setCell ⟨rg, 0, none⟩ (.slice (some ⟨g, 0, none⟩) (Ps.length + 1) c)).heap[k]? = w1.heap[k]? := fun k hk hr hq => (Below.heap_setCell _ _ _ _ hr).trans (far k hk hq)
  have hA2 : w2.heap[rg]? = some (.cells A 87 (0, 0)) := (far rg l2 (ne hA (fun cs fz e => by simp at e))).trans hA
  have heldT : ∀ T : TypeId → Prop, ¬ T 149 → ¬ T 87 → HeldT T w1 (w2.setCell ⟨rg, 0, none⟩ (.slice (some ⟨g, 0, none⟩) (Ps.length + 1) c)) := fun T t1 t2 => (HeldT.of_grown hg (fun q hq => ⟨149, tb q hq, t1⟩)).trans (HeldT.set ⟨A, _, hA2⟩ t2 _)
  have held := heldT stuff (by simp [stuff]) (by simp [stuff])
  obtain ⟨es1, c1, m1⟩ := h1.given.map
  obtain ⟨es2, c2, m2⟩ := h1.files.map
  refine ⟨⟨h.lo, (far2 pb l1 (fun e => ?_) (ne h1.wb (fun cs fz e => by simp at e))).trans h1.wb, ⟨_, heap_setCell_same w2 rg 0 A 87 _ hA2, ?_, ?_⟩, h1.given.same (far2 gb l3 (fun e => ?_) (ne m1 (fun cs fz e => by cases e))), ?_, fun Q hQ => ?_, h1.files.same (far2 fb l4 (fun e => ?_) (ne m2 (fun cs fz e => by cases e))), h.ne, h.cap1⟩, heldT, far2⟩
  · have := h1.wb
    rw [e, hA] at this
    simp at this
  · have : 0 < A.size := (Array.getElem?_eq_some_iff.1 hA0).1
    simp [this]
  · rw [Array.getElem?_setIfInBounds_ne (by omega)]
    exact hA1
  · rw [e, hA] at m1
    cases m1
  · have e2 : pmCells (Ps ++ [P]) = pmCells Ps ++ [.int .u8 P.id.a, .int .u8 P.id.b, .int .u8 P.id.c, .int .u8 P.id.d, P.cv] := by simp [pmCells]
    rw [e2, List.length_append, List.length_singleton]
    refine hown.kept (w' := w2.setCell ⟨rg, 0, none⟩ _) (row := some rg) ⟨rfl, rfl, rfl, by simp [World.setCell], fun k _ hne => Below.heap_setCell _ _ _ _ (fun e => hne (by rw [e]))⟩ (Or.inr ?_)
    intro e
    simp only [Value.ownBlock, Option.some.injEq] at e
    obtain ⟨cs, fz, hq⟩ := own_TB hown (g := g) rfl
    rw [e, hA2] at hq
    simp at hq
  · rcases List.mem_append.1 hQ with hQ | hQ
    · exact (h1.chs Q hQ).held held
    · rw [List.mem_singleton] at hQ
      subst hQ
      exact hP.held held
  · rw [e, hA] at m2
    cases m2
end
end Go.Proofs.YtgdfipmdmgkidaaGreatDoor

/- A patch is recorded: of all names, where something differs. -/
namespace Go.Proofs.YtgdfipmdmgkidaaGreatDoor
open Go.RowKit

/-- What is asked of the files and of what is kept, for a patch to be made of them. -/
structure RecOK (f : ByteArray → Option ByteArray) (s : ByteArray → PL) : Prop where
  each : ∀ x, (f x).isSome = true ∨ (s x).alive = true → x.size ≤ 1000 ∧ (s x).S.length ≤ 9000 ∧ (rowText (s x).S).size ≤ 1000000000 ∧ FlOK s (flOf f x)
  few : ∀ K, Srt K → (∀ x, x ∈ K ↔ (f x).isSome = true ∨ (s x).alive = true) → K.length ≤ 50
/-- The names of a patch of all. -/
def AllOf (f : ByteArray → Option ByteArray) (s : ByteArray → PL) (K : List ByteArray) : Prop := Srt K ∧ ∀ x, x ∈ K ↔ (f x).isSome = true ∨ (s x).alive = true
def chgOf (f : ByteArray → Option ByteArray) (s : ByteArray → PL) (K : List ByteArray) : List Fl := (K.filter (differs f s)).map (flOf f)
theorem own_texts {w : World} {B n c : Nat} {xa : Option Addr} {L : List ByteArray} (h : w.ownsRow B 9 1 (.slice xa n c) L.length (strs L)) : TextsAt w.heap.size w (.slice xa n c) L := by
  have hlt := h.lt
  have hc := fun g => World.ownsRow.cells h (g := g)
  rcases h.2 with ⟨h1, h0⟩ | ⟨g, cp, cur, h1, _⟩
  · cases h1
    exact .inl ⟨rfl, List.eq_nil_of_length_eq_zero h0⟩
  · cases h1
    refine .inr ⟨g, 0, c, rfl, (hlt g rfl).2, fun j hj => ?_⟩
    have := hc g rfl j (.string (L.getD j ByteArray.empty)) (by unfold strs; rw [List.getElem?_map, List.getElem?_eq_getElem hj, List.getD_eq_getElem?_getD, List.getElem?_eq_getElem hj]; rfl)
    rw [← this]
    cases j <;> simp [Addr.add]

section
variable {B pb rg cap gb : Nat} {pv : Value} {Ps : List PM} {fb fn : Nat} {f : ByteArray → Option ByteArray} {G : List Pid} {st : Nat → Nat → ByteArray → PL} {cnt : Nat → Nat}

theorem OneAt.allNames {u : World} (h : OneAt u B pb rg cap gb pv Ps fb fn f G) (hfn : fn ≤ 1000) {mb n : Nat} {s : ByteArray → PL} (hT : TreeAt u mb s n) (hn : n ≤ 100000) :
    Calls Tryz.prog 112 #[.pointer (some ⟨rg, 0, none⟩), .agg #[.map (some mb)]] u fun e w' => ∃ va vn vc L, e = .returned (.slice va vn vc) ∧ w'.ownsRow u.heap.size 9 1 (.slice va vn vc) L.length (strs L) ∧ (∀ x, x ∈ L ↔ (f x).isSome = true ∨ (s x).alive = true) ∧ L.length ≤ fn + n ∧ Below u.heap.size u w' := by
  refine (allNames89_any f fb fn rg 0 s mb n u h.files (by omega) h.r1 h.lts.2.1 hT hn).mono ?_
  rintro e w' ⟨v, L, rfl, h1, h2, h3, h4⟩
  obtain ⟨va, vc, rfl⟩ := own_shape h1
  exact ⟨va, _, vc, L, rfl, h1, h2, h3, h4⟩
theorem OneAt.changed {u : World} (h : OneAt u B pb rg cap gb pv Ps fb fn f G) {mb n : Nat} {s : ByteArray → PL} (hT : TreeAt u mb s n) (hn : n ≤ 100000) (hfn : fn ≤ 1000) (hok : RecOK f s) {va : Option Addr} {vn vc : Nat} {L : List ByteArray} {B' : Nat} (hL : u.ownsRow B' 9 1 (.slice va vn vc) L.length (strs L)) (hm : ∀ x, x ∈ L ↔ (f x).isSome = true ∨ (s x).alive = true) (hl : L.length ≤ fn + n) :
    Calls Tryz.prog 111 #[.pointer (some ⟨rg, 0, none⟩), .agg #[.map (some mb)], .slice va vn vc] u fun e w' => ∃ xa xc K, e = .returned (.slice xa (chgOf f s K).length xc) ∧ FV w' (.slice xa (chgOf f s K).length xc) (chgOf f s K) ∧ AllOf f s K ∧ Below u.heap.size u w' := by
  refine (changed88_any f fb fn rg 0 s mb n va vn vc L u h.files h.r1 h.lts.2.1 hT (by omega) (own_texts hL) (by omega) (fun x hx => ?_)).mono ?_
  · obtain ⟨h1, h2, h3, _⟩ := hok.each x ((hm x).1 hx)
    exact ⟨h1, by omega, h3⟩
  · rintro e w' ⟨v, K, rfl, h1, h2, h3, h4⟩
    obtain ⟨xa, xc, rfl, h5⟩ := h1
    exact ⟨xa, xc, K, rfl, ⟨xa, xc, rfl, h5⟩, ⟨h2, fun x => by rw [h3, hm]⟩, h4⟩
theorem chg_ok {s : ByteArray → PL} (hok : RecOK f s) {K : List ByteArray} (hK : AllOf f s K) : (chgOf f s K).length ≤ 50 ∧ ∀ g ∈ chgOf f s K, FlOK s g := by
  constructor
  · unfold chgOf
    rw [List.length_map]
    exact Nat.le_trans (List.length_filter_le _ _) (hok.few K hK.1 hK.2)
  · intro g hg
    obtain ⟨x, hx, rfl⟩ := List.mem_map.1 hg
    exact (hok.each x ((hK.2 x).1 (List.mem_filter.1 hx).1)).2.2.2
end
end Go.Proofs.YtgdfipmdmgkidaaGreatDoor

/- slices.IndexFunc and ContainsFunc on rows, changes and patches, with any function that answers. -/
namespace Go.Proofs.YtgdfipmdmgkidaaGreatDoor
open Go.RowKit

theorem find_hit {α : Type} {L : List α} {p : α → Bool} {k : Nat} (hk : k < L.length) (h : p L[k] = true) (hno : ∀ i (hi : i < L.length), i < k → p L[i] = false) : L.findIdx? p = some k := by
  rw [List.findIdx?_eq_some_iff_getElem]
  exact ⟨hk, h, fun j hj => by rw [hno j (by omega) hj]; simp⟩
theorem find_miss {α : Type} {L : List α} {p : α → Bool} (hno : ∀ i (hi : i < L.length), p L[i] = false) : L.findIdx? p = none := by
  rw [List.findIdx?_eq_none_iff]
  intro x hx
  obtain ⟨i, hi, rfl⟩ := List.getElem_of_mem hx
  exact hno i hi

theorem idx_any {α : Type} (L : List α) (p : α → Bool) : decide (idxInt (L.findIdx? p) ≥ 0) = L.any p := by
  cases h : L.findIdx? p with
  | none =>
    rw [List.findIdx?_eq_none_iff] at h
    have : L.any p = false := by rw [List.any_eq_false]; intro x hx; rw [h x hx]; simp
    rw [this]
    rfl
  | some k =>
    rw [List.findIdx?_eq_some_iff_getElem] at h
    obtain ⟨h1, h2, _⟩ := h
    have : L.any p = true := List.any_eq_true.2 ⟨_, List.getElem_mem h1, h2⟩
    rw [this]
    simp [idxInt]
/-- A change of a name, a patch, as values. -/
def ncV (c : ByteArray × ChM) : Value := .agg #[.string c.1, chV c.2]
def pmV (P : PM) : Value := .agg #[.int .u8 P.id.a, .int .u8 P.id.b, .int .u8 P.id.c, .int .u8 P.id.d, P.cv]

set_option maxRecDepth 100000 in
set_option maxHeartbeats 3200000 in
theorem idxf283_any (S : List Spot) (p : Spot → Bool) (g : FuncId) (lb : Array Value) (eg : ∀ args w, (callFunc g args).run Tryz.prog w = .ok (.enter g args) w) (v0 : Value) (w : World) (hv : SV w v0 S) (hlen : S.length ≤ 1000000)
    (hp : ∀ s ∈ S, ∀ u, Below w.heap.size w u → Calls Tryz.prog g (#[spV s] ++ lb) u fun e w' => e = .returned (.bool (p s)) ∧ Below u.heap.size u w') :
    Calls Tryz.prog 283 #[v0, .func (.func g) #[] lb] w fun e w' => e = .returned (.int .i64 (idxInt (S.findIdx? p))) ∧ Below w.heap.size w w' := by
  have HV := hid hv
  obtain ⟨ao, cap, rfl⟩ := hv.shape
  have HP := hid hp
  clear hp hv
  go_enter Tryz.func283, Tryz.ntmps283
  go_wp2
  go_loopw [5, 8] (fun _ i wr => ∃ k : Nat, k ≤ S.length ∧ i = .int .i64 k ∧ Hid (∀ i (hi : i < S.length), i < k → p S[i] = false) ∧ Below w.heap.size w wr) (fun _ i _ => S.length - (intOf i).toNat)
  case atStart => exact ⟨0, Nat.zero_le _, rfl, (fun i _ h => by omega), Below.refl _ _⟩
  case round =>
    obtain ⟨k, hk, rfl, HN, hbw⟩ := hrel
    by_cases hlt : k < S.length
    · have hs : S[k]? = some S[k] := List.getElem?_eq_getElem hlt
      obtain ⟨b, o, rfl, hb, c0, c1, c2, c3, c4, c5, c6⟩ := (HV.out.below hbw (Nat.le_refl _)).at hs
      obtain ⟨s, hss⟩ : ∃ s, S[k] = s := ⟨_, rfl⟩
      have hcall := HP.out S[k] (List.getElem_mem hlt) wr hbw
      rw [hss] at c0 c1 c2 c3 c4 c5 c6 hcall
      have HT := hid hss
      clear hss hs
      unfold spV at hcall
      cases hq : p s with
      | true =>
        rw [hq] at hcall
        go_wp2_with (go_at_fn g; refine hcall.mono ?_; rintro e w' ⟨rfl, hb'⟩)
        go_ret
        exact ⟨ret_int (by rw [find_hit hlt (by rw [HT.out]; exact hq) HN.out]; rfl), hbw.trans (hb'.mono hbw.size)⟩
      | false =>
        rw [hq] at hcall
        go_wp2_with (go_at_fn g; refine hcall.mono ?_; rintro e w' ⟨rfl, hb'⟩)
        go_roundw
        case rel =>
          refine ⟨k + 1, by omega, by go_num, fun i hi h => ?_, hbw.trans (hb'.mono hbw.size)⟩
          by_cases e : i = k
          · subst e; rw [HT.out]; exact hq
          · exact HN.out i hi (by omega)
        case measure => simp [intOf]; omega
    · obtain rfl : k = S.length := by omega
      go_wp2
      go_ret
      exact ⟨ret_int (by rw [find_miss (fun i hi => HN.out i hi hi)]; rfl), hbw⟩
set_option maxRecDepth 100000 in
set_option maxHeartbeats 3200000 in
theorem idxf225_any (S : List (ByteArray × ChM)) (p : (ByteArray × ChM) → Bool) (g : FuncId) (lb : Array Value) (eg : ∀ args w, (callFunc g args).run Tryz.prog w = .ok (.enter g args) w) (v0 : Value) (w : World) (hv : CV w v0 S) (hlen : S.length ≤ 1000000)
    (hp : ∀ s ∈ S, ∀ u, Below w.heap.size w u → Calls Tryz.prog g (#[ncV s] ++ lb) u fun e w' => e = .returned (.bool (p s)) ∧ Below u.heap.size u w') :
    Calls Tryz.prog 225 #[v0, .func (.func g) #[] lb] w fun e w' => e = .returned (.int .i64 (idxInt (S.findIdx? p))) ∧ Below w.heap.size w w' := by
  have HV := hid hv
  obtain ⟨ao, cap, rfl, _⟩ := hv
  have HP := hid hp
  clear hp
  go_enter Tryz.func225, Tryz.ntmps225
  go_wp2
  go_loopw [5, 8] (fun _ i wr => ∃ k : Nat, k ≤ S.length ∧ i = .int .i64 k ∧ Hid (∀ i (hi : i < S.length), i < k → p S[i] = false) ∧ Below w.heap.size w wr) (fun _ i _ => S.length - (intOf i).toNat)
  case atStart => exact ⟨0, Nat.zero_le _, rfl, (fun i _ h => by omega), Below.refl _ _⟩
  case round =>
    obtain ⟨k, hk, rfl, HN, hbw⟩ := hrel
    by_cases hlt : k < S.length
    · have hs : S[k]? = some S[k] := List.getElem?_eq_getElem hlt
      obtain ⟨_, _, e1, hcc⟩ := HV.out.below hbw (Nat.le_refl _)
      cases e1
      obtain ⟨b, o, rfl, hb, c0, c1, _⟩ := hcc k _ hs
      clear hcc
      obtain ⟨s, hss⟩ : ∃ s, S[k] = s := ⟨_, rfl⟩
      have hcall := HP.out S[k] (List.getElem_mem hlt) wr hbw
      rw [hss] at c0 c1 hcall
      have HT := hid hss
      clear hss hs
      unfold ncV at hcall
      cases hq : p s with
      | true =>
        rw [hq] at hcall
        go_wp2_with (go_at_fn g; refine hcall.mono ?_; rintro e w' ⟨rfl, hb'⟩)
        go_ret
        exact ⟨ret_int (by rw [find_hit hlt (by rw [HT.out]; exact hq) HN.out]; rfl), hbw.trans (hb'.mono hbw.size)⟩
      | false =>
        rw [hq] at hcall
        go_wp2_with (go_at_fn g; refine hcall.mono ?_; rintro e w' ⟨rfl, hb'⟩)
        go_roundw
        case rel =>
          refine ⟨k + 1, by omega, by go_num, fun i hi h => ?_, hbw.trans (hb'.mono hbw.size)⟩
          by_cases e : i = k
          · subst e; rw [HT.out]; exact hq
          · exact HN.out i hi (by omega)
        case measure => simp [intOf]; omega
    · obtain rfl : k = S.length := by omega
      go_wp2
      go_ret
      exact ⟨ret_int (by rw [find_miss (fun i hi => HN.out i hi hi)]; rfl), hbw⟩
set_option maxRecDepth 100000 in
set_option maxHeartbeats 3200000 in
theorem idxf187_any (S : List PM) (p : PM → Bool) (g : FuncId) (lb : Array Value) (eg : ∀ args w, (callFunc g args).run Tryz.prog w = .ok (.enter g args) w) (v0 : Value) (w : World) (hv : PV w v0 S) (hlen : S.length ≤ 1000000)
    (hp : ∀ s ∈ S, ∀ u, Below w.heap.size w u → Calls Tryz.prog g (#[pmV s] ++ lb) u fun e w' => e = .returned (.bool (p s)) ∧ Below u.heap.size u w') :
    Calls Tryz.prog 187 #[v0, .func (.func g) #[] lb] w fun e w' => e = .returned (.int .i64 (idxInt (S.findIdx? p))) ∧ Below w.heap.size w w' := by
  have HV := hid hv
  obtain ⟨ao, cap, rfl, _⟩ := hv
  have HP := hid hp
  clear hp
  go_enter Tryz.func187, Tryz.ntmps187
  go_wp2
  go_loopw [5, 8] (fun _ i wr => ∃ k : Nat, k ≤ S.length ∧ i = .int .i64 k ∧ Hid (∀ i (hi : i < S.length), i < k → p S[i] = false) ∧ Below w.heap.size w wr) (fun _ i _ => S.length - (intOf i).toNat)
  case atStart => exact ⟨0, Nat.zero_le _, rfl, (fun i _ h => by omega), Below.refl _ _⟩
  case round =>
    obtain ⟨k, hk, rfl, HN, hbw⟩ := hrel
    by_cases hlt : k < S.length
    · have hs : S[k]? = some S[k] := List.getElem?_eq_getElem hlt
      obtain ⟨_, _, e1, hcc⟩ := HV.out.below hbw (Nat.le_refl _)
      cases e1
      obtain ⟨b, o, rfl, hb, c0, c1, c2, c3, c4, _⟩ := hcc k _ hs
      clear hcc
      obtain ⟨s, hss⟩ : ∃ s, S[k] = s := ⟨_, rfl⟩
      have hcall := HP.out S[k] (List.getElem_mem hlt) wr hbw
      rw [hss] at c0 c1 c2 c3 c4 hcall
      have HT := hid hss
      clear hss hs
      unfold pmV at hcall
      cases hq : p s with
      | true =>
        rw [hq] at hcall
        go_wp2_with (go_at_fn g; refine hcall.mono ?_; rintro e w' ⟨rfl, hb'⟩)
        go_ret
        exact ⟨ret_int (by rw [find_hit hlt (by rw [HT.out]; exact hq) HN.out]; rfl), hbw.trans (hb'.mono hbw.size)⟩
      | false =>
        rw [hq] at hcall
        go_wp2_with (go_at_fn g; refine hcall.mono ?_; rintro e w' ⟨rfl, hb'⟩)
        go_roundw
        case rel =>
          refine ⟨k + 1, by omega, by go_num, fun i hi h => ?_, hbw.trans (hb'.mono hbw.size)⟩
          by_cases e : i = k
          · subst e; rw [HT.out]; exact hq
          · exact HN.out i hi (by omega)
        case measure => simp [intOf]; omega
    · obtain rfl : k = S.length := by omega
      go_wp2
      go_ret
      exact ⟨ret_int (by rw [find_miss (fun i hi => HN.out i hi hi)]; rfl), hbw⟩

set_option maxRecDepth 100000 in
theorem anyf255_any (S : List Spot) (p : Spot → Bool) (g : FuncId) (lb : Array Value) (eg : ∀ args w, (callFunc g args).run Tryz.prog w = .ok (.enter g args) w) (v0 : Value) (w : World) (hv : SV w v0 S) (hlen : S.length ≤ 1000000)
    (hp : ∀ s ∈ S, ∀ u, Below w.heap.size w u → Calls Tryz.prog g (#[spV s] ++ lb) u fun e w' => e = .returned (.bool (p s)) ∧ Below u.heap.size u w') :
    Calls Tryz.prog 255 #[v0, .func (.func g) #[] lb] w fun e w' => e = .returned (.bool (S.any p)) ∧ Below w.heap.size w w' := by
  have HC := hid (idxf283_any S p g lb eg v0 w hv hlen hp)
  have HD := hid (idx_any S p)
  obtain ⟨n, hn⟩ : ∃ n, idxInt (S.findIdx? p) = n := ⟨_, rfl⟩
  rw [hn] at HC HD
  clear hp eg hv hn
  go_enter Tryz.func255, Tryz.ntmps255
  go_wp2_with fail
  refine HC.out.mono ?_
  rintro e w' ⟨rfl, hb⟩
  clear HC
  go_wp2
  go_ret
  exact ⟨by rw [← HD.out]; rfl, hb⟩

set_option maxRecDepth 100000 in
theorem anyf184_any (S : List (ByteArray × ChM)) (p : (ByteArray × ChM) → Bool) (g : FuncId) (lb : Array Value) (eg : ∀ args w, (callFunc g args).run Tryz.prog w = .ok (.enter g args) w) (v0 : Value) (w : World) (hv : CV w v0 S) (hlen : S.length ≤ 1000000)
    (hp : ∀ s ∈ S, ∀ u, Below w.heap.size w u → Calls Tryz.prog g (#[ncV s] ++ lb) u fun e w' => e = .returned (.bool (p s)) ∧ Below u.heap.size u w') :
    Calls Tryz.prog 184 #[v0, .func (.func g) #[] lb] w fun e w' => e = .returned (.bool (S.any p)) ∧ Below w.heap.size w w' := by
  have HC := hid (idxf225_any S p g lb eg v0 w hv hlen hp)
  have HD := hid (idx_any S p)
  obtain ⟨n, hn⟩ : ∃ n, idxInt (S.findIdx? p) = n := ⟨_, rfl⟩
  rw [hn] at HC HD
  clear hp eg hv hn
  go_enter Tryz.func184, Tryz.ntmps184
  go_wp2_with fail
  refine HC.out.mono ?_
  rintro e w' ⟨rfl, hb⟩
  clear HC
  go_wp2
  go_ret
  exact ⟨by rw [← HD.out]; rfl, hb⟩
end Go.Proofs.YtgdfipmdmgkidaaGreatDoor

/- Mathematics: the cells of a file: which there are behind an alteration, which of them live. -/
namespace Go.Proofs.YtgdfipmdmgkidaaGreatDoor
open Go.RowKit

/-- The patch that brought a cell. -/
def sid (s : Spot) : Pid := ⟨s.a, s.b, s.c, s.d⟩
/-- A cell, alive or dead. -/
def cid (s : Spot) : Pid × Int := (sid s, s.num)
theorem cid_dead (s : Spot) : cid (deadS s) = cid s := rfl
theorem cids_dead (S : List Spot) : (deadRow S).map cid = S.map cid := by
  unfold deadRow
  rw [List.map_map]
  rfl

theorem tail_mem {F : List Spot} : ∀ (QB : List (Quad × List Spot)) (c : Nat) (s : Spot), s ∈ tailRow F c QB → s ∈ F ∨ (∃ t ∈ F, s = deadS t) ∨ ∃ r ∈ QB, s ∈ r.2
  | [], c, s, h => .inl (List.mem_of_mem_drop h)
  | (q, B) :: R, c, s, h => by
    unfold tailRow at h
    rcases List.mem_append.1 h with h | h
    · exact .inl (List.mem_of_mem_take (List.mem_of_mem_drop h))
    · rcases List.mem_append.1 h with h | h
      · obtain ⟨t, ht, rfl⟩ := List.mem_map.1 h
        exact .inr (.inl ⟨t, List.mem_of_mem_take (List.mem_of_mem_drop ht), rfl⟩)
      · rcases List.mem_append.1 h with h | h
        · exact .inr (.inr ⟨(q, B), List.mem_cons_self, h⟩)
        · rcases tail_mem R _ s h with h | h | ⟨r, hr, h⟩
          · exact .inl h
          · exact .inr (.inl h)
          · exact .inr (.inr ⟨r, List.mem_cons_of_mem _ hr, h⟩)

theorem split_three (F : List Spot) {c a b : Nat} (hca : c ≤ a) (hab : a ≤ b) : F.drop c = (F.take a).drop c ++ ((F.take b).drop a ++ F.drop b) := by
  have h1 : F.drop a = (F.take b).drop a ++ F.drop b := by
    conv => lhs; rw [← List.take_append_drop b F]
    by_cases hb : b ≤ F.length
    · rw [List.drop_append_of_le_length (by simp; omega)]
    · rw [List.drop_of_length_le (show F.length ≤ b by omega), List.append_nil, List.append_nil]
  have h2 : F.drop c = (F.take a).drop c ++ F.drop a := by
    conv => lhs; rw [← List.take_append_drop a F]
    by_cases ha : a ≤ F.length
    · rw [List.drop_append_of_le_length (by simp; omega)]
    · rw [List.drop_of_length_le (show F.length ≤ a by omega), List.append_nil, List.append_nil]
  rw [h2, h1]

theorem tail_cids {F : List Spot} : ∀ (QB : List (Quad × List Spot)) (x : Nat), GOrd (living F).length x (QB.map (·.1)) →
    ((tailRow F ((living F).getD x 0) QB).map cid).Perm ((F.drop ((living F).getD x 0)).map cid ++ (QB.flatMap (·.2)).map cid)
  | [], x, _ => by simp [tailRow]
  | (q, B) :: R, x, h => by
    have h' : GOrd (living F).length x (q :: R.map (·.1)) := h
    obtain ⟨h1, h2, h3, h4, h5⟩ := GOrd.at h'
    have ih := tail_cids R (q.k + 1) h.2.2.2
    have e : (living F).getD (q.k + 1) 0 = bv F q := rfl
    rw [e] at ih
    unfold tailRow
    rw [split_three F (show (living F).getD x 0 ≤ av F q + 1 by omega) (show av F q + 1 ≤ bv F q by omega)]
    simp only [List.map_append, cids_dead, List.flatMap_cons, List.append_assoc]
    refine List.Perm.append_left _ (List.Perm.append_left _ ?_)
    refine ((List.Perm.append_left _ ih).trans ?_)
    rw [← List.append_assoc, ← List.append_assoc]
    exact List.Perm.append_right _ List.perm_append_comm

/-- All cells that the hunks of an alteration bring. -/
def brAll (i : Pid) (N : List ByteArray) : Int → List Quad → List Spot
  | _, [] => []
  | n, q :: R => bring i n (linesAt N q) ++ brAll i N (n + (linesAt N q).length) R
theorem Made.tail {F : List Spot} {i : Pid} {n : Int} {N : List ByteArray} {q : Quad} {Q : List Quad} {h : Hk} {Hs : List Hk} (hm : Made F i n N (q :: Q) (h :: Hs)) : h.N = namedOf F q ∧ h.Br = bring i n (linesAt N q) ∧ Made F i (n + (linesAt N q).length) N Q Hs := by
  obtain ⟨q0, e1, e2, e3⟩ := hm.2 0 h rfl
  cases e1
  refine ⟨e2, e3, by have := hm.1; simpa using this, fun k x hx => ?_⟩
  obtain ⟨q1, e1, e2, e3⟩ := hm.2 (k + 1) x (by simpa using hx)
  exact ⟨q1, by simpa using e1, e2, by simpa [numTo] using e3⟩
theorem made_brings {F : List Spot} {i : Pid} {N : List ByteArray} : ∀ (Q : List Quad) (Hs : List Hk) (n : Int), Made F i n N Q Hs → Hs.flatMap (·.Br) = brAll i N n Q
  | [], Hs, n, h => by
    have : Hs = [] := List.eq_nil_of_length_eq_zero (by simpa using h.1)
    subst this
    rfl
  | q :: Q, [], n, h => by have := h.1; simp at this
  | q :: Q, h :: Hs, n, hm => by
    obtain ⟨_, h2, h3⟩ := hm.tail
    simp only [List.flatMap_cons, brAll]
    rw [h2, made_brings Q Hs _ h3]
theorem brAll_mem {i : Pid} {N : List ByteArray} : ∀ (Q : List Quad) (n : Int) (s : Spot), s ∈ brAll i N n Q → sid s = i ∧ n ≤ s.num ∧ s.num < numTo n N Q ∧ s.alive = true
  | [], n, s, h => by simp [brAll] at h
  | q :: Q, n, s, h => by
    unfold brAll at h
    rcases List.mem_append.1 h with h | h
    · unfold bring brTo at h
      obtain ⟨k, hk, rfl⟩ := List.mem_map.1 h
      have hk := List.mem_range.1 hk
      have := numTo_le (n + (linesAt N q).length) N Q
      refine ⟨rfl, ?_, ?_, rfl⟩
      · simp only [brS]; omega
      · simp only [brS, numTo]; omega
    · obtain ⟨h1, h2, h3, h4⟩ := brAll_mem Q _ s h
      exact ⟨h1, by omega, h3, h4⟩
theorem bring_cids (i : Pid) (n : Int) (L : List ByteArray) : ((bring i n L).map cid).Nodup := by
  unfold bring brTo
  rw [List.map_map, List.Nodup, List.pairwise_map]
  refine List.Pairwise.imp ?_ List.pairwise_lt_range
  intro a b hab e
  simp only [Function.comp, cid, brS, Prod.mk.injEq] at e
  omega
theorem brAll_nodup {i : Pid} {N : List ByteArray} : ∀ (Q : List Quad) (n : Int), ((brAll i N n Q).map cid).Nodup
  | [], n => by simp [brAll]
  | q :: Q, n => by
    unfold brAll
    rw [List.map_append, List.nodup_append]
    refine ⟨bring_cids _ _ _, brAll_nodup Q _, ?_⟩
    intro a ha b hb e
    obtain ⟨s, hs, rfl⟩ := List.mem_map.1 ha
    obtain ⟨t, ht, rfl⟩ := List.mem_map.1 hb
    obtain ⟨_, h2, _⟩ := brAll_mem Q _ t ht
    unfold bring brTo at hs
    obtain ⟨k, hk, rfl⟩ := List.mem_map.1 hs
    have hk := List.mem_range.1 hk
    simp only [cid, brS, Prod.mk.injEq] at e
    omega

theorem framed_mid {X : List Spot} (h1 : ∃ Z, X = begS :: Z) (h2 : ∃ Y, X = Y ++ [endS]) : X = framed (midRow X) := by
  obtain ⟨Z, rfl⟩ := h1
  obtain ⟨Y, hY⟩ := h2
  have hZ : ∃ W, Z = W ++ [endS] := by
    cases Y with
    | nil => simp [begS, endS, edgeS] at hY
    | cons y Y =>
      simp only [List.cons_append, List.cons.injEq] at hY
      exact ⟨Y, hY.2⟩
  obtain ⟨W, rfl⟩ := hZ
  simp [framed, midRow]
theorem qb_brings {F : List Spot} {i : Pid} {n : Int} {N : List ByteArray} {Q : List Quad} {Hs : List Hk} (hm : Made F i n N Q Hs) : (qbOf Q Hs).flatMap (·.2) = brAll i N n Q := by
  rw [← made_brings Q Hs n hm]
  unfold qbOf
  have : (Q.zip (Hs.map (·.Br))).map (·.2) = Hs.map (·.Br) := List.map_snd_zip (by simp [hm.1])
  rw [List.flatMap_def, this, ← List.flatMap_def]

section
variable {S : List Spot} {N : List ByteArray} {i : Pid} {n : Int} {Q : List Quad} {Hs : List Hk}
/-- The row behind an alteration. -/
def altRow (S : List Spot) (Q : List Quad) (Hs : List Hk) : List Spot := midRow (fSeq (framed S) (qbOf Q Hs) Hs.length)
theorem alt_tail (hm : Made (framed S) i n N Q Hs) (hg : GapsR (rowLines S) N 0 0 Q) (hF : (framed S).Nodup) (hid : ∀ s ∈ framed S, ¬ (s.a = i.a ∧ s.b = i.b ∧ s.c = i.c ∧ s.d = i.d)) : tailRow (framed S) 0 (qbOf Q Hs) = framed (altRow S Q Hs) := by
  have ho := hg.ord (Nat.zero_le _) (Nat.zero_le _)
  have hlf := living_framed S
  have hB : ∀ r ∈ qbOf Q Hs, ∀ s ∈ r.2, s ∉ framed S := fun r hr s hs hsF => by
    obtain ⟨m, h⟩ := qb_mem hm r hr
    rw [h] at hs
    exact hid s hsF (bring_id hs)
  have h0 : HkAt (framed S) (qbOf Q Hs) 0 := HkAt.start (living_first S) (by omega) (by rw [qb_map hm, hlf]; exact ho)
  have hl := (HkAt.all hF hB h0 _ (Nat.le_refl _)).last
  have e : altRow S Q Hs = midRow (tailRow (framed S) 0 (qbOf Q Hs)) := by
    unfold altRow
    rw [← qb_len hm, hl]
  rw [e]
  refine framed_mid ?_ ?_
  · exact tail_first _
  · have := tail_end (G := begS :: S) (qbOf Q Hs) 0 0 (by simp) (by
      have e2 : (begS :: S) ++ [endS] = framed S := rfl
      rw [e2, qb_map hm, hlf]
      exact ho)
    exact this
theorem alt_cids (hm : Made (framed S) i n N Q Hs) (hg : GapsR (rowLines S) N 0 0 Q) (hF : (framed S).Nodup) (hid : ∀ s ∈ framed S, ¬ (s.a = i.a ∧ s.b = i.b ∧ s.c = i.c ∧ s.d = i.d)) : ((altRow S Q Hs).map cid).Perm (S.map cid ++ (brAll i N n Q).map cid) := by
  have ho := hg.ord (Nat.zero_le _) (Nat.zero_le _)
  have hlf := living_framed S
  have h := tail_cids (F := framed S) (qbOf Q Hs) 0 (by rw [qb_map hm, hlf]; exact ho)
  rw [living_first, List.drop_zero, alt_tail hm hg hF hid, qb_brings hm] at h
  unfold framed at h
  simp only [List.map_cons, List.map_append, List.cons_append, List.map_nil, List.append_assoc] at h
  have h1 := (List.perm_cons _).1 h
  have h2 : (S.map cid ++ ([cid endS] ++ (brAll i N n Q).map cid)).Perm (S.map cid ++ (brAll i N n Q).map cid ++ [cid endS]) := by
    rw [List.append_assoc]
    exact List.Perm.append_left _ List.perm_append_comm
  have h3 := h1.trans h2
  exact (List.perm_append_right_iff _).1 h3
theorem alt_mem (hm : Made (framed S) i n N Q Hs) (hg : GapsR (rowLines S) N 0 0 Q) (hF : (framed S).Nodup) (hid : ∀ s ∈ framed S, ¬ (s.a = i.a ∧ s.b = i.b ∧ s.c = i.c ∧ s.d = i.d)) {s : Spot} (hs : s ∈ altRow S Q Hs) : (s ∈ framed S) ∨ (∃ t ∈ framed S, s = deadS t) ∨ s ∈ brAll i N n Q := by
  have h : s ∈ tailRow (framed S) 0 (qbOf Q Hs) := by
    rw [alt_tail hm hg hF hid]
    unfold framed
    simp [hs]
  rcases tail_mem _ _ _ h with h | h | ⟨r, hr, h⟩
  · exact .inl h
  · exact .inr (.inl h)
  · refine .inr (.inr ?_)
    rw [← qb_brings hm]
    exact List.mem_flatMap.2 ⟨r, hr, h⟩
end
end Go.Proofs.YtgdfipmdmgkidaaGreatDoor
