/- Patches that stand one behind the other: what they make, and how one is told. -/
import Derived.Test.YtgdfipmdmgkidaaGreatDoorPheld
import Derived.Test.YtgdfipmdmgkidaaGreatDoorPgiven
import Derived.Test.YtgdfipmdmgkidaaGreatDoorPmrow
import Derived.Test.YtgdfipmdmgkidaaGreatDoorWmath
namespace Go.Proofs.YtgdfipmdmgkidaaGreatDoor
open Go.RowKit
def ApplyP (c : ChM) (p p' : PL) : Prop := match c with
  | .add i _ _ S => p' = ⟨i, true, S⟩
  | .remove i _ S => p' = ⟨i, false, deadRow S⟩ ∧ S.length ≤ 100000
  | .alter i _ Hs => ∃ g : Nat → List Spot, g 0 = framed p.S ∧ Steps g Hs ∧ p' = ⟨i, true, midRow (g Hs.length)⟩ ∧ p.S.length ≤ 100000 ∧ Hs.length ≤ 100000
theorem apply_any {c : ChM} {p p' : PL} (h : ApplyP c p p') {u : World} {l : Lat} (hc : ChOK u c) (hl : LatIs l p) (hs : SV u l.rv l.S) :
    Calls Tryz.prog (chApply c) #[chIn c, latV l] u fun e w' => ∃ l', e = .returned (latV l') ∧ LatIs l' p' ∧ SV w' l'.rv l'.S ∧ Below u.heap.size u w' := by
  obtain ⟨l1, l2, l3⟩ := hl
  obtain ⟨xa, xc, hx⟩ := hs.shape
  cases c with
  | add i l rv S =>
    refine (add238_any i l S rv _ _ _ xa _ xc hx u hc).mono ?_
    rintro e w' ⟨rfl, hb⟩
    rw [h]
    exact ⟨⟨i, true, rv, S⟩, rfl, ⟨rfl, rfl, rfl⟩, SV.below hc hb (Nat.le_refl _), hb⟩
  | remove i rv S =>
    refine (remove340_any i S rv _ _ _ xa _ xc hx u hc h.2).mono ?_
    rintro e w' ⟨v, rfl, hv', hb⟩
    rw [h.1]
    exact ⟨⟨i, false, v, deadRow S⟩, rfl, ⟨rfl, rfl, rfl⟩, hv', hb⟩
  | alter i hv Hs =>
    obtain ⟨g, g0, g1, g2, g3, g4⟩ := h
    rw [← l3] at g0 g3
    refine (alter245_any i Hs g _ g0 g1 hv _ _ _ u hc hs g3 g4).mono ?_
    rintro e w' ⟨v, rfl, hv', hb⟩
    rw [g2]
    exact ⟨⟨i, true, v, _⟩, rfl, ⟨rfl, rfl, rfl⟩, hv', hb⟩
def TellsP (c : ChM) (name : ByteArray) (p : PL) (t : ByteArray) : Prop := match c with
  | .add _ _ _ S => Small S ∧ t = addHead name ++ tellB ⟨#[43]⟩ S
  | .remove _ _ S => Small S ∧ t = removeHead name ++ tellB ⟨#[45]⟩ S
  | .alter _ _ Hs => ∃ g : Nat → ByteArray, g 0 = alterHead name ∧ Tells (framed p.S) Hs g ∧ t = g Hs.length ∧ p.S.length ≤ 90000 ∧ Hs.length ≤ 100000
theorem tell_any {c : ChM} {name : ByteArray} {p : PL} {t : ByteArray} (h : TellsP c name p t) (hn : name.size ≤ 1000) {u : World} {l : Lat} (hc : ChOK u c) (hl : LatIs l p) (hs : SV u l.rv l.S) :
    Calls Tryz.prog (chTell c) #[chIn c, .string name, latV l] u fun e w' => e = .returned (.string t) ∧ Below u.heap.size u w' := by
  obtain ⟨l1, l2, l3⟩ := hl
  obtain ⟨xa, xc, hx⟩ := hs.shape
  cases c with
  | add i l rv S =>
    rw [h.2]
    exact addtell239_any i l S rv name hn _ _ _ xa _ xc hx u hc h.1
  | remove i rv S =>
    rw [h.2]
    exact remtell344_any i S rv name hn _ _ _ xa _ xc hx u hc h.1
  | alter i hv Hs =>
    obtain ⟨g, g0, g1, g2, g3, g4⟩ := h
    rw [← l3] at g1 g3
    rw [g2]
    exact altell246_any i Hs g _ name hn g0 g1 hv _ _ _ u hc hs g3 g4
structure Stands (Ps : List PM) (st : Nat → Nat → ByteArray → PL) (cnt : Nat → Nat) : Prop where
  start : st 0 0 = fun _ => pl0
  next : ∀ p P, Ps[p]? = some P → st (p + 1) 0 = st p P.Cs.length
  other : ∀ p P k c, Ps[p]? = some P → P.Cs[k]? = some c → ∀ x, x ≠ c.1 → st p (k + 1) x = st p k x
  app : ∀ p P k c, Ps[p]? = some P → P.Cs[k]? = some c → ApplyP c.2 (st p k c.1) (st p (k + 1) c.1)
  names : ∀ P ∈ Ps, ∀ c ∈ P.Cs, c.1.size ≤ 1000
  few : ∀ P ∈ Ps, P.Cs.length ≤ 1000
  count : ∀ p P, Ps[p]? = some P → cnt (p + 1) = cnt p + P.Cs.length
  small : ∀ p, cnt p ≤ 100000
theorem Stands.grows {Ps : List PM} {st : Nat → Nat → ByteArray → PL} {cnt : Nat → Nat} (h : Stands Ps st cnt) {w : World} {pv : Value} (hp : PV w pv Ps) : Grows w Ps st cnt := by
  refine ⟨h.start, h.next, h.other, fun p P k c hP hc u l hu hl hs => ?_, h.names, h.few, h.count, h.small⟩
  obtain ⟨ao, cap, rfl, hcc⟩ := hp.below hu (Nat.le_refl _)
  obtain ⟨b, o, _, _, _, _, _, _, _, hcv⟩ := hcc p P hP
  obtain ⟨_, _, _, hch⟩ := hcv
  obtain ⟨_, _, _, _, _, _, hok⟩ := hch k c hc
  exact apply_any (h.app p P k c hP hc) hok hl hs
theorem kept_any {Ps : List PM} {st : Nat → Nat → ByteArray → PL} {cnt : Nat → Nat} (h : Stands Ps st cnt) {w : World} {pv : Value} (hp : PV w pv Ps) (hPs : Ps.length ≤ 10000) {rb ro : Nat} (hr : w.cell? ⟨rb, ro, none⟩ = some pv) (hrb : rb < w.heap.size) :
    Calls Tryz.prog 77 #[.pointer (some ⟨rb, ro, none⟩)] w fun e w' => ∃ mb n, e = .returned (.agg #[.map (some mb)]) ∧ TreeAt w' mb (st Ps.length 0) n ∧ n ≤ 100000 ∧ w.heap.size ≤ mb ∧ Below w.heap.size w w' :=
  kept54_any Ps pv st cnt rb ro w hp (fun _u hu => h.grows (hp.below hu (Nat.le_refl _))) hPs hr hrb
def toldTo (t : Nat → ByteArray) : Nat → List UInt8
  | 0 => []
  | k + 1 => toldTo t k ++ (t k).data.toList
theorem toldTo_len (t : Nat → ByteArray) (m : Nat) (h : ∀ k, (t k).size ≤ m) : ∀ k, (toldTo t k).length ≤ k * m
  | 0 => by simp [toldTo]
  | k + 1 => by
    have := toldTo_len t m h k
    have h1 := h k
    have e : (t k).data.toList.length = (t k).size := rfl
    simp only [toldTo, List.length_append, e]
    rw [Nat.add_mul]
    omega
theorem told_any (i : Pid) {Cs : List (ByteArray × ChM)} {cv : Value} {mb n : Nat} {st : ByteArray → PL} {w : World} (hc : CV w cv Cs) (hT : TreeAt w mb st n) (hn : n ≤ 1000000) (hCs : Cs.length ≤ 100) (hnm : ∀ c ∈ Cs, c.1.size ≤ 1000) (t : Nat → ByteArray)
    (ht : ∀ k c, Cs[k]? = some c → TellsP c.2 c.1 (st c.1) (t k)) (hts : ∀ k, (t k).size ≤ 1000000) :
    Calls Tryz.prog 113 #[.agg #[.int .u8 i.a, .int .u8 i.b, .int .u8 i.c, .int .u8 i.d, cv], .agg #[.map (some mb)]] w fun e w' => e = .returned (.string ⟨(toldTo t Cs.length).toArray⟩) ∧ Below w.heap.size w w' := by
  obtain ⟨f, has, hk, hl, hs⟩ := hT.kat hn
  refine ptell90_any i Cs cv mb f has t (toldTo t) w hc hk (by omega) hnm (fun k c hkc u hu => ?_) rfl (fun k _ => rfl) (fun k hk => ?_) (fun k => by have := hts k; omega)
  · obtain ⟨_, _, _, hch⟩ := hc.below hu (Nat.le_refl _)
    obtain ⟨_, _, _, _, _, _, hok⟩ := hch k c hkc
    exact tell_any (ht k c hkc) (hnm c (List.mem_of_getElem? hkc)) hok (hl c.1) ((hs c.1).below hu (Nat.le_refl _))
  · have := toldTo_len t 1000000 hts k
    have : k * 1000000 ≤ 100 * 1000000 := Nat.mul_le_mul_right _ (by omega)
    omega
end Go.Proofs.YtgdfipmdmgkidaaGreatDoor
/- A world of one repository in memory. -/
namespace Go.Proofs.YtgdfipmdmgkidaaGreatDoor
open Go.RowKit
abbrev pmCells (Ps : List PM) : List Value := Ps.flatMap fun P => [.int .u8 P.id.a, .int .u8 P.id.b, .int .u8 P.id.c, .int .u8 P.id.d, P.cv]
theorem pm_flat : ∀ (Ps : List PM) (k : Nat) (r : PM), Ps[k]? = some r → (pmCells Ps)[k * 5]? = some (.int .u8 r.id.a) ∧ (pmCells Ps)[k * 5 + 1]? = some (.int .u8 r.id.b) ∧ (pmCells Ps)[k * 5 + 2]? = some (.int .u8 r.id.c) ∧ (pmCells Ps)[k * 5 + 3]? = some (.int .u8 r.id.d) ∧ (pmCells Ps)[k * 5 + 4]? = some r.cv
  | [], k, r, h => by simp at h
  | x :: Cs, 0, r, h => by simp at h; subst h; simp
  | x :: Cs, k + 1, r, h => by
    have ih := pm_flat Cs k r (by simpa using h)
    have e : (k + 1) * 5 = k * 5 + 5 := by omega
    rw [e]
    simp only [pmCells, List.flatMap_cons, List.cons_append, List.nil_append, List.getElem?_cons_succ]
    exact ih
theorem pm_view {w : World} {B : Nat} {v : Value} {Ps : List PM} (h : w.ownsRow B 149 5 v Ps.length (pmCells Ps)) (hok : ∀ P ∈ Ps, CV w P.cv P.Cs) : PV w v Ps := by
  have hc := fun g => World.ownsRow.cells h (g := g)
  rcases h.2 with ⟨rfl, h0⟩ | ⟨g, cp, cur, rfl, _, hg, hcp, _⟩
  · have : Ps = [] := List.eq_nil_of_length_eq_zero h0
    subst this
    exact ⟨none, 0, rfl, fun k r hk => by simp at hk⟩
  · obtain ⟨add⟩ : Nonempty (∀ j : Nat, ((⟨g, 0, none⟩ : Addr).add j) = ⟨g, 0 + j, none⟩) := ⟨fun j => by cases j <;> simp [Addr.add]⟩
    refine ⟨some ⟨g, 0, none⟩, cp, rfl, fun k r hk => ?_⟩
    obtain ⟨f0, f1, f2, f3, f4⟩ := pm_flat Ps k r hk
    refine ⟨g, 0, rfl, ⟨cur, _, hg⟩, ?_, ?_, ?_, ?_, ?_, hok r (List.mem_of_getElem? hk)⟩
    · have := hc g rfl (k * 5) _ f0; rw [add] at this; exact this
    · have := hc g rfl (k * 5 + 1) _ f1; rw [add] at this; rw [Nat.add_assoc]; exact this
    · have := hc g rfl (k * 5 + 2) _ f2; rw [add] at this; rw [Nat.add_assoc]; exact this
    · have := hc g rfl (k * 5 + 3) _ f3; rw [add] at this; rw [Nat.add_assoc]; exact this
    · have := hc g rfl (k * 5 + 4) _ f4; rw [add] at this; rw [Nat.add_assoc]; exact this
structure Rep where
  pv : Value
  Ps : List PM
  fb : Nat
  fn : Nat
  f : ByteArray → Option ByteArray
structure Cfg where
  cap : Nat
  nr : Nat
  r : Nat
  rep : Nat → Rep
structure RepAt (w : World) (B gb fb : Nat) (pv : Value) (R : Rep) : Prop where
  lo : B ≤ R.fb
  own : w.ownsRow B 149 5 R.pv R.Ps.length (pmCells R.Ps)
  chs : ∀ P ∈ R.Ps, CV w P.cv P.Cs
  files : FK w R.fb R.f R.fn
  ng : R.fb ≠ gb
  nf : R.fb ≠ fb
  far : ∀ k, R.pv.ownBlock = some k → pv.ownBlock ≠ some k
def Cfg.oth (c : Cfg) (i : Nat) : Prop := i < c.nr ∧ i ≠ c.r
def Cfg.apart (c : Cfg) : Prop := ∀ i j, c.oth i → c.oth j → i ≠ j → (c.rep i).fb ≠ (c.rep j).fb ∧ ∀ k, (c.rep i).pv.ownBlock = some k → (c.rep j).pv.ownBlock ≠ some k
structure OneAt (w : World) (B pb rg : Nat) (cap : Cfg) (gb : Nat) (pv : Value) (Ps : List PM) (fb fn : Nat) (f : ByteArray → Option ByteArray) (G : List Pid) : Prop where
  lo : B ≤ pb ∧ B ≤ rg ∧ B ≤ gb ∧ B ≤ fb
  wb : w.heap[pb]? = some (.cells #[.slice (some ⟨rg, 0, none⟩) cap.nr cap.cap, .map (some gb)] 83 (0, 0))
  row : ∃ A : Array Value, w.heap[rg]? = some (.cells A 87 (0, 0)) ∧ A[cap.r * 2]? = some pv ∧ A[cap.r * 2 + 1]? = some (.map (some fb)) ∧ ∀ i, cap.oth i → A[i * 2]? = some (cap.rep i).pv ∧ A[i * 2 + 1]? = some (.map (some (cap.rep i).fb))
  given : GAt w gb G
  own : w.ownsRow B 149 5 pv Ps.length (pmCells Ps)
  chs : ∀ P ∈ Ps, CV w P.cv P.Cs
  files : FK w fb f fn
  ne : gb ≠ fb
  cap1 : cap.r < cap.nr ∧ cap.nr ≤ cap.cap ∧ cap.nr ≤ 1000 ∧ cap.apart
  oths : ∀ i, cap.oth i → RepAt w B gb fb pv (cap.rep i)
theorem RepAt.same {w w' : World} {B gb fb : Nat} {pv pv' : Value} {R : Rep} (h : RepAt w B gb fb pv R) (h1 : w'.heap[R.fb]? = w.heap[R.fb]?) (h2 : ∀ k, R.pv.ownBlock = some k → w'.heap[k]? = w.heap[k]?) (h3 : ∀ P ∈ R.Ps, CV w' P.cv P.Cs) (h4 : ∀ k, R.pv.ownBlock = some k → pv'.ownBlock ≠ some k) : RepAt w' B gb fb pv' R := by
  refine ⟨h.lo, ⟨h.own.1, ?_⟩, h3, h.files.same h1, h.ng, h.nf, h4⟩
  rcases h.own.2 with q | ⟨g, cap, cur, e, hb, hg, rest⟩
  · exact .inl q
  · exact .inr ⟨g, cap, cur, e, hb, (h2 g (by rw [e]; rfl)).trans hg, rest⟩
theorem RepAt.below {w w' : World} {B gb fb : Nat} {pv : Value} {R : Rep} (h : RepAt w B gb fb pv R) (hb : Below w.heap.size w w') : RepAt w' B gb fb pv R :=
  h.same (hb.block _ h.files.lt) (fun k hk => hb.block _ (h.own.lt k hk).2) (fun P hP => (h.chs P hP).below hb (Nat.le_refl _)) h.far
section
variable {w : World} {B pb rg : Nat} {cap : Cfg} {gb : Nat} {pv : Value} {Ps : List PM} {fb fn : Nat} {f : ByteArray → Option ByteArray} {G : List Pid}
theorem OneAt.lts (h : OneAt w B pb rg cap gb pv Ps fb fn f G) : pb < w.heap.size ∧ rg < w.heap.size ∧ gb < w.heap.size ∧ fb < w.heap.size := by
  obtain ⟨A, hA, _⟩ := h.row
  exact ⟨(Array.getElem?_eq_some_iff.1 h.wb).1, (Array.getElem?_eq_some_iff.1 hA).1, h.given.lt, h.files.lt⟩
theorem OneAt.below (h : OneAt w B pb rg cap gb pv Ps fb fn f G) {w' : World} (hb : Below w.heap.size w w') : OneAt w' B pb rg cap gb pv Ps fb fn f G := by
  obtain ⟨l1, l2, l3, l4⟩ := h.lts
  obtain ⟨A, hA, hA2⟩ := h.row
  exact ⟨h.lo, (hb.block _ l1).trans h.wb, ⟨A, (hb.block _ l2).trans hA, hA2⟩, h.given.same (hb.block _ l3), own_below h.own hb (Nat.le_refl _), fun P hP => (h.chs P hP).below hb (Nat.le_refl _), h.files.same (hb.block _ l4), h.ne, h.cap1, fun i hi => (h.oths i hi).below hb⟩
theorem OneAt.drew (h : OneAt w B pb rg cap gb pv Ps fb fn f G) : OneAt w.drew B pb rg cap gb pv Ps fb fn f G := h.below (Below.refl _ _).drew
theorem OneAt.view (h : OneAt w B pb rg cap gb pv Ps fb fn f G) : PV w pv Ps := pm_view h.own h.chs
theorem OneAt.c0 (h : OneAt w B pb rg cap gb pv Ps fb fn f G) : w.cell? ⟨pb, 0, none⟩ = some (.slice (some ⟨rg, 0, none⟩) cap.nr cap.cap) := by simp [World.cell?, h.wb]
theorem OneAt.c1 (h : OneAt w B pb rg cap gb pv Ps fb fn f G) : w.cell? ⟨pb, 1, none⟩ = some (.map (some gb)) := by simp [World.cell?, h.wb]
theorem OneAt.r0 (h : OneAt w B pb rg cap gb pv Ps fb fn f G) : w.cell? ⟨rg, cap.r * 2, none⟩ = some pv := by
  obtain ⟨A, hA, h0, _⟩ := h.row
  simp [World.cell?, hA, h0]
theorem OneAt.r1 (h : OneAt w B pb rg cap gb pv Ps fb fn f G) : w.cell? ⟨rg, cap.r * 2 + 1, none⟩ = some (.map (some fb)) := by
  obtain ⟨A, hA, _, h1, _⟩ := h.row
  simp [World.cell?, hA, h1]
theorem FK.map {mb n : Nat} (h : FK w mb f n) : ∃ es c, w.heap[mb]? = some (.map es c) := by
  obtain ⟨D, ⟨es, c, he, _⟩, _⟩ := h
  exact ⟨es, c, he⟩
theorem OneAt.map_put (h : OneAt w B pb rg cap gb pv Ps fb fn f G) {w' : World} {m : Nat} (hg : w.grownBy w' (some m)) (hm : ∃ es c, w.heap[m]? = some (.map es c)) (hgf : m = gb ∨ m = fb) {G' : List Pid} {f' : ByteArray → Option ByteArray} {fn' : Nat} (h1 : GAt w' gb G') (h2 : FK w' fb f' fn') : OneAt w' B pb rg cap gb pv Ps fb fn' f' G' := by
  obtain ⟨l1, l2, l3, l4⟩ := h.lts
  obtain ⟨A, hA, hA2⟩ := h.row
  obtain ⟨es, c, hm⟩ := hm
  have ne : ∀ {k : Nat} {cs : Array Value} {t : TypeId} {fz : Nat × Nat}, w.heap[k]? = some (.cells cs t fz) → some k ≠ some m := fun hk e => by
    injection e with e
    subst e
    rw [hm] at hk
    cases hk
  refine ⟨h.lo, (hg.block _ l1 (ne h.wb)).trans h.wb, ⟨A, (hg.block _ l2 (ne hA)).trans hA, hA2⟩, h1, h.own.kept hg (Or.inr ?_), fun P hP => (h.chs P hP).held (HeldT.of_map hg ⟨es, c, hm⟩), h2, h.ne, h.cap1, fun i hi => ?_⟩
  · rcases h.own.2 with ⟨rfl, _⟩ | ⟨g, cp, cur, rfl, _, hq, _⟩
    · simp [Value.ownBlock]
    · simp only [Value.ownBlock]
      exact ne hq
  · have hR := h.oths i hi
    refine hR.same (hg.block _ hR.files.lt (fun e => ?_)) (fun k hk => hg.block k (hR.own.lt k hk).2 ?_) (fun P hP => (hR.chs P hP).held (HeldT.of_map hg ⟨es, c, hm⟩)) hR.far
    · injection e with e
      rcases hgf with q | q
      · exact hR.ng (e.trans q)
      · exact hR.nf (e.trans q)
    · obtain ⟨cs, fz, hq⟩ := own_TB hR.own hk
      exact ne hq
theorem OneAt.push (h : OneAt w B pb rg cap gb pv Ps fb fn f G) {w1 w2 : World} {P : PM} {g c : Nat} (hb1 : Below w.heap.size w w1) (hg : w1.grownBy w2 pv.ownBlock) (hat : pv.ownBlock = some g ∨ w1.heap.size ≤ g) (hown : w2.ownsRow B 149 5 (.slice (some ⟨g, 0, none⟩) (Ps.length + 1) c) (Ps.length + 1) (pmCells Ps ++ [.int .u8 P.id.a, .int .u8 P.id.b, .int .u8 P.id.c, .int .u8 P.id.d, P.cv])) (hP : CV w1 P.cv P.Cs) :
    OneAt (w2.setCell ⟨rg, cap.r * 2, none⟩ (.slice (some ⟨g, 0, none⟩) (Ps.length + 1) c)) B pb rg cap gb (.slice (some ⟨g, 0, none⟩) (Ps.length + 1) c) (Ps ++ [P]) fb fn f G ∧ (∀ T : TypeId → Prop, ¬ T 149 → ¬ T 87 → HeldT T w1 (w2.setCell ⟨rg, cap.r * 2, none⟩ (.slice (some ⟨g, 0, none⟩) (Ps.length + 1) c))) ∧ ∀ k, k < w1.heap.size → k ≠ rg → (∀ q, pv.ownBlock = some q → k ≠ q) → (w2.setCell ⟨rg, cap.r * 2, none⟩ (.slice (some ⟨g, 0, none⟩) (Ps.length + 1) c)).heap[k]? = w1.heap[k]? := by
  have h1 := h.below hb1
  obtain ⟨l1, l2, l3, l4⟩ := h1.lts
  obtain ⟨A, hA, hA0, hA1, hAo⟩ := h1.row
  have tb : ∀ q, pv.ownBlock = some q → TB w1 q 149 := fun q hq => own_TB h1.own hq
  have ne : ∀ {k : Nat} {o : Obj}, w1.heap[k]? = some o → (∀ cs fz, o ≠ .cells cs 149 fz) → ∀ q, pv.ownBlock = some q → k ≠ q := fun hk ho q hq e => by
    subst e
    obtain ⟨cs, fz, hq2⟩ := tb _ hq
    rw [hk] at hq2
    injection hq2 with e
    exact ho cs fz e
  have far : ∀ k, k < w1.heap.size → (∀ q, pv.ownBlock = some q → k ≠ q) → w2.heap[k]? = w1.heap[k]? := fun k hk hq => hg.block k hk (fun e => hq k e.symm rfl)
  have far2 : ∀ k, k < w1.heap.size → k ≠ rg → (∀ q, pv.ownBlock = some q → k ≠ q) → (w2.setCell ⟨rg, cap.r * 2, none⟩ (.slice (some ⟨g, 0, none⟩) (Ps.length + 1) c)).heap[k]? = w1.heap[k]? := fun k hk hr hq => (Below.heap_setCell _ _ _ _ hr).trans (far k hk hq)
  have hA2 : w2.heap[rg]? = some (.cells A 87 (0, 0)) := (far rg l2 (ne hA (fun cs fz e => by simp at e))).trans hA
  have heldT : ∀ T : TypeId → Prop, ¬ T 149 → ¬ T 87 → HeldT T w1 (w2.setCell ⟨rg, cap.r * 2, none⟩ (.slice (some ⟨g, 0, none⟩) (Ps.length + 1) c)) := fun T t1 t2 => (HeldT.of_grown hg (fun q hq => ⟨149, tb q hq, t1⟩)).trans (HeldT.set ⟨A, _, hA2⟩ t2 _)
  have held := heldT stuff (by simp [stuff]) (by simp [stuff])
  obtain ⟨es1, c1, m1⟩ := h1.given.map
  obtain ⟨es2, c2, m2⟩ := h1.files.map
  refine ⟨⟨h.lo, (far2 pb l1 (fun e => ?_) (ne h1.wb (fun cs fz e => by simp at e))).trans h1.wb, ⟨_, heap_setCell_same w2 rg (cap.r * 2) A 87 _ hA2, ?_, ?_, fun i hi => ?_⟩, h1.given.same (far2 gb l3 (fun e => ?_) (ne m1 (fun cs fz e => by cases e))), ?_, fun Q hQ => ?_, h1.files.same (far2 fb l4 (fun e => ?_) (ne m2 (fun cs fz e => by cases e))), h.ne, h.cap1, fun i hi => ?_⟩, heldT, far2⟩
  · have := h1.wb
    rw [e, hA] at this
    simp at this
  · have : cap.r * 2 < A.size := (Array.getElem?_eq_some_iff.1 hA0).1
    simp [this]
  · rw [Array.getElem?_setIfInBounds_ne (by omega)]
    exact hA1
  · have hir := hi.2
    rw [Array.getElem?_setIfInBounds_ne (by omega), Array.getElem?_setIfInBounds_ne (by omega)]
    exact hAo i hi
  · rw [e, hA] at m1
    cases m1
  · have e2 : pmCells (Ps ++ [P]) = pmCells Ps ++ [.int .u8 P.id.a, .int .u8 P.id.b, .int .u8 P.id.c, .int .u8 P.id.d, P.cv] := by simp [pmCells]
    rw [e2, List.length_append, List.length_singleton]
    refine hown.kept (w' := w2.setCell ⟨rg, cap.r * 2, none⟩ _) (row := some rg) ⟨rfl, rfl, rfl, by simp [World.setCell], fun k _ hne => Below.heap_setCell _ _ _ _ (fun e => hne (by rw [e]))⟩ (Or.inr ?_)
    intro e
    simp only [Value.ownBlock, Option.some.injEq] at e
    obtain ⟨cs, fz, hq⟩ := own_TB hown (g := g) rfl
    rw [e, hA2] at hq
    simp at hq
  · rcases List.mem_append.1 hQ with hQ | hQ
    · exact (h1.chs Q hQ).held held
    · rw [List.mem_singleton] at hQ
      subst hQ
      exact hP.held held
  · rw [e, hA] at m2
    cases m2
  · have hR := h1.oths i hi
    obtain ⟨es3, c3, m3⟩ := hR.files.map
    refine hR.same (far2 _ hR.files.lt (fun e => ?_) (ne m3 (fun cs fz e => by cases e))) (fun k hk => far2 k (hR.own.lt k hk).2 (fun e => ?_) (fun q hq e => hR.far k hk (by rw [hq, e]))) (fun Q hQ => (hR.chs Q hQ).held held) (fun k hk e => ?_)
    · rw [e, hA] at m3
      cases m3
    · obtain ⟨cs, fz, hq⟩ := own_TB hR.own hk
      rw [e, hA] at hq
      simp at hq
    · have eg : g = k := by simpa [Value.ownBlock] using e
      subst eg
      rcases hat with q | q
      · exact hR.far g hk q
      · have := (hR.own.lt g hk).2
        omega
end
end Go.Proofs.YtgdfipmdmgkidaaGreatDoor
/- A patch is recorded: of all names, where something differs. -/
namespace Go.Proofs.YtgdfipmdmgkidaaGreatDoor
open Go.RowKit
structure RecOK (f : ByteArray → Option ByteArray) (s : ByteArray → PL) : Prop where
  each : ∀ x, (f x).isSome = true ∨ (s x).alive = true → x.size ≤ 1000 ∧ (s x).S.length ≤ 9000 ∧ (rowText (s x).S).size ≤ 1000000000 ∧ FlOK s (flOf f x)
  few : ∀ K, Srt K → (∀ x, x ∈ K ↔ (f x).isSome = true ∨ (s x).alive = true) → K.length ≤ 50
def AllOf (f : ByteArray → Option ByteArray) (s : ByteArray → PL) (K : List ByteArray) : Prop := Srt K ∧ ∀ x, x ∈ K ↔ (f x).isSome = true ∨ (s x).alive = true
def chgOf (f : ByteArray → Option ByteArray) (s : ByteArray → PL) (K : List ByteArray) : List Fl := (K.filter (differs f s)).map (flOf f)
theorem own_texts {w : World} {B n c : Nat} {xa : Option Addr} {L : List ByteArray} (h : w.ownsRow B 9 1 (.slice xa n c) L.length (strs L)) : TextsAt w.heap.size w (.slice xa n c) L := by
  have hlt := h.lt
  have hc := fun g => World.ownsRow.cells h (g := g)
  rcases h.2 with ⟨h1, h0⟩ | ⟨g, cp, cur, h1, _⟩
  · cases h1
    exact .inl ⟨rfl, List.eq_nil_of_length_eq_zero h0⟩
  · cases h1
    refine .inr ⟨g, 0, c, rfl, (hlt g rfl).2, fun j hj => ?_⟩
    have := hc g rfl j (.string (L.getD j ByteArray.empty)) (by unfold strs; rw [List.getElem?_map, List.getElem?_eq_getElem hj, List.getD_eq_getElem?_getD, List.getElem?_eq_getElem hj]; rfl)
    rw [← this]
    cases j <;> simp [Addr.add]
section
variable {B pb rg : Nat} {cap : Cfg} {gb : Nat} {pv : Value} {Ps : List PM} {fb fn : Nat} {f : ByteArray → Option ByteArray} {G : List Pid} {st : Nat → Nat → ByteArray → PL} {cnt : Nat → Nat}
theorem OneAt.allNames {u : World} (h : OneAt u B pb rg cap gb pv Ps fb fn f G) (hfn : fn ≤ 1000) {mb n : Nat} {s : ByteArray → PL} (hT : TreeAt u mb s n) (hn : n ≤ 100000) :
    Calls Tryz.prog 112 #[.pointer (some ⟨rg, cap.r * 2, none⟩), .agg #[.map (some mb)]] u fun e w' => ∃ va vn vc L, e = .returned (.slice va vn vc) ∧ w'.ownsRow u.heap.size 9 1 (.slice va vn vc) L.length (strs L) ∧ (∀ x, x ∈ L ↔ (f x).isSome = true ∨ (s x).alive = true) ∧ L.length ≤ fn + n ∧ Below u.heap.size u w' := by
  refine (allNames89_any f fb fn rg (cap.r * 2) s mb n u h.files (by omega) h.r1 h.lts.2.1 hT hn).mono ?_
  rintro e w' ⟨v, L, rfl, h1, h2, h3, h4⟩
  obtain ⟨va, vc, rfl⟩ := own_shape h1
  exact ⟨va, _, vc, L, rfl, h1, h2, h3, h4⟩
theorem OneAt.changed {u : World} (h : OneAt u B pb rg cap gb pv Ps fb fn f G) {mb n : Nat} {s : ByteArray → PL} (hT : TreeAt u mb s n) (hn : n ≤ 100000) (hfn : fn ≤ 1000) (hok : RecOK f s) {va : Option Addr} {vn vc : Nat} {L : List ByteArray} {B' : Nat} (hL : u.ownsRow B' 9 1 (.slice va vn vc) L.length (strs L)) (hm : ∀ x, x ∈ L ↔ (f x).isSome = true ∨ (s x).alive = true) (hl : L.length ≤ fn + n) :
    Calls Tryz.prog 111 #[.pointer (some ⟨rg, cap.r * 2, none⟩), .agg #[.map (some mb)], .slice va vn vc] u fun e w' => ∃ xa xc K, e = .returned (.slice xa (chgOf f s K).length xc) ∧ FV w' (.slice xa (chgOf f s K).length xc) (chgOf f s K) ∧ AllOf f s K ∧ Below u.heap.size u w' := by
  refine (changed88_any f fb fn rg (cap.r * 2) s mb n va vn vc L u h.files h.r1 h.lts.2.1 hT (by omega) (own_texts hL) (by omega) (fun x hx => ?_)).mono ?_
  · obtain ⟨h1, h2, h3, _⟩ := hok.each x ((hm x).1 hx)
    exact ⟨h1, by omega, h3⟩
  · rintro e w' ⟨v, K, rfl, h1, h2, h3, h4⟩
    obtain ⟨xa, xc, rfl, h5⟩ := h1
    exact ⟨xa, xc, K, rfl, ⟨xa, xc, rfl, h5⟩, ⟨h2, fun x => by rw [h3, hm]⟩, h4⟩
theorem chg_ok {s : ByteArray → PL} (hok : RecOK f s) {K : List ByteArray} (hK : AllOf f s K) : (chgOf f s K).length ≤ 50 ∧ ∀ g ∈ chgOf f s K, FlOK s g := by
  constructor
  · unfold chgOf
    rw [List.length_map]
    exact Nat.le_trans (List.length_filter_le _ _) (hok.few K hK.1 hK.2)
  · intro g hg
    obtain ⟨x, hx, rfl⟩ := List.mem_map.1 hg
    exact (hok.each x ((hK.2 x).1 (List.mem_filter.1 hx).1)).2.2.2
end
end Go.Proofs.YtgdfipmdmgkidaaGreatDoor

/- The contract of record, of all names. -/
namespace Go.Proofs.YtgdfipmdmgkidaaGreatDoor
open Go.RowKit
theorem Tryz.info149 : (Tryz.prog.info? 149).map (fun i => (i.zero, i.size, i.bytes)) = some (some (.agg #[.int .u8 0, .int .u8 0, .int .u8 0, .int .u8 0, .slice none 0 0]), 5, 32) := by kernel_rfl
structure RecS (pb rg ro gb N M : Nat) (i : Pid) (pv cv : Value) (w' : World) : Prop where
  g : w'.cell? ⟨pb, 1, none⟩ = some (.map (some gb))
  r : w'.cell? ⟨rg, ro, none⟩ = some pv
  ia : w'.cell? ⟨N, 0, none⟩ = some (.int .u8 i.a)
  ib : w'.cell? ⟨N, 1, none⟩ = some (.int .u8 i.b)
  ic : w'.cell? ⟨N, 2, none⟩ = some (.int .u8 i.c)
  id : w'.cell? ⟨N, 3, none⟩ = some (.int .u8 i.d)
  pa : w'.cell? ⟨M, 0, none⟩ = some (.int .u8 i.a)
  pb : w'.cell? ⟨M, 1, none⟩ = some (.int .u8 i.b)
  pc : w'.cell? ⟨M, 2, none⟩ = some (.int .u8 i.c)
  pd : w'.cell? ⟨M, 3, none⟩ = some (.int .u8 i.d)
  pe : w'.cell? ⟨M, 4, none⟩ = some cv
theorem RecS.of {w : World} {B pb rg : Nat} {cap : Cfg} {gb : Nat} {pv : Value} {Ps : List PM} {fb fn : Nat} {f : ByteArray → Option ByteArray} {G : List Pid} {N M : Nat} {i : Pid} {cv : Value} (h : OneAt w B pb rg cap gb pv Ps fb fn f G) (h1 : w.heap[N]? = some (.cells #[.int .u8 i.a, .int .u8 i.b, .int .u8 i.c, .int .u8 i.d] 113 (0, 0))) (h2 : w.heap[M]? = some (.cells #[.int .u8 i.a, .int .u8 i.b, .int .u8 i.c, .int .u8 i.d, cv] 149 (0, 0))) : RecS pb rg (cap.r * 2) gb N M i pv cv w := by
  obtain ⟨a0, a1, a2, a3⟩ := cells4_at h1
  obtain ⟨b0, b1, b2, b3, b4⟩ := cells5_at h2
  exact ⟨h.c1, h.r0, a0, a1, a2, a3, b0, b1, b2, b3, b4⟩
end Go.Proofs.YtgdfipmdmgkidaaGreatDoor

/- The contract of record where nothing differs; of new. -/
namespace Go.Proofs.YtgdfipmdmgkidaaGreatDoor
open Go.RowKit
set_option maxRecDepth 100000 in
set_option maxHeartbeats 12800000 in
theorem record53_clean (B pb rg : Nat) (cap : Cfg) (gb : Nat) (pv : Value) (Ps : List PM) (fb fn : Nat) (f : ByteArray → Option ByteArray) (G : List Pid) (st : Nat → Nat → ByteArray → PL) (cnt : Nat → Nat) (i : Pid) (na : Option Addr) (nc : Nat) (w : World)
    (h : OneAt w B pb rg cap gb pv Ps fb fn f G) (hs : Stands Ps st cnt) (_hB : B ≤ w.heap.size) (hPs : Ps.length ≤ 40) (hfn : fn ≤ 1000) (hi : IdOK i) (hiG : i ∉ G) (hG : G.length < 40) (hok : RecOK f (st Ps.length 0))
    (hcl : ∀ K, AllOf f (st Ps.length 0) K → chgOf f (st Ps.length 0) K = []) :
    Calls Tryz.prog 72 #[.pointer (some ⟨pb, 0, none⟩), .pointer (some ⟨rg, cap.r * 2, none⟩), .agg #[.int .u8 i.a, .int .u8 i.b, .int .u8 i.c, .int .u8 i.d], .slice na 0 nc] w fun e w' =>
      e = .returned (.tuple #[.string ⟨#[]⟩, .int .i64 9]) ∧ Below w.heap.size w w' := by
  obtain ⟨s, hse⟩ : ∃ s, st Ps.length 0 = s := ⟨_, rfl⟩
  obtain ⟨w1, hw1⟩ : ∃ w1, w1 = w.alloc (.cells #[.int .u8 i.a, .int .u8 i.b, .int .u8 i.c, .int .u8 i.d] 113) := ⟨_, rfl⟩
  have hb1 : Below w.heap.size w w1 := by rw [hw1]; exact (Below.refl _ _).alloc (Nat.le_refl _) _
  have hk1 : w1.heap[w.heap.size]? = some (.cells #[.int .u8 i.a, .int .u8 i.b, .int .u8 i.c, .int .u8 i.d] 113 (0, 0)) := by rw [hw1]; exact (MapKept.heap_alloc w _).1
  have hs1 : w.heap.size < w1.heap.size := by rw [hw1]; simp
  have h1 := h.below hb1
  have HK : Hid (Calls Tryz.prog 77 #[.pointer (some ⟨rg, cap.r * 2, none⟩)] w1 fun e w' => ∃ mb n, e = .returned (.agg #[.map (some mb)]) ∧ TreeAt w' mb s n ∧ n ≤ 100000 ∧ w1.heap.size ≤ mb ∧ Below w1.heap.size w1 w') := by
    have := kept_any hs h1.view (by omega) h1.r0 h1.lts.2.1
    rw [hse] at this
    exact this
  rw [hse] at hok hcl
  have HH := hid h1
  have HK1 := hid hk1
  have HB1 := hid hb1
  have HSE := hid hse
  have HOK := hid hok
  have HCL := hid hcl
  clear h h1 hk1 hb1 hs hse hok hcl
  go_enter Tryz.func72, Tryz.ntmps72
  go_wp2_with fail
  rw [← hw1]
  clear hw1
  refine HK.out.mono ?_
  rintro e w2 ⟨mb, n, rfl, hT2, hn, hmb, hb2⟩
  clear HK
  obtain ⟨w3, hw3⟩ : ∃ w3, w3 = w2.alloc (.cells #[.map (some mb)] 121) := ⟨_, rfl⟩
  have hb23 : Below w2.heap.size w2 w3 := by rw [hw3]; exact (Below.refl _ _).alloc (Nat.le_refl _) _
  have hb13 : Below w1.heap.size w1 w3 := hb2.trans (hb23.mono hb2.size)
  have hk3 : w3.heap[w2.heap.size]? = some (.cells #[.map (some mb)] 121 (0, 0)) := by rw [hw3]; exact (MapKept.heap_alloc w2 _).1
  have hs3 : w2.heap.size < w3.heap.size := by rw [hw3]; simp
  have h3 := HH.out.below hb13
  have hgb1 : gb < w1.heap.size := HH.out.given.lt
  have hrg1 : rg < w1.heap.size := HH.out.lts.2.1
  have hpb1 : pb < w1.heap.size := HH.out.lts.1
  have hT3 := hT2.below hb23 (Nat.le_refl _)
  have HM : Hid (Calls Tryz.prog 125 #[.pointer (some ⟨pb, 0, none⟩), .pointer (some ⟨rg, cap.r * 2, none⟩), .agg #[.map (some mb)], .agg #[.int .u8 i.a, .int .u8 i.b, .int .u8 i.c, .int .u8 i.d], .slice na 0 nc] w3 fun e w' => e = .returned (.int .i64 0) ∧ Below w3.heap.size w3 w') := by
    refine (may97_any G gb pb f fb fn rg (cap.r * 2) s mb n i na 0 nc [] w3 h3.given hi h3.c1 h3.lts.1 h3.files h3.r1 h3.lts.2.1 hT3 hn (.inl rfl) rfl (by simp) (by simp)).mono ?_
    rintro e w' ⟨c, rfl, hR, hb⟩
    rcases hR with ⟨hh, _⟩ | ⟨_, hh, _⟩ | ⟨_, _, ⟨x, hx, _⟩, _⟩ | ⟨_, _, _, rfl⟩
    · exact absurd hh hiG
    · omega
    · cases hx
    · exact ⟨rfl, hb⟩
  have m0 : w3.cell? ⟨w2.heap.size, 0, none⟩ = some (.map (some mb)) := by simp [World.cell?, hk3]
  obtain ⟨q0, q1, q2, q3⟩ := cells4_at ((hb2.block _ hs1).trans HK1.out)
  have hs12 := hb2.size
  obtain ⟨qa0, qa1, qa2, qa3⟩ := cells4_at ((hb13.block _ hs1).trans HK1.out)
  rw [hw3] at qa0 qa1 qa2 qa3
  clear q0 q1 q2 q3
  have HK3 := hid hk3
  have HT3 := hid hT3
  have HH3 := hid h3
  have HB13 := hid hb13
  have hs13 := hb13.size
  clear hT2 hT3 h3 hk3 hb23 hb2 hb13 HH
  go_wp2_with fail
  rw [← hw3]
  clear hw3
  refine HM.out.mono ?_
  rintro e w4 ⟨rfl, hb4⟩
  clear HM
  have hk4 := (hb4.block _ hs3).trans HK3.out
  have m4 : w4.cell? ⟨w2.heap.size, 0, none⟩ = some (.map (some mb)) := by simp [World.cell?, hk4]
  have hs4 := hb4.size
  have HH4 := hid (HH3.out.below hb4)
  have HT4 : Hid (TreeAt w4 mb s n) := HT3.out.below hb4 (Nat.le_refl _)
  have HA := hid (HH4.out.allNames hfn HT4.out hn)
  clear qa0 qa1 qa2 qa3 m0
  go_wp2_with fail
  refine HA.out.mono ?_
  rintro e w5 ⟨va, vn, vc, L, rfl, hL5, hm5, hl5, hb5⟩
  clear HA
  have hk5 := (hb5.block _ (by omega)).trans hk4
  have m5 : w5.cell? ⟨w2.heap.size, 0, none⟩ = some (.map (some mb)) := by simp [World.cell?, hk5]
  have hs5 := hb5.size
  have HH5 := hid (HH4.out.below hb5)
  have HT5 : Hid (TreeAt w5 mb s n) := HT4.out.below hb5 (Nat.le_refl _)
  have HC := hid (HH5.out.changed HT5.out hn hfn HOK.out hL5 hm5 hl5)
  clear hL5 hm5 hl5 HH4 HT4 m4
  go_wp2_with fail
  refine HC.out.mono ?_
  rintro e w6 ⟨xa, xc, K, rfl, hF6, hK6, hb6⟩
  clear HC
  have hz6 := HCL.out K hK6
  have hz7 : (chgOf f s K).length = 0 := by rw [hz6]; rfl
  rw [hz7]
  have HB36 : Hid (Below w3.heap.size w3 w6) := (hb4.trans (hb5.mono hs4)).trans (hb6.mono (by omega))
  have HBZ : Hid (Below w.heap.size w w6) := HB1.out.trans ((HB13.out.mono (by omega)).trans (HB36.out.mono (by omega)))
  clear hF6 hz6 hz7 HB36
  go_wp2
  go_ret2
  exact ⟨rfl, HBZ.out⟩
end Go.Proofs.YtgdfipmdmgkidaaGreatDoor

/- The contract of the document's own test whether words are a command. -/
namespace Go.Proofs.YtgdfipmdmgkidaaGreatDoor
open Go.RowKit
def cmdB : List ByteArray → Bool
  | [] => false
  | t :: R => if t = wRecord then recB R else if t = wUnrecord ∨ t = wObliterate ∨ t = wShow ∨ t = wSwap then oneB R else if t = wPull then pullB R else if t = wRevert ∨ t = wNew ∨ t = wLog ∨ t = wOrder then R.isEmpty else false
theorem cmdB_record (R : List ByteArray) : cmdB (wRecord :: R) = recB R := by rw [cmdB, if_pos rfl]
theorem cmdB_one {t : ByteArray} (h : oneW t) (R : List ByteArray) : cmdB (t :: R) = oneB R := by
  rw [cmdB]
  rw [if_neg (by rcases h with rfl | rfl | rfl | rfl <;> decide)]
  exact if_pos h
theorem cmdB_pull (R : List ByteArray) : cmdB (wPull :: R) = pullB R := by
  rw [cmdB]
  rw [if_neg (by decide), if_neg (by decide), if_pos rfl]
theorem cmdB_none {t : ByteArray} (h : noneW t) (R : List ByteArray) : cmdB (t :: R) = R.isEmpty := by
  rw [cmdB]
  rw [if_neg (by rcases h with rfl | rfl | rfl | rfl <;> decide), if_neg (by rcases h with rfl | rfl | rfl | rfl <;> decide), if_neg (by rcases h with rfl | rfl | rfl | rfl <;> decide)]
  exact if_pos h
theorem other_ne {t : ByteArray} {l : List UInt8} (h : (t.toList == l) = false) : t ≠ ⟨l.toArray⟩ := by
  intro e
  rw [e, toList_data] at h
  simp at h
theorem cmdB_other {t : ByteArray} (h : otherW t) (R : List ByteArray) : cmdB (t :: R) = false := by
  have n : ∀ {l : List UInt8}, (t.toList == l) = false → t ≠ ⟨l.toArray⟩ := fun h => other_ne h
  rw [cmdB]
  rw [if_neg (n h.a), if_neg, if_neg (n h.f), if_neg]
  · rintro (e | e | e | e)
    · exact n h.g e
    · exact n h.h e
    · exact n h.i e
    · exact n h.j e
  · rintro (e | e | e | e)
    · exact n h.b e
    · exact n h.c e
    · exact n h.d e
    · exact n h.e e
theorem view_parts {w : World} {ao : Option Addr} {t : ByteArray} {R : List ByteArray} (h : View w ao (t :: R)) :
    ∃ b o, ao = some ⟨b, o, none⟩ ∧ b < w.heap.size ∧ w.cell? ⟨b, o, none⟩ = some (.string t) ∧ ∀ k, k < R.length → w.cell? ⟨b, o + 1 + k, none⟩ = some (.string (R.getD k ByteArray.empty)) := by
  rcases h with h | ⟨b, o, rfl, hb, hc⟩
  · simp at h
  · refine ⟨b, o, rfl, hb, hc 0 (by simp), fun k hk => ?_⟩
    have := hc (k + 1) (by simpa using hk)
    rw [show o + 1 + k = o + (k + 1) by omega]
    simpa using this
theorem cmd26_any (L : List ByteArray) (ao : Option Addr) (cap : Nat) (w : World) (hv : View w ao L) (hcap : L.length ≤ cap) (hlen : L.length ≤ 1000000) :
    Calls Tryz.prog 65 #[.slice ao L.length cap] w fun e w' => e = .returned (.bool (cmdB L)) ∧ Below w.heap.size w w' := by
  match L, hv, hcap, hlen with
  | [], _, _, _ => exact cmd26_empty ao cap w
  | t :: R, hv, hcap, hlen =>
    obtain ⟨b, o, rfl, hb, hc0, hcR⟩ := view_parts hv
    simp only [List.length_cons] at hcap hlen ⊢
    rcases words_all t with h | h | h | h | h
    · subst h; rw [cmdB_record]; exact cmd26_record R b o cap w hb hc0 hcR hcap (by omega)
    · rw [cmdB_one h]; exact cmd26_one t h R b o cap w hc0 hcR hcap (by omega)
    · subst h; rw [cmdB_pull]; exact cmd26_pull R b o cap w hb hc0 hcR hcap (by omega)
    · rw [cmdB_none h]; exact cmd26_none t h R b o cap w hc0 hcap (by omega)
    · rw [cmdB_other h]; exact cmd26_other t h R.length b o cap w hc0 hcap (by omega)
end Go.Proofs.YtgdfipmdmgkidaaGreatDoor
