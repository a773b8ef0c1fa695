/- The ids that were given. -/
import Derived.Test.YtgdfipmdmgkidaaGreatDoorPchgd
import Derived.DeepKeys3
import Derived.Test.YtgdfipmdmgkidaaGreatDoorPid
import Derived.BigRegion
namespace Go.Proofs.YtgdfipmdmgkidaaGreatDoor
open Go.RowKit Go.WideMaps

def idV (i : Pid) : Value := .agg #[.int .u8 i.a, .int .u8 i.b, .int .u8 i.c, .int .u8 i.d]
structure IdOK (i : Pid) : Prop where
  a : 0 ≤ i.a ∧ i.a < 256
  b : 0 ≤ i.b ∧ i.b < 256
  c : 0 ≤ i.c ∧ i.c < 256
  d : 0 ≤ i.d ∧ i.d < 256
def kid (i : Pid) : Lit := .string (keyBytes [.int .u8 i.a, .int .u8 i.b, .int .u8 i.c, .int .u8 i.d])
theorem cells110 : Tryz.prog.cellsOf 113 = 4 := by kernel_rfl
theorem u8_wf {n : Int} (h : 0 ≤ n ∧ n < 256) : (Lit.int .u8 n).wf = true := by
  have h1 : IntKind.u8.min = 0 := rfl
  have h2 : IntKind.u8.max = 255 := rfl
  simp only [Lit.wf, h1, h2, Bool.and_eq_true, decide_eq_true_eq]
  omega
theorem lits5 (d : Nat) {n : Int} (h : 0 ≤ n ∧ n < 256) : Tryz.prog.keyLits (d + 1) 5 [.int .u8 n] = some [.int .u8 n] := by
  simp [Program.keyLits, Tryz.underlying5, u8_wf h]
theorem lits110 (d : Nat) {i : Pid} (h : IdOK i) : Tryz.prog.keyLits (d + 1 + 1) 113 [.int .u8 i.a, .int .u8 i.b, .int .u8 i.c, .int .u8 i.d] = some [.int .u8 i.a, .int .u8 i.b, .int .u8 i.c, .int .u8 i.d] := by
  have r4 : List.range 4 = [0, 1, 2, 3] := rfl
  unfold Program.keyLits
  rw [Tryz.underlying113]
  simp only [cells110, List.length_cons, List.length_nil, Nat.reduceAdd, if_true, r4, Tryz.cells5, List.mapM_cons, List.mapM_nil, Nat.mul_one, List.drop_zero, List.drop_succ_cons, List.take_succ_cons, List.take_zero, lits5 d h.a, lits5 d h.b, lits5 d h.c, lits5 d h.d]
  rfl
theorem kid_of {i : Pid} (h : IdOK i) : keyOf Tryz.prog 113 (idV i) = some (kid i) := by
  have k1 : Tryz.prog.keyType 113 = true := by kernel_rfl
  have k2 : Tryz.prog.types.size + 1 = 411 + 1 + 1 := by kernel_rfl
  have k3 : (idV i).formed Tryz.prog 113 = true := by simp [idV, Value.formed, Tryz.underlying113, cells110]
  unfold keyOf
  rw [Tryz.underlying113]
  simp only [k1, k3, Bool.and_self, if_true]
  rw [k2]
  have e : (idV i).cells.toList = [.int .u8 i.a, .int .u8 i.b, .int .u8 i.c, .int .u8 i.d] := rfl
  rw [e, lits110 411 h]
  rfl
theorem idKeyed : Maps.Keyed Tryz.prog 113 := Maps.Keyed.of_law (deep_law (m := 2) (by omega) (by kernel_rfl) (by kernel_rfl) (by rw [Tryz.underlying113]))
theorem kid_inj {i j : Pid} (hi : IdOK i) (hj : IdOK j) (h : kid i = kid j) : i = j := by
  have h1 := kid_of hi
  rw [h] at h1
  have := idKeyed.inj h1 (kid_of hj)
  unfold idV at this
  simp at this
  cases i; cases j; simp_all
def unitV : Value := .agg #[]
theorem zero170 (w : World) : (zeroValue 174).run Tryz.prog w = .ok unitV w := by kernel_rfl

/-- Block gb is the map of the ids that were given. -/
structure GAt (w : World) (gb : Nat) (G : List Pid) : Prop where
  ex : ∃ D : DataW Value, w.ownsMap Tryz.prog 113 latElem gb (G.length) D ∧ (∀ i, IdOK i → (Maps.has D (kid i) = true ↔ i ∈ G)) ∧ (∀ l, D.atKey l (.held unitV) = .held unitV) ∧ Maps.size D = G.length
  ok : ∀ i ∈ G, IdOK i
theorem GAt.lt {w : World} {gb : Nat} {G : List Pid} (h : GAt w gb G) : gb < w.heap.size := by
  obtain ⟨D, h1, _⟩ := h.ex
  exact h1.lt
theorem GAt.map {w : World} {gb : Nat} {G : List Pid} (h : GAt w gb G) : ∃ es c, w.heap[gb]? = some (.map es c) := by
  obtain ⟨D, ⟨es, c, he, _⟩, _⟩ := h.ex
  exact ⟨es, c, he⟩
theorem GAt.same {w w' : World} {gb : Nat} {G : List Pid} (h : GAt w gb G) (hb : w'.heap[gb]? = w.heap[gb]?) : GAt w' gb G := by
  obtain ⟨D, ⟨es, clock, he, hr⟩, h2⟩ := h.ex
  exact ⟨⟨D, ⟨es, clock, hb.trans he, hr⟩, h2⟩, h.ok⟩
theorem GAt.made (w : World) : GAt (w.alloc (.map #[] 0)) w.heap.size [] := ⟨⟨.map [], World.ownsMap_made w _ _ _, fun i _ => by simp [Maps.has], fun _ => rfl, rfl⟩, by simp⟩
theorem GAt.look {w : World} {gb : Nat} {G : List Pid} (h : GAt w gb G) {i : Pid} (hi : IdOK i) : ∃ t, (Instr.lookup 80 (.map (some gb)) (idV i) true).run Tryz.prog w = .ok (.tuple #[unitV, .bool t]) w ∧ (t = true ↔ i ∈ G) := by
  obtain ⟨D, h1, h2, h3, _⟩ := h.ex
  obtain ⟨v, ps, hr, hv⟩ := h1.look_ok idKeyed Tryz.underlying80 (zero170 w) (show latElem unitV = some (.held unitV, []) from rfl) (kid_of hi)
  rw [h3] at hv
  exact ⟨_, by rw [hr, latElem_inv hv], h2 i hi⟩
theorem GAt.len {w : World} {gb : Nat} {G : List Pid} (h : GAt w gb G) (ty : TypeId) : (Builtin.len_ #[80] ty #[.map (some gb)]).run Tryz.prog w = .ok (.int .i64 G.length) w := by
  obtain ⟨D, h1, _, _, h4⟩ := h.ex
  rw [h1.len Tryz.underlying80, h4]
theorem GAt.put {w : World} {gb : Nat} {G : List Pid} (h : GAt w gb G) {i : Pid} (hi : IdOK i) (hG : G.length ≤ 1000) (hn : i ∉ G) :
    ∃ w', (Instr.mapUpdate 80 (.map (some gb)) (idV i) unitV).run Tryz.prog w = .ok () w' ∧ GAt w' gb (G ++ [i]) ∧ w.grownBy w' (some gb) := by
  obtain ⟨D, h1, h2, h3, h4⟩ := h.ex
  obtain ⟨w', hr, ho, hg⟩ := h1.update idKeyed Tryz.underlying80 (by unfold maxLen; omega) (kid_of hi) (show latElem unitV = some (.held unitV, []) from rfl)
  have hkl : WideAt.IsKeyLit (kid i) := trivial
  refine ⟨w', hr, ⟨⟨_, by simpa using ho, fun j hj => ?_, fun l => ?_, ?_⟩, fun j hj => ?_⟩, hg⟩
  · rw [List.mem_append, List.mem_singleton]
    by_cases e : j = i
    · subst e
      rw [Maps.has_put_same h1.isMap hkl]
      simp
    · rw [Maps.has_put_other (fun q => e (kid_inj hj hi q)), h2 j hj]
      simp [e]
  · by_cases e : l = kid i
    · subst e
      exact Maps.atKey_put_same h1.isMap hkl _ _
    · rw [Maps.atKey_put_other (fun q => e q)]
      exact h3 l
  · rw [Maps.size_put (h1.tidy idKeyed), h4]
    have : Maps.has D (kid i) = false := by
      cases e : Maps.has D (kid i)
      · rfl
      · exact absurd ((h2 i hi).1 e) hn
    rw [this]
    simp
  · rcases List.mem_append.1 hj with hj | hj
    · exact h.ok j hj
    · rw [List.mem_singleton] at hj
      subst hj
      exact hi
end Go.Proofs.YtgdfipmdmgkidaaGreatDoor

/- Whether a patch may be recorded. -/
namespace Go.Proofs.YtgdfipmdmgkidaaGreatDoor
open Go.RowKit

/-- The error of a record, but for ErrClean. -/
def MayR (G : List Pid) (f : ByteArray → Option ByteArray) (st : ByteArray → PL) (i : Pid) (L : List ByteArray) (c : Int) : Prop :=
  (i ∈ G ∧ c = 8) ∨ (i ∉ G ∧ 40 ≤ G.length ∧ c = 4) ∨ (i ∉ G ∧ G.length < 40 ∧ (∃ x ∈ L, (f x).isSome = false ∧ (st x).alive = false) ∧ c = 5) ∨ (i ∉ G ∧ G.length < 40 ∧ (∀ x ∈ L, (f x).isSome = true ∨ (st x).alive = true) ∧ c = 0)

theorem field114 (x : ByteArray) (b : Bool) (t : ByteArray) (W : World) : (Instr.field 118 (.agg #[.string x, .bool b, .string t]) 1).run Tryz.prog W = .ok (.bool b) W := by kernel_rfl
theorem keptFl_there (st : ByteArray → PL) (x : ByteArray) : (keptFl st x).there = (st x).alive := by
  unfold keptFl
  cases h : (st x).alive <;> simp

structure MayS (w2 : World) (pb gb N : Nat) (t : Bool) (i : Pid) (w' : World) : Prop where
  p : w'.cell? ⟨pb, 1, none⟩ = some (.map (some gb))
  a : w'.cell? ⟨N + 1, 0, none⟩ = some (.int .u8 i.a)
  b : w'.cell? ⟨N + 1, 1, none⟩ = some (.int .u8 i.b)
  c : w'.cell? ⟨N + 1, 2, none⟩ = some (.int .u8 i.c)
  d : w'.cell? ⟨N + 1, 3, none⟩ = some (.int .u8 i.d)
  look : (Instr.lookup 80 (.map (some gb)) (.agg #[.int .u8 i.a, .int .u8 i.b, .int .u8 i.c, .int .u8 i.d]) true).run Tryz.prog w' = .ok (.tuple #[.agg #[], .bool t]) w'
set_option maxRecDepth 100000 in
set_option maxHeartbeats 6400000 in
theorem may97_any (G : List Pid) (gb pb : Nat) (f : ByteArray → Option ByteArray) (fb fn rb ro : Nat) (st : ByteArray → PL) (mb n : Nat) (i : Pid) (na : Option Addr) (nn nc : Nat) (L : List ByteArray) (w : World) (hG : GAt w gb G) (hi : IdOK i) (hp : w.cell? ⟨pb, 1, none⟩ = some (.map (some gb))) (hpb : pb < w.heap.size)
    (hF : FK w fb f fn) (hr : w.cell? ⟨rb, ro + 1, none⟩ = some (.map (some fb))) (hrb : rb < w.heap.size) (hT : TreeAt w mb st n) (hn : n ≤ 100000)
    (hN : View w na L) (hnn : nn = L.length) (hL : L.length ≤ 100000) (hx : ∀ x ∈ L, x.size ≤ 1000 ∧ (st x).S.length ≤ 1000000 ∧ (rowText (st x).S).size ≤ 1000000000) :
    Calls Tryz.prog 125 #[.pointer (some ⟨pb, 0, none⟩), .pointer (some ⟨rb, ro, none⟩), .agg #[.map (some mb)], .agg #[.int .u8 i.a, .int .u8 i.b, .int .u8 i.c, .int .u8 i.d], .slice na nn nc] w fun e w' => ∃ c, e = .returned (.int .i64 c) ∧ MayR G f st i L c ∧ Below w.heap.size w w' := by
  obtain ⟨w2, hw2⟩ : ∃ w2, w2 = (w.alloc (.cells #[.map (some mb)] 121)).alloc (.cells #[.int .u8 i.a, .int .u8 i.b, .int .u8 i.c, .int .u8 i.d] 113) := ⟨_, rfl⟩
  obtain ⟨hb2, hs2, hk2, hf2⟩ := two_blocks' w _ _ hw2
  obtain ⟨p0, p1, p2, p3⟩ := cells4_at hf2
  have hgb := hG.lt
  have hG2 : GAt w2.drew gb G := hG.same (hb2.block gb hgb)
  have c1 : w2.cell? ⟨pb, 1, none⟩ = some (.map (some gb)) := (hb2.cell (p := ⟨pb, 1, none⟩) hpb).trans hp
  have hs2' : w.heap.size + 1 < w2.heap.size := by omega
  obtain ⟨t, hti, hlk⟩ : ∃ t : Bool, (t = true ↔ i ∈ G) ∧ ∀ u : World, u.heap[gb]? = w2.heap[gb]? → (Instr.lookup 80 (.map (some gb)) (.agg #[.int .u8 i.a, .int .u8 i.b, .int .u8 i.c, .int .u8 i.d]) true).run Tryz.prog u = .ok (.tuple #[.agg #[], .bool t]) u := by
    refine ⟨Classical.choose (hG2.look hi), (Classical.choose_spec (hG2.look hi)).2, fun u hu => ?_⟩
    obtain ⟨t', h1, h2⟩ := (hG2.same (w' := u) hu).look hi
    have e : t' = Classical.choose (hG2.look hi) := by
      have := (Classical.choose_spec (hG2.look hi)).2
      cases t' <;> cases hq : Classical.choose (hG2.look hi) <;> simp_all
    rw [← e]
    exact h1
  have HS2 : Hid (MayS w2 pb gb w.heap.size t i w2.drew) := ⟨c1, p0, p1, p2, p3, hlk w2.drew rfl⟩
  have HSA : Hid (∀ o, MayS w2 pb gb w.heap.size t i (w2.drew.alloc o)) := fun o => by
    have h0 := hb2.size
    have k : ∀ q : Addr, q.block < w2.heap.size → (w2.drew.alloc o).cell? q = w2.cell? q := fun q hq => (alloc_keep (w := w2.drew) o hq).1
    exact ⟨(k ⟨pb, 1, none⟩ (by show pb < _; omega)).trans c1, (k _ hs2').trans p0, (k _ hs2').trans p1, (k _ hs2').trans p2, (k _ hs2').trans p3, hlk _ (Below.heap_alloc w2.drew _ _ (by show gb < w2.heap.size; omega))⟩
  have HT : Hid (t = true ↔ i ∈ G) := hti
  clear hti hlk hG2 p0 p1 p2 p3
  go_enter Tryz.func125, Tryz.ntmps125
  go_wp2_with fail
  rw [← hw2]
  clear hw2
  refine wp_region_Z (MayS w2 pb gb w.heap.size t i) 99 (by kernel_rfl) ?_
  refine wpZ_take 0 _ (v := ?v0) rfl (by kernel_rfl) (by kernel_rfl) (by kernel_rfl) (fun _ _ _ h => h) (by kernel_rfl) (by decide) HS2.out rfl (fun w0 hS0 => ?hy) ?_
  case hy =>
    obtain ⟨s1, s2, s3, s4, s5, s6⟩ := hS0
    go_simp
    with_reducible rfl
  simp only [Act.put, List.setIfInBounds_toArray]
  refine wpZ_take 1 _ (v := ?v1) rfl (by kernel_rfl) (by kernel_rfl) (by kernel_rfl) (fun _ _ _ h => h) (by kernel_rfl) (by decide) HS2.out rfl (fun w0 hS0 => ?hy) ?_
  case hy =>
    obtain ⟨s1, s2, s3, s4, s5, s6⟩ := hS0
    go_simp
    with_reducible rfl
  simp only [Act.put]
  refine wpZ_take 2 _ (v := ?v2) rfl (by kernel_rfl) (by kernel_rfl) (by kernel_rfl) (fun _ _ _ h => h) (by kernel_rfl) (by decide) HS2.out rfl (fun w0 hS0 => ?hy) ?_
  case hy =>
    obtain ⟨s1, s2, s3, s4, s5, s6⟩ := hS0
    go_simp
    with_reducible rfl
  simp only [Act.put]
  refine wpZ_take 3 _ (v := ?v3) rfl (by kernel_rfl) (by kernel_rfl) (by kernel_rfl) (fun _ _ _ h => h) (by kernel_rfl) (by decide) HS2.out rfl (fun w0 hS0 => ?hy) ?_
  case hy =>
    obtain ⟨s1, s2, s3, s4, s5, s6⟩ := hS0
    go_simp
    with_reducible rfl
  simp only [Act.put]
  refine wpZ_take 4 _ (v := ?v4) rfl (by kernel_rfl) (by kernel_rfl) (by kernel_rfl) (fun _ _ _ h => h) (by kernel_rfl) (by decide) HS2.out rfl (fun w0 hS0 => ?hy) ?_
  case hy =>
    obtain ⟨s1, s2, s3, s4, s5, s6⟩ := hS0
    go_simp
    with_reducible rfl
  simp only [Act.put]
  refine wpZ_take 5 _ (v := ?v5) rfl (by kernel_rfl) (by kernel_rfl) (by kernel_rfl) (fun _ _ _ h => h) (by kernel_rfl) (by decide) HS2.out rfl (fun w0 hS0 => ?hy) ?_
  case hy =>
    obtain ⟨s1, s2, s3, s4, s5, s6⟩ := hS0
    go_simp
    with_reducible rfl
  simp only [Act.put]
  refine wpZ_take 6 _ (v := ?v6) rfl (by kernel_rfl) (by kernel_rfl) (by kernel_rfl) (fun _ _ _ h => h) (by kernel_rfl) (by decide) HS2.out rfl (fun w0 hS0 => ?hy) ?_
  case hy =>
    obtain ⟨s1, s2, s3, s4, s5, s6⟩ := hS0
    go_simp
    with_reducible rfl
  simp only [Act.put]
  refine wpZ_take 7 _ (v := ?v7) rfl (by kernel_rfl) (by kernel_rfl) (by kernel_rfl) (fun _ _ _ h => h) (by kernel_rfl) (by decide) HS2.out rfl (fun w0 hS0 => ?hy) ?_
  case hy =>
    obtain ⟨s1, s2, s3, s4, s5, s6⟩ := hS0
    go_simp
    with_reducible rfl
  simp only [Act.put]
  refine wpZ_take 8 _ (v := ?v8) rfl (by kernel_rfl) (by kernel_rfl) (by kernel_rfl) (fun _ _ _ h => h) (by kernel_rfl) (by decide) HS2.out rfl (fun w0 hS0 => ?hy) ?_
  case hy =>
    obtain ⟨s1, s2, s3, s4, s5, s6⟩ := hS0
    go_simp
    with_reducible rfl
  simp only [Act.put]
  refine wpZ_one 9 _ rfl (by kernel_rfl) (fun KK hK => ?_)
  go_simp
  refine hK.out _ _ (fun _ => HSA.out _) ?_
  clear hK
  refine wpZ_one 10 _ rfl (by kernel_rfl) (fun KK hK => ?_)
  go_simp
  refine hK.out _ _ (fun _ => HSA.out _) ?_
  clear hK
  refine wpZ_one 11 _ rfl (by kernel_rfl) (fun KK hK => ?_)
  go_simp
  refine hK.out _ _ (fun _ => HSA.out _) ?_
  clear hK
  refine wpZ_done (by kernel_rfl) ?_ _
  clear HSA HS2
  obtain ⟨w3, hw3⟩ : ∃ w3, w3 = (w2.alloc (.cells #[] 174)).drew := ⟨_, rfl⟩
  have hb3 : Below w.heap.size w w3 := by rw [hw3]; exact (hb2.alloc (by omega) _).drew
  have hb23 : Below w2.heap.size w2 w3 := by rw [hw3]; exact ((Below.refl _ _).alloc (Nat.le_refl _) _).drew
  have hk3 := (hb23.block _ (by omega)).trans hk2
  rw [← hw3]
  clear hw3
  cases t
  · have hni : i ∉ G := fun h => by have := HT.out.2 h; cases this
    have c3 : w3.cell? ⟨pb, 1, none⟩ = some (.map (some gb)) := (hb3.cell (p := ⟨pb, 1, none⟩) hpb).trans hp
    have hG3 : GAt w3 gb G := hG.same (hb3.block gb hgb)
    have hlen : (Builtin.len_ #[80] 3 #[.map (some gb)]).run Tryz.prog w3 = .ok (.int .i64 G.length) w3 := hG3.len 3
    by_cases h40 : 40 ≤ G.length
    · have HR : Hid (MayR G f st i L 4) := .inr (.inl ⟨hni, h40, rfl⟩)
      clear hni HT
      go_wp2
      go_ret
      exact ⟨4, rfl, HR.out, hb3⟩
    · have h40' : ((G.length : Int) ≥ 40) = False := by simp; omega
      have h40b : decide ((40 : Int) ≤ (G.length : Int)) = false := by simp; omega
      have hGl : G.length < 40 := by omega
      subst hnn
      have hvw := hN
      have HVW : Hid (View w3 na L) := View.below (hvw) (hb3)
      have HFI : Hid (∀ u x, Below w3.heap.size w3 u → x.size ≤ 1000 → Calls Tryz.prog 179 #[.pointer (some ⟨rb, ro, none⟩), .string x] u fun e w' => e = .returned (.agg #[.string x, .bool (f x).isSome, .string ((f x).getD ⟨#[]⟩)]) ∧ Below u.heap.size u w') := fun u x hu hx' => by
        have hs3 := hb3.size
        have hub : Below w.heap.size w u := hb3.trans (hu.mono hs3)
        exact file142_any f fb fn rb ro x (by omega) u (hF.same (hub.block fb hF.lt)) ((hub.cell (p := ⟨rb, ro + 1, none⟩) hrb).trans hr) (by have := hub.size; omega)
      have HKF : Hid (∀ u x, Below w3.heap.size w3 u → x ∈ L → Calls Tryz.prog 78 #[.agg #[.map (some mb)], .string x] u fun e w' => e = .returned (.agg #[.string (keptFl st x).name, .bool (st x).alive, .string (keptFl st x).text]) ∧ Below u.heap.size u w') := fun u x hu hx' => by
        have hs3 := hb3.size
        have hub : Below w.heap.size w u := hb3.trans (hu.mono hs3)
        have := file55_any st mb n x (by have := (hx x hx').1; omega) u (hT.below hub (Nat.le_refl _)) (by omega) (hx x hx').2.1 (hx x hx').2.2
        rw [keptPL_fl] at this
        unfold flV at this
        rw [keptFl_there] at this
        exact this
      have HNX : Hid (∀ x ∈ L, x.size ≤ 1000) := fun x h => (hx x h).1
      have HNI : Hid (i ∉ G) := hni
      have HB3 : Hid (Below w.heap.size w w3) := hb3
      have HK3 : Hid (w3.heap[w.heap.size]? = some (.cells #[.map (some mb)] 121 (0, 0))) := hk3
      have hs3 : w.heap.size < w3.heap.size := by have := hb23.size; omega
      have f1 := field114
      clear hG hF hT hx hni HT hvw hb3 hG3 hk3 hb23 hb2 hk2 hf2 h40 h40'
      go_wp2
      go_loopw [33] (fun x wr => ∃ k : Nat, k ≤ L.length ∧ x = .int .i64 k ∧ Hid (∀ j, j < k → ∀ y, L[j]? = some y → (f y).isSome = true ∨ (st y).alive = true) ∧ Below w3.heap.size w3 wr) (fun x _ => L.length - (intOf x).toNat)
      case atStart => exact ⟨0, Nat.zero_le _, rfl, fun j hj => absurd hj (Nat.not_lt_zero _), Below.refl _ _⟩
      case round =>
        obtain ⟨k, hk, rfl, HO, hbw⟩ := hrel
        have hsw := hbw.size
        by_cases hlt : k < L.length
        · obtain ⟨x, hxk⟩ : ∃ x, L[k]? = some x := ⟨_, List.getElem?_eq_getElem hlt⟩
          have hxL : x ∈ L := List.mem_of_getElem? hxk
          have hgd : L.getD k ByteArray.empty = x := by rw [List.getD_eq_getElem?_getD, hxk]; rfl
          have hxs := HNX.out x hxL
          obtain ⟨b, o, rfl, hb, hcl⟩ := HVW.out.resolve_left (by omega)
          have c0 : wr.cell? ⟨b, o + k, none⟩ = some (.string x) := by rw [← hgd]; exact (hbw.cell (p := ⟨b, o + k, none⟩) hb).trans (hcl k hlt)
          have HF1 : Hid (Calls Tryz.prog 179 #[.pointer (some ⟨rb, ro, none⟩), .string x] wr fun e w' => e = .returned (.agg #[.string x, .bool (f x).isSome, .string ((f x).getD ⟨#[]⟩)]) ∧ Below wr.heap.size wr w') := HFI.out wr x hbw hxs
          have HXK : Hid (L[k]? = some x) := hxk
          have HXM : Hid (x ∈ L) := hxL
          obtain ⟨tx, htx⟩ : ∃ tx, (f x).getD ⟨#[]⟩ = tx := ⟨_, rfl⟩
          rw [htx] at HF1
          cases hth : (f x).isSome
          · rw [hth] at HF1
            have HTH : Hid ((f x).isSome = false) := hth
            clear hcl hgd hxk htx hth hxL
            go_wp2_with fail
            refine HF1.out.mono ?_
            rintro e w5 ⟨rfl, hb5⟩
            clear HF1
            have hbw5 : Below w3.heap.size w3 w5 := hbw.trans (hb5.mono hsw)
            have hx5 : w5.heap[w.heap.size]? = some (.cells #[.map (some mb)] 121 (0, 0)) := (hbw5.block _ hs3).trans HK3.out
            have s0 : w5.cell? ⟨w.heap.size, 0, none⟩ = some (.map (some mb)) := by simp [World.cell?, hx5]
            have HKC : Hid (Calls Tryz.prog 78 #[.agg #[.map (some mb)], .string x] w5 fun e w' => e = .returned (.agg #[.string (keptFl st x).name, .bool (st x).alive, .string (keptFl st x).text]) ∧ Below w5.heap.size w5 w') := HKF.out w5 x hbw5 HXM.out
            have hs5 := hbw5.size
            clear hx5 hb5 hbw c0
            obtain ⟨kn, hkn⟩ : ∃ kn, (keptFl st x).name = kn := ⟨_, rfl⟩
            obtain ⟨kt, hkt⟩ : ∃ kt, (keptFl st x).text = kt := ⟨_, rfl⟩
            rw [hkn, hkt] at HKC
            clear hkn hkt
            cases hal : (st x).alive
            · rw [hal] at HKC
              have HR : Hid (MayR G f st i L 5) := .inr (.inr (.inl ⟨HNI.out, hGl, ⟨x, HXM.out, HTH.out, hal⟩, rfl⟩))
              clear hal HTH HXK HXM
              go_wp2_with fail
              refine HKC.out.mono ?_
              rintro e w6 ⟨rfl, hb6⟩
              clear HKC
              have hbw6 : Below w.heap.size w w6 := HB3.out.trans ((hbw5.trans (hb6.mono hs5)).mono (by omega))
              go_wp2
              go_ret
              exact ⟨5, rfl, HR.out, hbw6⟩
            · rw [hal] at HKC
              have HO2 : Hid (∀ j, j < k + 1 → ∀ y, L[j]? = some y → (f y).isSome = true ∨ (st y).alive = true) := fun j hj y hy => by
                by_cases e : j = k
                · subst e
                  rw [HXK.out] at hy
                  cases hy
                  exact .inr hal
                · exact HO.out j (by omega) y hy
              clear hal HTH HXK HXM HO
              go_wp2_with fail
              refine HKC.out.mono ?_
              rintro e w6 ⟨rfl, hb6⟩
              clear HKC
              have hbw6 : Below w3.heap.size w3 w6 := hbw5.trans (hb6.mono hs5)
              go_wp2
              go_roundw
              case rel => exact ⟨k + 1, by omega, by go_num, HO2, hbw6⟩
              case measure => simp [intOf]; omega
          · rw [hth] at HF1
            have HO2 : Hid (∀ j, j < k + 1 → ∀ y, L[j]? = some y → (f y).isSome = true ∨ (st y).alive = true) := fun j hj y hy => by
              by_cases e : j = k
              · subst e
                rw [HXK.out] at hy
                cases hy
                exact .inl hth
              · exact HO.out j (by omega) y hy
            clear hcl hgd hxk htx hth hxL HXK HXM HO
            go_wp2_with fail
            refine HF1.out.mono ?_
            rintro e w5 ⟨rfl, hb5⟩
            clear HF1
            have hbw5 : Below w3.heap.size w3 w5 := hbw.trans (hb5.mono hsw)
            clear hb5 hbw c0
            go_wp2
            go_roundw
            case rel => exact ⟨k + 1, by omega, by go_num, HO2, hbw5⟩
            case measure => simp [intOf]; omega
        · obtain rfl : k = L.length := by omega
          have HR : Hid (MayR G f st i L 0) := .inr (.inr (.inr ⟨HNI.out, hGl, fun x hx => by
            obtain ⟨j, hj⟩ := List.mem_iff_getElem?.1 hx
            exact HO.out j (List.getElem?_eq_some_iff.1 hj).1 x hj, rfl⟩))
          have hbw6 : Below w.heap.size w wr := HB3.out.trans (hbw.mono (by omega))
          clear HO hbw
          go_wp2
          go_ret
          exact ⟨0, rfl, HR.out, hbw6⟩
  · have HR : Hid (MayR G f st i L 8) := .inl ⟨HT.out.1 rfl, rfl⟩
    clear HT
    go_wp2
    go_ret
    exact ⟨8, rfl, HR.out, hb3⟩
end Go.Proofs.YtgdfipmdmgkidaaGreatDoor
