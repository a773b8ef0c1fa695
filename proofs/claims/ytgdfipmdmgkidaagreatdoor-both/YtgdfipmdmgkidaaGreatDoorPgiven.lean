/- The ids that were given. -/
import Derived.Test.YtgdfipmdmgkidaaGreatDoorPallnm
import Derived.DeepKeys3
import Derived.Test.YtgdfipmdmgkidaaGreatDoorPmake
import Derived.BigRegion
import Derived.Test.YtgdfipmdmgkidaaGreatDoorPnames
import Derived.Test.YtgdfipmdmgkidaaGreatDoorPeq
import Derived.Test.YtgdfipmdmgkidaaGreatDoorPgaps
namespace Go.Proofs.YtgdfipmdmgkidaaGreatDoor
open Go.RowKit Go.WideMaps
def idV (i : Pid) : Value := .agg #[.int .u8 i.a, .int .u8 i.b, .int .u8 i.c, .int .u8 i.d]
structure IdOK (i : Pid) : Prop where
  a : 0 ≤ i.a ∧ i.a < 256
  b : 0 ≤ i.b ∧ i.b < 256
  c : 0 ≤ i.c ∧ i.c < 256
  d : 0 ≤ i.d ∧ i.d < 256
def kid (i : Pid) : Lit := .string (keyBytes [.int .u8 i.a, .int .u8 i.b, .int .u8 i.c, .int .u8 i.d])
theorem cells110 : Tryz.prog.cellsOf 113 = 4 := by kernel_rfl
theorem u8_wf {n : Int} (h : 0 ≤ n ∧ n < 256) : (Lit.int .u8 n).wf = true := by
  have h1 : IntKind.u8.min = 0 := rfl
  have h2 : IntKind.u8.max = 255 := rfl
  simp only [Lit.wf, h1, h2, Bool.and_eq_true, decide_eq_true_eq]
  omega
theorem lits5 (d : Nat) {n : Int} (h : 0 ≤ n ∧ n < 256) : Tryz.prog.keyLits (d + 1) 5 [.int .u8 n] = some [.int .u8 n] := by
  simp [Program.keyLits, Tryz.underlying5, u8_wf h]
theorem lits110 (d : Nat) {i : Pid} (h : IdOK i) : Tryz.prog.keyLits (d + 1 + 1) 113 [.int .u8 i.a, .int .u8 i.b, .int .u8 i.c, .int .u8 i.d] = some [.int .u8 i.a, .int .u8 i.b, .int .u8 i.c, .int .u8 i.d] := by
  have r4 : List.range 4 = [0, 1, 2, 3] := rfl
  unfold Program.keyLits
  rw [Tryz.underlying113]
  simp only [cells110, List.length_cons, List.length_nil, Nat.reduceAdd, if_true, r4, Tryz.cells5, List.mapM_cons, List.mapM_nil, Nat.mul_one, List.drop_zero, List.drop_succ_cons, List.take_succ_cons, List.take_zero, lits5 d h.a, lits5 d h.b, lits5 d h.c, lits5 d h.d]
  rfl
theorem kid_of {i : Pid} (h : IdOK i) : keyOf Tryz.prog 113 (idV i) = some (kid i) := by
  have k1 : Tryz.prog.keyType 113 = true := by kernel_rfl
  have k2 : Tryz.prog.types.size + 1 = 411 + 1 + 1 := by kernel_rfl
  have k3 : (idV i).formed Tryz.prog 113 = true := by simp [idV, Value.formed, Tryz.underlying113, cells110]
  unfold keyOf
  rw [Tryz.underlying113]
  simp only [k1, k3, Bool.and_self, if_true]
  rw [k2]
  have e : (idV i).cells.toList = [.int .u8 i.a, .int .u8 i.b, .int .u8 i.c, .int .u8 i.d] := rfl
  rw [e, lits110 411 h]
  rfl
theorem idKeyed : Maps.Keyed Tryz.prog 113 := Maps.Keyed.of_law (deep_law (m := 2) (by omega) (by kernel_rfl) (by kernel_rfl) (by rw [Tryz.underlying113]))
theorem kid_inj {i j : Pid} (hi : IdOK i) (hj : IdOK j) (h : kid i = kid j) : i = j := by
  have h1 := kid_of hi
  rw [h] at h1
  have := idKeyed.inj h1 (kid_of hj)
  unfold idV at this
  simp at this
  cases i; cases j; simp_all
def unitV : Value := .agg #[]
theorem zero170 (w : World) : (zeroValue 174).run Tryz.prog w = .ok unitV w := by kernel_rfl
structure GAt (w : World) (gb : Nat) (G : List Pid) : Prop where
  ex : ∃ D : DataW Value, w.ownsMap Tryz.prog 113 latElem gb (G.length) D ∧ (∀ i, IdOK i → (Maps.has D (kid i) = true ↔ i ∈ G)) ∧ (∀ l, D.atKey l (.held unitV) = .held unitV) ∧ Maps.size D = G.length
  ok : ∀ i ∈ G, IdOK i
theorem GAt.lt {w : World} {gb : Nat} {G : List Pid} (h : GAt w gb G) : gb < w.heap.size := by
  obtain ⟨D, h1, _⟩ := h.ex
  exact h1.lt
theorem GAt.map {w : World} {gb : Nat} {G : List Pid} (h : GAt w gb G) : ∃ es c, w.heap[gb]? = some (.map es c) := by
  obtain ⟨D, ⟨es, c, he, _⟩, _⟩ := h.ex
  exact ⟨es, c, he⟩
theorem GAt.same {w w' : World} {gb : Nat} {G : List Pid} (h : GAt w gb G) (hb : w'.heap[gb]? = w.heap[gb]?) : GAt w' gb G := by
  obtain ⟨D, ⟨es, clock, he, hr⟩, h2⟩ := h.ex
  exact ⟨⟨D, ⟨es, clock, hb.trans he, hr⟩, h2⟩, h.ok⟩
theorem GAt.made (w : World) : GAt (w.alloc (.map #[] 0)) w.heap.size [] := ⟨⟨.map [], World.ownsMap_made w _ _ _, fun i _ => by simp [Maps.has], fun _ => rfl, rfl⟩, by simp⟩
theorem GAt.look {w : World} {gb : Nat} {G : List Pid} (h : GAt w gb G) {i : Pid} (hi : IdOK i) : ∃ t, (Instr.lookup 80 (.map (some gb)) (idV i) true).run Tryz.prog w = .ok (.tuple #[unitV, .bool t]) w ∧ (t = true ↔ i ∈ G) := by
  obtain ⟨D, h1, h2, h3, _⟩ := h.ex
  obtain ⟨v, ps, hr, hv⟩ := h1.look_ok idKeyed Tryz.underlying80 (zero170 w) (show latElem unitV = some (.held unitV, []) from rfl) (kid_of hi)
  rw [h3] at hv
  exact ⟨_, by rw [hr, latElem_inv hv], h2 i hi⟩
theorem GAt.len {w : World} {gb : Nat} {G : List Pid} (h : GAt w gb G) (ty : TypeId) : (Builtin.len_ #[80] ty #[.map (some gb)]).run Tryz.prog w = .ok (.int .i64 G.length) w := by
  obtain ⟨D, h1, _, _, h4⟩ := h.ex
  rw [h1.len Tryz.underlying80, h4]
theorem GAt.put {w : World} {gb : Nat} {G : List Pid} (h : GAt w gb G) {i : Pid} (hi : IdOK i) (hG : G.length ≤ 1000) (hn : i ∉ G) :
    ∃ w', (Instr.mapUpdate 80 (.map (some gb)) (idV i) unitV).run Tryz.prog w = .ok () w' ∧ GAt w' gb (G ++ [i]) ∧ w.grownBy w' (some gb) := by
  obtain ⟨D, h1, h2, h3, h4⟩ := h.ex
  obtain ⟨w', hr, ho, hg⟩ := h1.update idKeyed Tryz.underlying80 (by unfold maxLen; omega) (kid_of hi) (show latElem unitV = some (.held unitV, []) from rfl)
  have hkl : WideAt.IsKeyLit (kid i) := trivial
  refine ⟨w', hr, ⟨⟨_, by simpa using ho, fun j hj => ?_, fun l => ?_, ?_⟩, fun j hj => ?_⟩, hg⟩
  · rw [List.mem_append, List.mem_singleton]
    by_cases e : j = i
    · subst e
      rw [Maps.has_put_same h1.isMap hkl]
      simp
    · rw [Maps.has_put_other (fun q => e (kid_inj hj hi q)), h2 j hj]
      simp [e]
  · by_cases e : l = kid i
    · subst e
      exact Maps.atKey_put_same h1.isMap hkl _ _
    · rw [Maps.atKey_put_other (fun q => e q)]
      exact h3 l
  · rw [Maps.size_put (h1.tidy idKeyed), h4]
    have : Maps.has D (kid i) = false := by
      cases e : Maps.has D (kid i)
      · rfl
      · exact absurd ((h2 i hi).1 e) hn
    rw [this]
    simp
  · rcases List.mem_append.1 hj with hj | hj
    · exact h.ok j hj
    · rw [List.mem_singleton] at hj
      subst hj
      exact hi
end Go.Proofs.YtgdfipmdmgkidaaGreatDoor
/- Whether a patch may be recorded. -/
namespace Go.Proofs.YtgdfipmdmgkidaaGreatDoor
open Go.RowKit
def MayR (G : List Pid) (f : ByteArray → Option ByteArray) (st : ByteArray → PL) (i : Pid) (L : List ByteArray) (c : Int) : Prop :=
  (i ∈ G ∧ c = 8) ∨ (i ∉ G ∧ 40 ≤ G.length ∧ c = 4) ∨ (i ∉ G ∧ G.length < 40 ∧ (∃ x ∈ L, (f x).isSome = false ∧ (st x).alive = false) ∧ c = 5) ∨ (i ∉ G ∧ G.length < 40 ∧ (∀ x ∈ L, (f x).isSome = true ∨ (st x).alive = true) ∧ c = 0)
theorem field114 (x : ByteArray) (b : Bool) (t : ByteArray) (W : World) : (Instr.field 118 (.agg #[.string x, .bool b, .string t]) 1).run Tryz.prog W = .ok (.bool b) W := by kernel_rfl
theorem keptFl_there (st : ByteArray → PL) (x : ByteArray) : (keptFl st x).there = (st x).alive := by
  unfold keptFl
  cases h : (st x).alive <;> simp
structure MayS (w2 : World) (pb gb N : Nat) (t : Bool) (i : Pid) (w' : World) : Prop where
  p : w'.cell? ⟨pb, 1, none⟩ = some (.map (some gb))
  a : w'.cell? ⟨N + 1, 0, none⟩ = some (.int .u8 i.a)
  b : w'.cell? ⟨N + 1, 1, none⟩ = some (.int .u8 i.b)
  c : w'.cell? ⟨N + 1, 2, none⟩ = some (.int .u8 i.c)
  d : w'.cell? ⟨N + 1, 3, none⟩ = some (.int .u8 i.d)
  look : (Instr.lookup 80 (.map (some gb)) (.agg #[.int .u8 i.a, .int .u8 i.b, .int .u8 i.c, .int .u8 i.d]) true).run Tryz.prog w' = .ok (.tuple #[.agg #[], .bool t]) w'
set_option maxRecDepth 100000 in
set_option maxHeartbeats 6400000 in
theorem may97_any (G : List Pid) (gb pb : Nat) (f : ByteArray → Option ByteArray) (fb fn rb ro : Nat) (st : ByteArray → PL) (mb n : Nat) (i : Pid) (na : Option Addr) (nn nc : Nat) (L : List ByteArray) (w : World) (hG : GAt w gb G) (hi : IdOK i) (hp : w.cell? ⟨pb, 1, none⟩ = some (.map (some gb))) (hpb : pb < w.heap.size)
    (hF : FK w fb f fn) (hr : w.cell? ⟨rb, ro + 1, none⟩ = some (.map (some fb))) (hrb : rb < w.heap.size) (hT : TreeAt w mb st n) (hn : n ≤ 100000)
    (hN : View w na L) (hnn : nn = L.length) (hL : L.length ≤ 100000) (hx : ∀ x ∈ L, x.size ≤ 1000 ∧ (st x).S.length ≤ 1000000 ∧ (rowText (st x).S).size ≤ 1000000000) :
    Calls Tryz.prog 125 #[.pointer (some ⟨pb, 0, none⟩), .pointer (some ⟨rb, ro, none⟩), .agg #[.map (some mb)], .agg #[.int .u8 i.a, .int .u8 i.b, .int .u8 i.c, .int .u8 i.d], .slice na nn nc] w fun e w' => ∃ c, e = .returned (.int .i64 c) ∧ MayR G f st i L c ∧ Below w.heap.size w w' := by
  obtain ⟨w2, hw2⟩ : ∃ w2, w2 = (w.alloc (.cells #[.map (some mb)] 121)).alloc (.cells #[.int .u8 i.a, .int .u8 i.b, .int .u8 i.c, .int .u8 i.d] 113) := ⟨_, rfl⟩
  obtain ⟨hb2, hs2, hk2, hf2⟩ := two_blocks' w _ _ hw2
  obtain ⟨p0, p1, p2, p3⟩ := cells4_at hf2
  have hgb := hG.lt
  have hG2 : GAt w2.drew gb G := hG.same (hb2.block gb hgb)
  have c1 : w2.cell? ⟨pb, 1, none⟩ = some (.map (some gb)) := (hb2.cell (p := ⟨pb, 1, none⟩) hpb).trans hp
  have hs2' : w.heap.size + 1 < w2.heap.size := by omega
  obtain ⟨t, hti, hlk⟩ : ∃ t : Bool, (t = true ↔ i ∈ G) ∧ ∀ u : World, u.heap[gb]? = w2.heap[gb]? → (Instr.lookup 80 (.map (some gb)) (.agg #[.int .u8 i.a, .int .u8 i.b, .int .u8 i.c, .int .u8 i.d]) true).run Tryz.prog u = .ok (.tuple #[.agg #[], .bool t]) u := by
    refine ⟨Classical.choose (hG2.look hi), (Classical.choose_spec (hG2.look hi)).2, fun u hu => ?_⟩
    obtain ⟨t', h1, h2⟩ := (hG2.same (w' := u) hu).look hi
    have e : t' = Classical.choose (hG2.look hi) := by
      have := (Classical.choose_spec (hG2.look hi)).2
      cases t' <;> cases hq : Classical.choose (hG2.look hi) <;> simp_all
    rw [← e]
    exact h1
  have HS2 : Hid (MayS w2 pb gb w.heap.size t i w2.drew) := ⟨c1, p0, p1, p2, p3, hlk w2.drew rfl⟩
  have HSA : Hid (∀ o, MayS w2 pb gb w.heap.size t i (w2.drew.alloc o)) := fun o => by
    have h0 := hb2.size
    have k : ∀ q : Addr, q.block < w2.heap.size → (w2.drew.alloc o).cell? q = w2.cell? q := fun q hq => (alloc_keep (w := w2.drew) o hq).1
    exact ⟨(k ⟨pb, 1, none⟩ (by show pb < _; omega)).trans c1, (k _ hs2').trans p0, (k _ hs2').trans p1, (k _ hs2').trans p2, (k _ hs2').trans p3, hlk _ (Below.heap_alloc w2.drew _ _ (by show gb < w2.heap.size; omega))⟩
  have HT := hid hti
  clear hti hlk hG2 p0 p1 p2 p3
  go_enter Tryz.func125, Tryz.ntmps125
  go_wp2_with fail
  rw [← hw2]
  clear hw2
  refine wp_region_Z (MayS w2 pb gb w.heap.size t i) 99 (by kernel_rfl) ?_
  refine zt 0 (v := ?v0) HS2.out (fun w0 hS0 => ?hy) ?_
  case hy => obtain ⟨s1, s2, s3, s4, s5, s6⟩ := hS0; go_simp; with_reducible rfl
  simp only [Act.put, List.setIfInBounds_toArray]
  refine zt 1 (v := ?v1) HS2.out (fun w0 hS0 => ?hy) ?_
  case hy => obtain ⟨s1, s2, s3, s4, s5, s6⟩ := hS0; go_simp; with_reducible rfl
  simp only [Act.put]
  refine zt 2 (v := ?v2) HS2.out (fun w0 hS0 => ?hy) ?_
  case hy => obtain ⟨s1, s2, s3, s4, s5, s6⟩ := hS0; go_simp; with_reducible rfl
  simp only [Act.put]
  refine zt 3 (v := ?v3) HS2.out (fun w0 hS0 => ?hy) ?_
  case hy => obtain ⟨s1, s2, s3, s4, s5, s6⟩ := hS0; go_simp; with_reducible rfl
  simp only [Act.put]
  refine zt 4 (v := ?v4) HS2.out (fun w0 hS0 => ?hy) ?_
  case hy => obtain ⟨s1, s2, s3, s4, s5, s6⟩ := hS0; go_simp; with_reducible rfl
  simp only [Act.put]
  refine zt 5 (v := ?v5) HS2.out (fun w0 hS0 => ?hy) ?_
  case hy => obtain ⟨s1, s2, s3, s4, s5, s6⟩ := hS0; go_simp; with_reducible rfl
  simp only [Act.put]
  refine zt 6 (v := ?v6) HS2.out (fun w0 hS0 => ?hy) ?_
  case hy => obtain ⟨s1, s2, s3, s4, s5, s6⟩ := hS0; go_simp; with_reducible rfl
  simp only [Act.put]
  refine zt 7 (v := ?v7) HS2.out (fun w0 hS0 => ?hy) ?_
  case hy => obtain ⟨s1, s2, s3, s4, s5, s6⟩ := hS0; go_simp; with_reducible rfl
  simp only [Act.put]
  refine zt 8 (v := ?v8) HS2.out (fun w0 hS0 => ?hy) ?_
  case hy => obtain ⟨s1, s2, s3, s4, s5, s6⟩ := hS0; go_simp; with_reducible rfl
  simp only [Act.put]
  refine wpZ_one 9 _ rfl (by kernel_rfl) (fun KK hK => ?_)
  go_simp
  refine hK.out _ _ (fun _ => HSA.out _) ?_
  clear hK
  refine wpZ_one 10 _ rfl (by kernel_rfl) (fun KK hK => ?_)
  go_simp
  refine hK.out _ _ (fun _ => HSA.out _) ?_
  clear hK
  refine wpZ_one 11 _ rfl (by kernel_rfl) (fun KK hK => ?_)
  go_simp
  refine hK.out _ _ (fun _ => HSA.out _) ?_
  clear hK
  refine wpZ_done (by kernel_rfl) ?_ _
  clear HSA HS2
  obtain ⟨w3, hw3⟩ : ∃ w3, w3 = (w2.alloc (.cells #[] 174)).drew := ⟨_, rfl⟩
  have hb3 : Below w.heap.size w w3 := by rw [hw3]; exact (hb2.alloc (by omega) _).drew
  have hb23 : Below w2.heap.size w2 w3 := by rw [hw3]; exact ((Below.refl _ _).alloc (Nat.le_refl _) _).drew
  have hk3 := (hb23.block _ (by omega)).trans hk2
  rw [← hw3]
  clear hw3
  cases t
  · have hni : i ∉ G := fun h => by have := HT.out.2 h; cases this
    have c3 : w3.cell? ⟨pb, 1, none⟩ = some (.map (some gb)) := (hb3.cell (p := ⟨pb, 1, none⟩) hpb).trans hp
    have hG3 : GAt w3 gb G := hG.same (hb3.block gb hgb)
    have hlen : (Builtin.len_ #[80] 3 #[.map (some gb)]).run Tryz.prog w3 = .ok (.int .i64 G.length) w3 := hG3.len 3
    by_cases h40 : 40 ≤ G.length
    · have HR : Hid (MayR G f st i L 4) := .inr (.inl ⟨hni, h40, rfl⟩)
      clear hni HT
      go_wp2
      go_ret
      exact ⟨4, rfl, HR.out, hb3⟩
    · have h40' : ((G.length : Int) ≥ 40) = False := by simp; omega
      have h40b : decide ((40 : Int) ≤ (G.length : Int)) = false := by simp; omega
      have hGl : G.length < 40 := by omega
      subst hnn
      have hvw := hN
      have HVW : Hid (View w3 na L) := View.below (hvw) (hb3)
      have HFI : Hid (∀ u x, Below w3.heap.size w3 u → x.size ≤ 1000 → Calls Tryz.prog 179 #[.pointer (some ⟨rb, ro, none⟩), .string x] u fun e w' => e = .returned (.agg #[.string x, .bool (f x).isSome, .string ((f x).getD ⟨#[]⟩)]) ∧ Below u.heap.size u w') := fun u x hu hx' => by
        have hs3 := hb3.size
        have hub : Below w.heap.size w u := hb3.trans (hu.mono hs3)
        exact file142_any f fb fn rb ro x (by omega) u (hF.same (hub.block fb hF.lt)) ((hub.cell (p := ⟨rb, ro + 1, none⟩) hrb).trans hr) (by have := hub.size; omega)
      have HKF : Hid (∀ u x, Below w3.heap.size w3 u → x ∈ L → Calls Tryz.prog 78 #[.agg #[.map (some mb)], .string x] u fun e w' => e = .returned (.agg #[.string (keptFl st x).name, .bool (st x).alive, .string (keptFl st x).text]) ∧ Below u.heap.size u w') := fun u x hu hx' => by
        have hs3 := hb3.size
        have hub : Below w.heap.size w u := hb3.trans (hu.mono hs3)
        have := file55_any st mb n x (by have := (hx x hx').1; omega) u (hT.below hub (Nat.le_refl _)) (by omega) (hx x hx').2.1 (hx x hx').2.2
        rw [keptPL_fl] at this
        unfold flV at this
        rw [keptFl_there] at this
        exact this
      have HNX : Hid (∀ x ∈ L, x.size ≤ 1000) := fun x h => (hx x h).1
      have HNI := hid hni
      have HB3 := hid hb3
      have HK3 := hid hk3
      have hs3 : w.heap.size < w3.heap.size := by have := hb23.size; omega
      have f1 := field114
      clear hG hF hT hx hni HT hvw hb3 hG3 hk3 hb23 hb2 hk2 hf2 h40 h40'
      go_wp2
      go_loopw [33] (fun x wr => ∃ k : Nat, k ≤ L.length ∧ x = .int .i64 k ∧ Hid (∀ j, j < k → ∀ y, L[j]? = some y → (f y).isSome = true ∨ (st y).alive = true) ∧ Below w3.heap.size w3 wr) (fun x _ => L.length - (intOf x).toNat)
      case atStart => exact ⟨0, Nat.zero_le _, rfl, fun j hj => absurd hj (Nat.not_lt_zero _), Below.refl _ _⟩
      case round =>
        obtain ⟨k, hk, rfl, HO, hbw⟩ := hrel
        have hsw := hbw.size
        by_cases hlt : k < L.length
        · obtain ⟨x, hxk⟩ : ∃ x, L[k]? = some x := ⟨_, List.getElem?_eq_getElem hlt⟩
          have hxL : x ∈ L := List.mem_of_getElem? hxk
          have hgd : L.getD k ByteArray.empty = x := by rw [List.getD_eq_getElem?_getD, hxk]; rfl
          have hxs := HNX.out x hxL
          obtain ⟨b, o, rfl, hb, hcl⟩ := HVW.out.resolve_left (by omega)
          have c0 : wr.cell? ⟨b, o + k, none⟩ = some (.string x) := by rw [← hgd]; exact (hbw.cell (p := ⟨b, o + k, none⟩) hb).trans (hcl k hlt)
          have HF1 := hid (HFI.out wr x hbw hxs)
          have HXK := hid hxk
          have HXM := hid hxL
          obtain ⟨tx, htx⟩ : ∃ tx, (f x).getD ⟨#[]⟩ = tx := ⟨_, rfl⟩
          rw [htx] at HF1
          cases hth : (f x).isSome
          · rw [hth] at HF1
            have HTH := hid hth
            clear hcl hgd hxk htx hth hxL
            go_wp2_with fail
            refine HF1.out.mono ?_
            rintro e w5 ⟨rfl, hb5⟩
            clear HF1
            have hbw5 : Below w3.heap.size w3 w5 := hbw.trans (hb5.mono hsw)
            have hx5 : w5.heap[w.heap.size]? = some (.cells #[.map (some mb)] 121 (0, 0)) := (hbw5.block _ hs3).trans HK3.out
            have s0 : w5.cell? ⟨w.heap.size, 0, none⟩ = some (.map (some mb)) := by simp [World.cell?, hx5]
            have HKC := hid (HKF.out w5 x hbw5 HXM.out)
            have hs5 := hbw5.size
            clear hx5 hb5 hbw c0
            obtain ⟨kn, hkn⟩ : ∃ kn, (keptFl st x).name = kn := ⟨_, rfl⟩
            obtain ⟨kt, hkt⟩ : ∃ kt, (keptFl st x).text = kt := ⟨_, rfl⟩
            rw [hkn, hkt] at HKC
            clear hkn hkt
            cases hal : (st x).alive
            · rw [hal] at HKC
              have HR : Hid (MayR G f st i L 5) := .inr (.inr (.inl ⟨HNI.out, hGl, ⟨x, HXM.out, HTH.out, hal⟩, rfl⟩))
              clear hal HTH HXK HXM
              go_wp2_with fail
              refine HKC.out.mono ?_
              rintro e w6 ⟨rfl, hb6⟩
              clear HKC
              have hbw6 : Below w.heap.size w w6 := HB3.out.trans ((hbw5.trans (hb6.mono hs5)).mono (by omega))
              go_wp2
              go_ret
              exact ⟨5, rfl, HR.out, hbw6⟩
            · rw [hal] at HKC
              have HO2 : Hid (∀ j, j < k + 1 → ∀ y, L[j]? = some y → (f y).isSome = true ∨ (st y).alive = true) := fun j hj y hy => by
                by_cases e : j = k
                · subst e
                  rw [HXK.out] at hy
                  cases hy
                  exact .inr hal
                · exact HO.out j (by omega) y hy
              clear hal HTH HXK HXM HO
              go_wp2_with fail
              refine HKC.out.mono ?_
              rintro e w6 ⟨rfl, hb6⟩
              clear HKC
              have hbw6 : Below w3.heap.size w3 w6 := hbw5.trans (hb6.mono hs5)
              go_wp2
              go_roundw
              case rel => exact ⟨k + 1, by omega, by go_num, HO2, hbw6⟩
              case measure => simp [intOf]; omega
          · rw [hth] at HF1
            have HO2 : Hid (∀ j, j < k + 1 → ∀ y, L[j]? = some y → (f y).isSome = true ∨ (st y).alive = true) := fun j hj y hy => by
              by_cases e : j = k
              · subst e
                rw [HXK.out] at hy
                cases hy
                exact .inl hth
              · exact HO.out j (by omega) y hy
            clear hcl hgd hxk htx hth hxL HXK HXM HO
            go_wp2_with fail
            refine HF1.out.mono ?_
            rintro e w5 ⟨rfl, hb5⟩
            clear HF1
            have hbw5 : Below w3.heap.size w3 w5 := hbw.trans (hb5.mono hsw)
            clear hb5 hbw c0
            go_wp2
            go_roundw
            case rel => exact ⟨k + 1, by omega, by go_num, HO2, hbw5⟩
            case measure => simp [intOf]; omega
        · obtain rfl : k = L.length := by omega
          have HR : Hid (MayR G f st i L 0) := .inr (.inr (.inr ⟨HNI.out, hGl, fun x hx => by
            obtain ⟨j, hj⟩ := List.mem_iff_getElem?.1 hx
            exact HO.out j (List.getElem?_eq_some_iff.1 hj).1 x hj, rfl⟩))
          have hbw6 : Below w.heap.size w wr := HB3.out.trans (hbw.mono (by omega))
          clear HO hbw
          go_wp2
          go_ret
          exact ⟨0, rfl, HR.out, hbw6⟩
  · have HR : Hid (MayR G f st i L 8) := .inl ⟨HT.out.1 rfl, rfl⟩
    clear HT
    go_wp2
    go_ret
    exact ⟨8, rfl, HR.out, hb3⟩
end Go.Proofs.YtgdfipmdmgkidaaGreatDoor

/- Mathematics: the lines of a text that is made of lines. -/
namespace Go.Proofs.YtgdfipmdmgkidaaGreatDoor
open Go.RowKit
theorem catB_nil : catB [] = ⟨#[]⟩ := rfl
theorem catB_app (A B : List ByteArray) : catB (A ++ B) = catB A ++ catB B := by
  apply ByteArray.ext
  apply Array.toList_inj.1
  simp [catB, ByteArray.data_append]
theorem catB_one (l : ByteArray) : catB [l] = l := by
  apply ByteArray.ext
  apply Array.toList_inj.1
  simp [catB]
theorem catB_cons (l : ByteArray) (B : List ByteArray) : catB (l :: B) = l ++ catB B := by
  rw [show l :: B = [l] ++ B from rfl, catB_app, catB_one]
theorem gb_left {a b : ByteArray} {i : Nat} (h : i < a.size) : gb (a ++ b) i = gb a i := by
  rw [← gb_eq _ i (by rw [ByteArray.size_append]; omega), ← gb_eq _ i h, ByteArray.getElem_append_left h]
theorem gb_right {a b : ByteArray} (i : Nat) : gb (a ++ b) (a.size + i) = gb b i := by
  by_cases h : i < b.size
  · rw [← gb_eq _ _ (by rw [ByteArray.size_append]; omega), ← gb_eq _ i h, ByteArray.getElem_append_right (by omega)]
    simp
  · rw [gb_out _ _ (by rw [ByteArray.size_append]; omega), gb_out _ _ (by omega)]
theorem ext_mid (a l b : ByteArray) : (a ++ (l ++ b)).extract a.size (a.size + l.size) = l := by
  have hsz : a.size + l.size ≤ (a ++ (l ++ b)).size := by rw [ByteArray.size_append, ByteArray.size_append]; omega
  refine ext_gb (by rw [size_ex _ _ _ hsz]; omega) fun i hi => ?_
  rw [size_ex _ _ _ hsz] at hi
  rw [gb_ex _ _ _ _ hsz (by omega), gb_right, gb_left (by omega)]
def LineB (l : ByteArray) : Prop := 1 ≤ l.size ∧ gb l (l.size - 1) = 10 ∧ ∀ i, i + 1 < l.size → gb l i ≠ 10
theorem stTo_line {a l b : ByteArray} {A : List ByteArray} (h : stTo (a ++ (l ++ b)) a.size = (A, a.size)) (hl : LineB l) : stTo (a ++ (l ++ b)) (a.size + l.size) = (A ++ [l], a.size + l.size) := by
  obtain ⟨h1, h2, h3⟩ := hl
  have e1 : stTo (a ++ (l ++ b)) (a.size + (l.size - 1)) = (A, a.size) := by
    rw [stTo_skip _ _ _ (fun i hi => ?_), h]
    rw [gb_right, gb_left (by omega)]
    exact h3 i (by omega)
  have e2 : gb (a ++ (l ++ b)) (a.size + (l.size - 1)) = 10 := by rw [gb_right, gb_left (by omega)]; exact h2
  have e3 := stTo_nl e2
  rw [e1, show a.size + (l.size - 1) + 1 = a.size + l.size by omega, ext_mid] at e3
  exact e3
theorem app_assoc (a b c : ByteArray) : a ++ b ++ c = a ++ (b ++ c) := by
  apply ByteArray.ext
  simp [ByteArray.data_append, Array.append_assoc]
theorem stTo_cat (t : ByteArray) : ∀ (L A : List ByteArray), (∀ l ∈ L, LineB l) → stTo (catB (A ++ L) ++ t) (catB A).size = (A, (catB A).size) → stTo (catB (A ++ L) ++ t) (catB (A ++ L)).size = (A ++ L, (catB (A ++ L)).size)
  | [], A, _, h => by simpa using h
  | l :: L, A, hL, h => by
    have e : A ++ l :: L = (A ++ [l]) ++ L := by simp
    rw [e] at h ⊢
    refine stTo_cat t L (A ++ [l]) (fun x hx => hL x (by simp [hx])) ?_
    have e2 : catB (A ++ [l] ++ L) ++ t = catB A ++ (l ++ (catB L ++ t)) := by rw [catB_app, catB_app, catB_one, app_assoc, app_assoc]
    rw [e2] at h ⊢
    have := stTo_line h (hL l (by simp))
    rw [catB_app, catB_one, ByteArray.size_append]
    exact this
theorem cut_cat (L : List ByteArray) (t : ByteArray) (hL : ∀ l ∈ L, LineB l) (ht : ∀ i, i < t.size → gb t i ≠ 10) : cutAll (catB L ++ t) = if t.size = 0 then L else L ++ [t] := by
  have h := stTo_cat t L [] hL rfl
  rw [List.nil_append] at h
  have h2 : stTo (catB L ++ t) ((catB L).size + t.size) = (L, (catB L).size) := by
    rw [stTo_skip _ _ _ (fun i hi => by rw [gb_right]; exact ht i hi), h]
  unfold cutAll
  rw [ByteArray.size_append, h2]
  simp only
  by_cases h0 : t.size = 0
  · rw [if_pos h0, if_neg (by omega)]
  · rw [if_neg h0, if_pos (by omega)]
    have : (catB L ++ t).extract (catB L).size ((catB L).size + t.size) = t := by
      have := ext_mid (catB L) t ⟨#[]⟩
      rwa [show t ++ (⟨#[]⟩ : ByteArray) = t from by apply ByteArray.ext; simp [ByteArray.data_append]] at this
    rw [this]
theorem cut_lines (L : List ByteArray) (hL : ∀ l ∈ L, LineB l) : cutAll (catB L) = L := by
  have := cut_cat L ⟨#[]⟩ hL (fun i hi => by simp [ByteArray.size] at hi)
  rw [show catB L ++ (⟨#[]⟩ : ByteArray) = catB L from by apply ByteArray.ext; simp [ByteArray.data_append]] at this
  rw [this]
  rfl
theorem joinTo_cat (L : List ByteArray) : ∀ k, k ≤ L.length → joinTo L k = catB (L.take k)
  | 0, _ => rfl
  | k + 1, hk => by
    rw [joinTo, joinTo_cat L k (by omega), List.take_succ_eq_append_getElem (by omega), catB_app, catB_one, List.getD_eq_getElem?_getD, List.getElem?_eq_getElem (by omega)]
    rfl
theorem joinTo_all (L : List ByteArray) : joinTo L L.length = catB L := by rw [joinTo_cat L _ (Nat.le_refl _), List.take_length]
theorem cat_size (L : List ByteArray) (m : Nat) (h : ∀ l ∈ L, l.size ≤ m) : (catB L).size ≤ L.length * m := by
  induction L with
  | nil => simp [catB, ByteArray.size]
  | cons l L ih =>
    rw [catB_cons, ByteArray.size_append, List.length_cons, Nat.add_mul]
    have := h l (by simp)
    have := ih (fun x hx => h x (by simp [hx]))
    omega
end Go.Proofs.YtgdfipmdmgkidaaGreatDoor

/- Mathematics: the greatest common part, from ahead and from behind; what the gaps come to. -/
namespace Go.Proofs.YtgdfipmdmgkidaaGreatDoor
open Go.RowKit
theorem not_meets {O N : List ByteArray} {i j : Nat} (hi : i < O.length) (hj : j < N.length) (h : ¬ meets O N i j) : O[i] ≠ N[j] := by
  intro he
  refine h ⟨hi, hj, ?_⟩
  rw [List.getD_eq_getElem?_getD, List.getD_eq_getElem?_getD, List.getElem?_eq_getElem hi, List.getElem?_eq_getElem hj, he]
theorem meets_eq {O N : List ByteArray} {i j : Nat} (h : meets O N i j) : ∃ (hi : i < O.length) (hj : j < N.length), O[i] = N[j] := by
  obtain ⟨hi, hj, he⟩ := h
  rw [List.getD_eq_getElem?_getD, List.getD_eq_getElem?_getD, List.getElem?_eq_getElem hi, List.getElem?_eq_getElem hj] at he
  exact ⟨hi, hj, he⟩
theorem CC_kill {O N : List ByteArray} {i j : Nat} (hi : i ≤ O.length) (hj : j ≤ N.length) (h : ¬ meets O N i j) (hk : killB O N i j = true) : CC O N i j = CC O N (i + 1) j := by
  have h1 := kill_lt hi hk
  by_cases h2 : j = N.length
  · rw [CC_end2 (by omega), CC_end2 (by omega)]
  · have h3 : j < N.length := by omega
    rw [CC_ne h1 h3 (not_meets h1 h3 h)]
    unfold killB at hk
    rw [if_neg (by omega)] at hk
    have := of_decide_eq_true hk
    omega
theorem CC_come {O N : List ByteArray} {i j : Nat} (hi : i ≤ O.length) (hj : j < N.length) (h : ¬ meets O N i j) (hk : killB O N i j = false) : CC O N i j = CC O N i (j + 1) := by
  by_cases h2 : i = O.length
  · rw [CC_end1 (by omega), CC_end1 (by omega)]
  · have h3 : i < O.length := by omega
    rw [CC_ne h3 hj (not_meets h3 hj h)]
    unfold killB at hk
    rw [if_neg (by omega)] at hk
    have := of_decide_eq_false hk
    omega
theorem nxtF_CC (O N : List ByteArray) : ∀ (f i j : Nat), i ≤ O.length → j ≤ N.length → f = (O.length - i) + (N.length - j) → CC O N i j = CC O N (nxtF O N f i j).1 (nxtF O N f i j).2
  | 0, _, _, _, _, _ => rfl
  | f + 1, i, j, hi, hj, hf => by
    rw [nxtF]
    by_cases hm : meets O N i j
    · rw [if_pos hm]
    · rw [if_neg hm]
      by_cases hk : killB O N i j = true
      · rw [if_pos hk]
        have h1 := kill_lt hi hk
        rw [CC_kill hi hj hm hk]
        exact nxtF_CC O N f (i + 1) j (by omega) hj (by omega)
      · rw [if_neg hk]
        have hk' : killB O N i j = false := by simpa using hk
        have h1 := nokill_lt hi hj (by omega) hk'
        rw [CC_come hi h1 hm hk']
        exact nxtF_CC O N f i (j + 1) hi (by omega) (by omega)
theorem nxt_CC {O N : List ByteArray} {i j k l : Nat} (hi : i ≤ O.length) (hj : j ≤ N.length) (h : nxt O N i j = (k, l)) : CC O N i j = CC O N k l := by
  have := nxtF_CC O N _ i j hi hj rfl
  unfold nxt at h
  rw [h] at this
  exact this
theorem nxt_at {O N : List ByteArray} {i j k l : Nat} (hi : i ≤ O.length) (hj : j ≤ N.length) (h : nxt O N i j = (k, l)) : i ≤ k ∧ k ≤ O.length ∧ j ≤ l ∧ l ≤ N.length ∧ (meets O N k l ∨ (k = O.length ∧ l = N.length)) := by
  have p := nxt_props O N i j hi hj
  rw [h] at p
  exact p
def toldN (Q : List Quad) : Nat := (Q.map fun q => (q.k - q.i) + (q.l - q.j)).sum
theorem toldN_gap {i k j l : Nat} (hi : i ≤ k) (hj : j ≤ l) : toldN (gapOf i k j l) + i + j = k + l := by
  unfold toldN gapOf
  split
  · simp; omega
  · simp; omega
theorem toldN_append (P Q : List Quad) : toldN (P ++ Q) = toldN P + toldN Q := by simp [toldN]
theorem GapsR.count {O N : List ByteArray} {i j : Nat} {Q : List Quad} (h : GapsR O N i j Q) (hi : i ≤ O.length) (hj : j ≤ N.length) : toldN Q + 2 * CC O N i j + i + j = O.length + N.length := by
  induction h with
  | stop h1 h2 =>
    rename_i i j k l
    have p := nxt_at hi hj h1
    have hl : l = N.length := by
      rcases p.2.2.2.2 with h | h
      · have := h.1; omega
      · exact h.2
    have := toldN_gap p.1 p.2.2.1
    rw [nxt_CC hi hj h1, CC_end1 (by omega)]
    omega
  | go h1 h2 h3 ih =>
    rename_i i j k l rest
    have p := nxt_at hi hj h1
    have hm : meets O N k l := by
      rcases p.2.2.2.2 with h | h
      · exact h
      · omega
    obtain ⟨ho, hn, he⟩ := meets_eq hm
    have := toldN_gap p.1 p.2.2.1
    have q := ih (by omega) (by omega)
    rw [nxt_CC hi hj h1, CC_eq ho hn he, toldN_append]
    omega
theorem GapsR.from {O N : List ByteArray} {i j : Nat} {Q : List Quad} (h : GapsR O N i j Q) (hi : i ≤ O.length) (hj : j ≤ N.length) : ∀ q ∈ Q, i ≤ q.i := by
  induction h with
  | stop h1 h2 =>
    intro q hq
    unfold gapOf at hq
    split at hq
    · simp at hq; subst hq; exact Nat.le_refl _
    · cases hq
  | go h1 h2 h3 ih =>
    rename_i i j k l rest
    have p := nxt_at hi hj h1
    have hl : l < N.length := by
      rcases p.2.2.2.2 with h | h
      · exact h.2.1
      · omega
    intro q hq
    rcases List.mem_append.1 hq with hq | hq
    · unfold gapOf at hq
      split at hq
      · simp at hq; subst hq; exact Nat.le_refl _
      · cases hq
    · have := ih (by omega) (by omega) q hq
      omega
def laid (O N : List ByteArray) : Nat → List Quad → List ByteArray
  | i, [] => O.drop i
  | i, q :: Q => (O.take q.i).drop i ++ (linesAt N q ++ laid O N q.k Q)
theorem laid_on {O N : List ByteArray} {i : Nat} {Q : List Quad} (hi : i < O.length) (h : ∀ q ∈ Q, i + 1 ≤ q.i) : laid O N i Q = O[i] :: laid O N (i + 1) Q := by
  cases Q with
  | nil => simp only [laid]; exact List.drop_eq_getElem_cons hi
  | cons q Q =>
    have hq := h q (by simp)
    simp only [laid]
    rw [List.drop_eq_getElem_cons (l := O.take q.i) (i := i) (by simp; omega), List.getElem_take]
    simp
theorem laid_gap {O N : List ByteArray} {i k j l : Nat} (hi : i ≤ k) (hj : j ≤ l) (Q : List Quad) (hi2 : i ≤ O.length) (R : List ByteArray) (hl : l ≤ N.length) (hr : laid O N k Q = R) : laid O N i (gapOf i k j l ++ Q) = (N.take l).drop j ++ R := by
  unfold gapOf
  split
  · simp only [List.cons_append, List.nil_append, laid, linesAt, hr]
    rw [List.drop_of_length_le (by simp; omega), List.nil_append]
  · have h1 : i = k := by omega
    have h2 : j = l := by omega
    subst h1; subst h2
    rw [List.nil_append, hr, List.drop_of_length_le (by simp; omega), List.nil_append]
theorem GapsR.gives {O N : List ByteArray} {i j : Nat} {Q : List Quad} (h : GapsR O N i j Q) (hi : i ≤ O.length) (hj : j ≤ N.length) : laid O N i Q = N.drop j := by
  induction h with
  | stop h1 h2 =>
    rename_i i j k l
    have p := nxt_at hi hj h1
    have hl : l = N.length := by
      rcases p.2.2.2.2 with h | h
      · have := h.1; omega
      · exact h.2
    have := laid_gap (O := O) (N := N) p.1 p.2.2.1 [] hi [] (by omega) (by simp only [laid]; exact List.drop_of_length_le (by omega))
    rw [List.append_nil] at this
    rw [this, hl, List.take_length, List.append_nil]
  | go h1 h2 h3 ih =>
    rename_i i j k l rest
    have p := nxt_at hi hj h1
    have hm : meets O N k l := by
      rcases p.2.2.2.2 with h | h
      · exact h
      · omega
    obtain ⟨ho, hn, he⟩ := meets_eq hm
    have q := ih (by omega) (by omega)
    rw [laid_gap p.1 p.2.2.1 rest hi (N.drop l) p.2.2.2.1 ?_]
    · have := List.take_append_drop (l - j) (N.drop j)
      rw [List.drop_drop, show j + (l - j) = l by omega] at this
      rw [← this, List.drop_take]
    · rw [laid_on ho (h3.from (by omega) (by omega)), q, he]
      exact (List.drop_eq_getElem_cons hn).symm
end Go.Proofs.YtgdfipmdmgkidaaGreatDoor
