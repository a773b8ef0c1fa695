/- What patches are made of stays, whatever else in memory is written. -/
import Derived.Test.YtgdfipmdmgkidaaGreatDoorPgrow
import Derived.Deep.RegionHeld3
set_option maxHeartbeats 3200000
set_option maxRecDepth 100000
namespace Go.Proofs.YtgdfipmdmgkidaaGreatDoor
open Go.RowKit
def stuff (t : TypeId) : Prop := t = 313 ∨ t = 327 ∨ t = 226
def rows (t : TypeId) : Prop := t = 313 ∨ t = 327
structure HeldT (T : TypeId → Prop) (w w' : World) : Prop where
  size : w.heap.size ≤ w'.heap.size
  keep : ∀ g t, TB w g t → T t → w'.heap[g]? = w.heap[g]?
abbrev Held := HeldT stuff
abbrev HeldR := HeldT rows
theorem HeldT.refl {T : TypeId → Prop} (w : World) : HeldT T w w := ⟨Nat.le_refl _, fun _ _ _ _ => rfl⟩
theorem HeldT.trans {T : TypeId → Prop} {a b c : World} (h : HeldT T a b) (k : HeldT T b c) : HeldT T a c :=
  ⟨Nat.le_trans h.size k.size, fun g t hg ht => (k.keep g t (hg.same (h.keep g t hg ht)) ht).trans (h.keep g t hg ht)⟩
theorem HeldT.mono {T T' : TypeId → Prop} {a b : World} (h : HeldT T a b) (hT : ∀ t, T' t → T t) : HeldT T' a b := ⟨h.size, fun g t hg ht => h.keep g t hg (hT t ht)⟩
theorem HeldT.rows {a b : World} (h : Held a b) : HeldR a b := h.mono fun _ ht => ht.elim .inl fun e => .inr (.inl e)
theorem HeldT.of_below {T : TypeId → Prop} {w w' : World} (h : Below w.heap.size w w') : HeldT T w w' := ⟨h.size, fun g _ hg _ => h.block g hg.lt⟩
theorem HeldT.of_but {T : TypeId → Prop} {w w' : World} {m : Nat} (h : But w w' m) {t : TypeId} (hm : TB w m t) (ht : ¬ T t) : HeldT T w w' := ⟨h.size, fun g u hg hu => by
  refine h.block g hg.lt ?_
  rintro rfl
  obtain ⟨A, fz, e1⟩ := hm
  obtain ⟨A', fz', e2⟩ := hg
  rw [e1] at e2
  simp only [Option.some.injEq, Obj.cells.injEq] at e2
  rw [← e2.2.1] at hu
  exact ht hu⟩
theorem HeldT.of_map {T : TypeId → Prop} {w w' : World} {m : Nat} (h : w.grownBy w' (some m)) (hm : ∃ es c, w.heap[m]? = some (.map es c)) : HeldT T w w' := ⟨h.size, fun g u hg hu => by
  refine h.block g hg.lt ?_
  intro e
  injection e with e
  subst e
  obtain ⟨es, c, e1⟩ := hm
  obtain ⟨A', fz', e2⟩ := hg
  rw [e1] at e2
  cases e2⟩
theorem HeldT.of_grown {T : TypeId → Prop} {w w' : World} {row : Option Nat} (h : w.grownBy w' row) (hm : ∀ m, row = some m → ∃ t, TB w m t ∧ ¬ T t) : HeldT T w w' := ⟨h.size, fun g u hg hu => by
  refine h.block g hg.lt ?_
  intro e
  obtain ⟨t, ⟨A, fz, e1⟩, ht⟩ := hm g e.symm
  obtain ⟨A', fz', e2⟩ := hg
  rw [e1] at e2
  simp only [Option.some.injEq, Obj.cells.injEq] at e2
  rw [← e2.2.1] at hu
  exact ht hu⟩
theorem HeldT.set {T : TypeId → Prop} {w : World} {g o : Nat} {t : TypeId} (hm : TB w g t) (ht : ¬ T t) (u : Value) : HeldT T w (w.setCell ⟨g, o, none⟩ u) := HeldT.of_but ((But.refl w g).set u) hm ht
theorem HeldT.alloc {T : TypeId → Prop} (w : World) (o : Obj) : HeldT T w (w.alloc o) := HeldT.of_below ((Below.refl _ _).alloc (Nat.le_refl _) o)
theorem SV.held {w w' : World} {v : Value} {S : List Spot} (h : SV w v S) (k : HeldR w w') : SV w' v S := by
  rcases h with h | ⟨b, o, cap, rfl, hcap, hb, hcl⟩
  · exact .inl h
  · have e := k.keep b 313 hb (.inl rfl)
    exact .inr ⟨b, o, cap, rfl, hcap, hb.same e, fun j u hj => (cell_same e _).trans (hcl j u hj)⟩
theorem HV.held {w w' : World} {v : Value} {Hs : List Hk} (h : HV w v Hs) (k : HeldR w w') : HV w' v Hs := by
  obtain ⟨ao, cap, rfl, hc⟩ := h
  refine ⟨ao, cap, rfl, fun j r hj => ?_⟩
  obtain ⟨b, o, e, h1, h2, h3, h4, h5⟩ := hc j r hj
  have s := k.keep b 327 h1 (.inr rfl)
  exact ⟨b, o, e, h1.same s, (cell_same s _).trans h2, (cell_same s _).trans h3, h4.held k, h5.held k⟩
theorem ChOK.held {w w' : World} {c : ChM} (h : ChOK w c) (k : HeldR w w') : ChOK w' c := by
  cases c
  · exact SV.held h k
  · exact SV.held h k
  · exact HV.held h k
theorem CV.held {w w' : World} {v : Value} {Cs : List (ByteArray × ChM)} (h : CV w v Cs) (k : Held w w') : CV w' v Cs := by
  obtain ⟨ao, cap, rfl, hc⟩ := h
  refine ⟨ao, cap, rfl, fun j r hj => ?_⟩
  obtain ⟨b, o, e, h1, h2, h3, h4⟩ := hc j r hj
  have s := k.keep b 226 h1 (.inr (.inr rfl))
  exact ⟨b, o, e, h1.same s, (cell_same s _).trans h2, (cell_same s _).trans h3, h4.held k.rows⟩
theorem TreeAt.held {w w' : World} {mb n : Nat} {st : ByteArray → PL} (h : TreeAt w mb st n) (k : HeldR w w') (hb : w'.heap[mb]? = w.heap[mb]?) : TreeAt w' mb st n := by
  obtain ⟨f, has, D, ⟨es, clock, he, hr⟩, h2, h3, h4, h5, h6⟩ := h
  exact ⟨f, has, D, ⟨es, clock, hb.trans he, hr⟩, h2, h3, h4, h5, fun x => (h6 x).held k⟩
theorem own_TB {w : World} {B n size : Nat} {e : TypeId} {v : Value} {xs : List Value} (h : w.ownsRow B e size v n xs) {g : Nat} (hg : v.ownBlock = some g) : TB w g e := by
  rcases h.2 with ⟨rfl, _⟩ | ⟨g', cap, cur, rfl, _, hb, _⟩
  · cases hg
  · simp [Value.ownBlock] at hg
    subst hg
    exact ⟨cur, _, hb⟩
theorem HW.view {w : World} {B : Nat} {v : Value} {Hs : List Hk} (h : HW w B v Hs) : HV w v Hs := by
  have hc := fun g => World.ownsRow.cells h.row (g := g)
  rcases h.row.2 with ⟨rfl, h0⟩ | ⟨g, cp, cur, rfl, _, hg, hcp, _⟩
  · have : Hs = [] := List.eq_nil_of_length_eq_zero h0
    subst this
    exact ⟨none, 0, rfl, fun k r hk => by simp at hk⟩
  · refine ⟨some ⟨g, 0, none⟩, cp, rfl, fun k r hk => ⟨g, 0, rfl, ⟨cur, _, hg⟩, ?_, ?_, SV.own (h.nv r (List.mem_of_getElem? hk)), SV.own (h.bv r (List.mem_of_getElem? hk))⟩⟩
    · have := hc g rfl (k * 2) r.nv (flat2 Hs k r hk).1
      rw [Nat.zero_add, ← this]
      cases k <;> simp [Addr.add]
    · have := hc g rfl (k * 2 + 1) r.bv (flat2 Hs k r hk).2
      rw [Nat.zero_add, ← this]
      simp [Addr.add]
where
  flat2 : ∀ (Hs : List Hk) (k : Nat) (r : Hk), Hs[k]? = some r → (Hs.flatMap fun h => [h.nv, h.bv])[k * 2]? = some r.nv ∧ (Hs.flatMap fun h => [h.nv, h.bv])[k * 2 + 1]? = some r.bv
    | [], k, r, h => by simp at h
    | x :: Hs, 0, r, h => by simp at h; subst h; simp
    | x :: Hs, k + 1, r, h => by
      have ih := flat2 Hs k r (by simpa using h)
      have e : (k + 1) * 2 = k * 2 + 2 := by omega
      rw [e]
      simp only [List.flatMap_cons, List.cons_append, List.nil_append, List.getElem?_cons_succ]
      exact ih
end Go.Proofs.YtgdfipmdmgkidaaGreatDoor
/- The change that a patch makes of one file: a removal; and all three. -/
namespace Go.Proofs.YtgdfipmdmgkidaaGreatDoor
open Go.RowKit
theorem change138_remove (kb : Pid) (mb : Nat) (S : List Spot) (rv : Value) (name text : ByteArray) (w : World) (hr : SV w rv S) :
    Calls Tryz.prog 175 #[.pointer (some ⟨mb, 0, none⟩), .agg #[.int .u8 kb.a, .int .u8 kb.b, .int .u8 kb.c, .int .u8 kb.d, .bool true, rv], .agg #[.string name, .bool false, .string text]] w fun e w' =>
      e = .returned (.iface 284 (.agg #[.int .u8 kb.a, .int .u8 kb.b, .int .u8 kb.c, .int .u8 kb.d, rv])) ∧ Below w.heap.size w w' := by
  obtain ⟨ka, kc, rfl⟩ := hr.shape
  obtain ⟨w2, hw2⟩ : ∃ w2, w2 = (w.alloc (.cells #[.int .u8 kb.a, .int .u8 kb.b, .int .u8 kb.c, .int .u8 kb.d, .bool true, .slice ka S.length kc] 185)).alloc (.cells #[.string name, .bool false, .string text] 118) := ⟨_, rfl⟩
  obtain ⟨hb2, hs2, hk2, hf2⟩ := two_blocks' w _ _ hw2
  obtain ⟨k0, k1, k2, k3, k4, k5⟩ := id_cells hk2
  obtain ⟨f0, f1, f2⟩ := cells3_at hf2
  clear hs2 hk2 hf2
  go_enter Tryz.func175, Tryz.ntmps175
  go_wp2_with fail
  rw [← hw2]
  clear hw2
  go_wp2
  go_ret
  exact ⟨rfl, hb2⟩
def ChMade (p : PL) (i : Pid) (n : Int) (there : Bool) (text : ByteArray) : ChM → Int → Prop
  | .add i' l _ S, n' => p.alive = false ∧ i' = i ∧ l = p.by_ ∧ S = bring i n (cutAll text) ∧ n' = n + (cutAll text).length
  | .remove i' _ S, n' => p.alive = true ∧ there = false ∧ i' = p.by_ ∧ S = p.S ∧ n' = n
  | .alter i' _ Hs, n' => p.alive = true ∧ there = true ∧ i' = p.by_ ∧ ∃ Q, GapsR (rowLines p.S) (cutAll text) 0 0 Q ∧ Made (framed p.S) i n (cutAll text) Q Hs ∧ n' = numTo n (cutAll text) Q
theorem numTo_le (n : Int) (N : List ByteArray) : ∀ Q : List Quad, n ≤ numTo n N Q
  | [] => Int.le_refl _
  | q :: Q => by
    have := numTo_le (n + (linesAt N q).length) N Q
    unfold numTo
    omega
theorem numTo_ub (N : List ByteArray) : ∀ (Q : List Quad) (n : Int) (m : Nat), (∀ q ∈ Q, (linesAt N q).length ≤ m) → numTo n N Q ≤ n + Q.length * m
  | [], n, m, _ => by simp [numTo]
  | q :: Q, n, m, h => by
    have h1 := numTo_ub N Q (n + (linesAt N q).length) m (fun x hx => h x (by simp [hx]))
    have h2 := h q (by simp)
    unfold numTo
    rw [List.length_cons, Int.natCast_add, Int.add_mul]
    simp only [Int.natCast_one, Int.one_mul]
    omega
theorem change138_any (p : PL) (l : Lat) (i : Pid) (n : Int) (mb : Nat) (name text : ByteArray) (there : Bool) (w : World) (hl : LatIs l p) (hr : SV w l.rv l.S) (hm : MAt w mb i n) (ht : text.size ≤ 10000) (hL : (cutAll text).length ≤ 9000) (hS : p.S.length ≤ 9000) (hn : 0 ≤ n) (hn2 : n ≤ 1000000)
    (hnum : ∀ Q, GapsR (rowLines p.S) (cutAll text) 0 0 Q → ∀ k, numTo n (cutAll text) (Q.take k) ≤ 10000000 ∧ 0 ≤ numTo n (cutAll text) (Q.take k)) :
    Calls Tryz.prog 175 #[.pointer (some ⟨mb, 0, none⟩), latV l, .agg #[.string name, .bool there, .string text]] w fun e w' =>
      ∃ c n', e = .returned (chV c) ∧ ChMade p i n there text c n' ∧ ChOK w' c ∧ MAt w' mb i n' ∧ But w w' mb := by
  obtain ⟨l1, l2, l3⟩ := hl
  obtain ⟨lb, la, lrv, lS⟩ := l
  simp only at l1 l2 l3 hr
  subst l1 l2 l3
  unfold latV
  simp only
  cases ha : p.alive
  · obtain ⟨ka, kc, rfl⟩ := hr.shape
    refine (change138_add i p.by_ n mb ka _ kc name text there w hm ht (by omega) hn hn2).mono ?_
    rintro e w' ⟨v, rfl, hv, hm', hb⟩
    exact ⟨.add i p.by_ v (bring i n (cutAll text)), _, rfl, ⟨ha, rfl, rfl, rfl, rfl⟩, SV.own hv, hm', hb⟩
  · cases there
    · refine (change138_remove p.by_ mb p.S lrv name text w hr).mono ?_
      rintro e w' ⟨rfl, hb⟩
      exact ⟨.remove p.by_ lrv p.S, n, rfl, ⟨ha, rfl, rfl, rfl, rfl⟩, SV.below hr hb (Nat.le_refl _), hm.below hb hm.lt, But.of_below mb hb⟩
    · refine (change138_alter i p.by_ n mb p.S lrv name text w hm hr ht hL hS hn hn2 hnum).mono ?_
      rintro e w' ⟨v, rfl, ⟨Hs, Q, h1, h2, h3, h4⟩, hb⟩
      exact ⟨.alter p.by_ v Hs, _, rfl, ⟨ha, rfl, rfl, Q, h2, h3, rfl⟩, h1.view, h4, hb⟩
end Go.Proofs.YtgdfipmdmgkidaaGreatDoor
/- A region that draws its order and whose last operation (a store) waits for all others: what is asked of the world between the operations need not hold behind the last. -/
namespace Go.Proofs.YtgdfipmdmgkidaaGreatDoor
open Go.RowKit
section
variable {P : Program} {ops : Array Oper} {Q : Exit → Act → World → Prop} {md : Region.Mode} {S : World → Prop} {z : Nat}
def wpZ (P : Program) (md : Region.Mode) (ops : Array Oper) (Q : Exit → Act → World → Prop) (S : World → Prop) (z : Nat) : Nat → Array Bool → Act → World → Prop
  | 0, listed, a, w => Region.ready md ops listed = [] ∧ Q .normal a w
  | fuel + 1, listed, a, w => (Region.ready md ops listed = [] → Q .normal a w) ∧
    ∀ i ∈ Region.ready md ops listed, wpOp P ops Q i (fun a' w' => (i ≠ z → S w') ∧ wpZ P md ops Q S z fuel (listed.setIfInBounds i true) a' w') a w
theorem wpAny_of_Z : ∀ (fuel : Nat) (listed : Array Bool) (a : Act) (w : World), wpZ P md ops Q S z fuel listed a w → wpAny P md ops Q fuel listed a w
  | 0, _, _, _, h => h
  | fuel + 1, _, _, _, h => ⟨h.1, fun i hi => wpOp_mono (fun a' w' h' => wpAny_of_Z fuel _ a' w' h'.2) (h.2 i hi)⟩
def lastOp (md : Region.Mode) (ops : Array Oper) (z j : Nat) : Bool := match ops[z]? with
  | none => true
  | some oz => oz.after.any fun e => Region.binds md e && e.on == j
theorem lastOp_spec {j : Nat} (h : lastOp md ops z j = true) {listed : Array Bool} (hz : z ∈ Region.ready md ops listed) (hj : j ∈ Region.ready md ops listed) : False := by
  obtain ⟨_, oz, hoz, hall⟩ := mem_ready.1 hz
  obtain ⟨hjun, oj, hoj, _⟩ := mem_ready.1 hj
  unfold lastOp at h
  rw [hoz] at h
  simp only [Array.any_eq_true', Bool.and_eq_true, beq_iff_eq] at h
  obtain ⟨e, he, hb, heq⟩ := h
  have h2 := hall e he hb
  rw [heq] at h2
  rcases Nat.lt_or_ge j listed.size with h' | h'
  · simp [h'] at hjun h2
    rw [hjun] at h2
    cases h2
  · simp [Array.getElem?_eq_none h'] at h2
theorem wpZ_first {i : Nat} {oi : Oper} {v : Value} (hi : ops[i]? = some oi) (hsel : ∀ (j : Nat) (o : Oper) cs b, ops[j]? = some o → o.op ≠ .select cs b)
    (hQ : ∀ c a w, Q (.panic c) (a.put oi.dst v) w → Q (.panic c) a w) (hl : lastOp md ops z i = true) (hiz : i ≠ z) :
    ∀ (fuel : Nat) (listed : Array Bool) (a : Act) (w : World),
      (∀ j oj, ops[j]? = some oj → j ≠ i → listed.getD j true = false → (∀ e ∈ oj.after, Region.binds md e = true → e.on ≠ i) → oi.apart ops oj = true) →
      i ∈ Region.ready md ops listed → YieldsIf P ops S oi v a → S w →
      wpZ P md ops Q S z fuel (listed.setIfInBounds i true) (a.put oi.dst v) w → wpZ P md ops Q S z (fuel + 1) listed a w := by
  intro fuel
  induction fuel with
  | zero =>
    intro listed a w _ hr hy hS H
    refine ⟨fun h => (by rw [h] at hr; cases hr), fun j hj => ?_⟩
    by_cases hji : j = i
    · subst hji
      exact hy.wpOp hi hS ⟨fun _ => hS, H⟩
    · have := ready_mono hj hji
      rw [H.1] at this
      cases this
  | succ fuel ih =>
    intro listed a w hfree hr hy hS H
    refine ⟨fun h => (by rw [h] at hr; cases hr), fun j hj => ?_⟩
    by_cases hji : j = i
    · subst hji
      exact hy.wpOp hi hS ⟨fun _ => hS, H⟩
    · have hjz : j ≠ z := fun e => lastOp_spec hl (e ▸ hj) hr
      have h1 := H.2 j (ready_mono hj hji)
      obtain ⟨hjun, oj, hoj, hall⟩ := mem_ready.1 hj
      have hnot : ∀ e ∈ oj.after, Region.binds md e = true → e.on ≠ i := fun e he hb heq => by
        have h1 := hall e he hb
        have h0 := (mem_ready.1 hr).1
        rw [heq] at h1
        rcases Nat.lt_or_ge i listed.size with h' | h'
        · simp [h'] at h0 h1
          rw [h0] at h1
          cases h1
        · simp [Array.getElem?_eq_none h'] at h1
      have h2 := wpOp_putIf hoj (hfree j oj hoj hji hjun hnot) (fun cs b => hsel i oi cs b hi) (fun cs b => hsel j oj cs b hoj) hQ hy h1
      have hfree' : ∀ k ok, ops[k]? = some ok → k ≠ i → (listed.setIfInBounds j true).getD k true = false →
          (∀ e ∈ ok.after, Region.binds md e = true → e.on ≠ i) → oi.apart ops ok = true := fun k ok hk hki hun hno => by
        refine hfree k ok hk hki ?_ hno
        by_cases hjk : j = k
        · subst hjk
          exact hjun
        · rw [getD_set_ne true hjk] at hun
          exact hun
      refine wpOp_mono (fun a' w' h3 => ⟨fun _ => h3.2.1 hjz, ih (listed.setIfInBounds j true) a' w' hfree' (ready_mono hr (Ne.symm hji)) h3.1 (h3.2.1 hjz) ?_⟩) h2
      rw [Array.setIfInBounds_comm _ _ hji]
      exact h3.2.2
theorem wpZ_take (i : Nat) (oi : Oper) {v : Value} {fuel : Nat} {listed : Array Bool} {a : Act} {w : World} (hi : ops[i]? = some oi)
    (hs : Region.noSelect ops = true) (hf : Region.free md ops listed i = true) (hr : (Region.ready md ops listed).contains i = true)
    (hQ : ∀ c a w, Q (.panic c) (a.put oi.dst v) w → Q (.panic c) a w) (hl : lastOp md ops z i = true) (hiz : i ≠ z) (hS : S w) (hw : Region.wanted oi (yielded ops a.tmps) = true) (hy : ∀ w, S w → (execOp a.eval oi).run P w = .ok (.value v) w)
    (h : wpZ P md ops Q S z fuel (listed.setIfInBounds i true) (a.put oi.dst v) w) : wpZ P md ops Q S z (fuel + 1) listed a w :=
  wpZ_first hi (Region.noSelect_spec hs) hQ hl hiz fuel listed a w (Region.free_spec hi hf) (by simpa using hr) (.inl ⟨hw, hy⟩) hS h
theorem zt (i : Nat) {oi : Oper} {v : Value} {fuel : Nat} {listed : Array Bool} {a : Act} {w : World} (hS : S w) (hy : ∀ w, S w → (execOp a.eval oi).run P w = .ok (.value v) w)
    (h : wpZ P md ops Q S z fuel (listed.setIfInBounds i true) (a.put oi.dst v) w) (hi : ops[i]? = some oi := by rfl) (hs : Region.noSelect ops = true := by kernel_rfl) (hf : Region.free md ops listed i = true := by kernel_rfl)
    (hr : (Region.ready md ops listed).contains i = true := by kernel_rfl) (hQ : ∀ c a w, Q (.panic c) (a.put oi.dst v) w → Q (.panic c) a w := by exact fun _ _ _ h => h) (hl : lastOp md ops z i = true := by kernel_rfl)
    (hiz : i ≠ z := by decide) (hw : Region.wanted oi (yielded ops a.tmps) = true := by rfl) : wpZ P md ops Q S z (fuel + 1) listed a w := wpZ_take i oi hi hs hf hr hQ hl hiz hS hw hy h
theorem wpZ_one (i : Nat) (o : Oper) {fuel : Nat} {listed : Array Bool} {a : Act} {w : World} (ho : ops[i]? = some o) (hr : Region.ready md ops listed = [i])
    (h : ∀ K' : Act → World → Prop, Shut (∀ a w, (i ≠ z → S w) → wpZ P md ops Q S z fuel (listed.setIfInBounds i true) a w → K' a w) → if Region.wanted o (yielded ops a.tmps) = true then Oper.wp P o a w K' Q else K' (a.put o.dst undef) w) :
    wpZ P md ops Q S z (fuel + 1) listed a w := by
  refine ⟨fun h0 => (by rw [hr] at h0; cases h0), fun j hj => ?_⟩
  rw [hr, List.mem_singleton] at hj
  subst hj
  exact wpOp_step ho (fun K' hK => h K' (fun a w hS hW => hK a w ⟨hS, hW⟩))
theorem wpZ_done {listed : Array Bool} {a : Act} {w : World} (hr : Region.ready md ops listed = []) (h : Q .normal a w) : ∀ fuel, wpZ P md ops Q S z fuel listed a w
  | 0 => ⟨hr, h⟩
  | _ + 1 => ⟨fun _ => h, by rw [hr]; simp⟩
theorem wp_region_Z (S : World → Prop) (z : Nat) {id : Nat} {a : Act} {w : World} (hm : P.follows .mixedOrders = true)
    (h : wpZ P .any ops Q S z ops.size (Array.replicate ops.size false) a w.drew) : (Code.region id ops true).wp P Q a w :=
  wp_region_any hm (wpAny_of_Z _ _ _ _ h)
end
end Go.Proofs.YtgdfipmdmgkidaaGreatDoor
/- A removal is applied, and told. -/
namespace Go.Proofs.YtgdfipmdmgkidaaGreatDoor
open Go.RowKit
theorem remove340_any (i : Pid) (S : List Spot) (rv : Value) (x : Value) (j : Pid) (al : Bool) (xa : Option Addr) (xn xc : Nat) (hx : x = .slice xa xn xc) (w : World) (hr : SV w rv S) (hS : S.length ≤ 100000) :
    Calls Tryz.prog 340 #[.agg #[.int .u8 i.a, .int .u8 i.b, .int .u8 i.c, .int .u8 i.d, rv], .agg #[.int .u8 j.a, .int .u8 j.b, .int .u8 j.c, .int .u8 j.d, .bool al, x]] w fun e w' => ∃ v, e = .returned (.agg #[.int .u8 i.a, .int .u8 i.b, .int .u8 i.c, .int .u8 i.d, .bool false, v]) ∧ SV w' v (deadRow S) ∧ Below w.heap.size w w' := by
  subst hx
  obtain ⟨ra, rc, rfl⟩ := hr.shape
  obtain ⟨w3, hw3⟩ : ∃ w3, w3 = ((w.alloc (.cells #[.int .u8 i.a, .int .u8 i.b, .int .u8 i.c, .int .u8 i.d, .slice ra S.length rc] 284)).alloc (.cells #[.int .u8 j.a, .int .u8 j.b, .int .u8 j.c, .int .u8 j.d, .bool al, .slice xa xn xc] 185)).alloc (.cells #[.int .u8 0, .int .u8 0, .int .u8 0, .int .u8 0, .bool false, .slice none 0 0] 185) := ⟨_, rfl⟩
  obtain ⟨hb3, hs3, hA, hR⟩ := three_blocks w _ _ _ hw3
  have HD : Hid (Calls Tryz.prog 345 #[.slice ra S.length rc] w3.drew fun e w' => ∃ va vc, e = .returned (.slice va (deadRow S).length vc) ∧ SV w' (.slice va (deadRow S).length vc) (deadRow S) ∧ Below w3.heap.size w3 w') := by
    refine (dead244_any S _ w3.drew (hr.below (hb3.trans ((Below.refl _ _).drew)) (Nat.le_refl _)) (by omega)).mono ?_
    rintro e w' ⟨v, rfl, ho, hb⟩
    obtain ⟨va, vc, rfl⟩ := (SV.own ho).shape
    exact ⟨va, vc, rfl, SV.own ho, (Below.refl _ w3).drew.trans hb⟩
  obtain ⟨a0, a1, a2, a3, a4⟩ := cells5_of hA
  have HS0 : Hid (w3.drew.cell? ⟨w.heap.size, 0, none⟩ = some (.int .u8 i.a) ∧ w3.drew.cell? ⟨w.heap.size, 1, none⟩ = some (.int .u8 i.b) ∧ w3.drew.cell? ⟨w.heap.size, 2, none⟩ = some (.int .u8 i.c) ∧ w3.drew.cell? ⟨w.heap.size, 3, none⟩ = some (.int .u8 i.d) ∧ w3.drew.cell? ⟨w.heap.size, 4, none⟩ = some (.slice ra S.length rc)) := ⟨a0, a1, a2, a3, a4⟩
  have HA := hid hA
  have HR := hid hR
  clear hA hR a0 a1 a2 a3 a4
  go_enter Tryz.func340, Tryz.ntmps340
  go_wp2_with fail
  rw [← hw3]
  clear hw3
  refine wp_region_Z (fun w' => w'.cell? ⟨w.heap.size, 0, none⟩ = some (.int .u8 i.a) ∧ w'.cell? ⟨w.heap.size, 1, none⟩ = some (.int .u8 i.b) ∧ w'.cell? ⟨w.heap.size, 2, none⟩ = some (.int .u8 i.c) ∧ w'.cell? ⟨w.heap.size, 3, none⟩ = some (.int .u8 i.d) ∧ w'.cell? ⟨w.heap.size, 4, none⟩ = some (.slice ra S.length rc)) 99 (by kernel_rfl) ?_
  refine zt 0 (v := ?v0) HS0.out (fun w0 hS0 => ?hy) ?_
  case hy => obtain ⟨s0, s1, s2, s3, s4⟩ := hS0; go_simp; with_reducible rfl
  simp only [Act.put, List.setIfInBounds_toArray]
  refine zt 1 (v := ?v1) HS0.out (fun w0 hS0 => ?hy) ?_
  case hy => obtain ⟨s0, s1, s2, s3, s4⟩ := hS0; go_simp; with_reducible rfl
  simp only [Act.put]
  refine zt 2 (v := ?v2) HS0.out (fun w0 hS0 => ?hy) ?_
  case hy => obtain ⟨s0, s1, s2, s3, s4⟩ := hS0; go_simp; with_reducible rfl
  simp only [Act.put]
  refine zt 3 (v := ?v3) HS0.out (fun w0 hS0 => ?hy) ?_
  case hy => obtain ⟨s0, s1, s2, s3, s4⟩ := hS0; go_simp; with_reducible rfl
  simp only [Act.put]
  refine wpZ_one 4 _ rfl (by kernel_rfl) (fun KK hK => ?_)
  go_simp
  refine HD.out.mono ?_
  rintro e w4 ⟨va, vc, rfl, hv4, hb4⟩
  clear HD
  dsimp only
  have hA4 := (hb4.block w.heap.size (by omega)).trans HA.out
  have hR4 := (hb4.block (w.heap.size + 1 + 1) (by omega)).trans HR.out
  have hc4 := cells5_of hA4
  refine hK.out _ _ (fun _ => hc4) ?_
  clear hK
  refine zt 5 (v := ?v5) hc4 (fun w0 hS0 => ?hy) ?_
  case hy =>
    go_simp
    with_reducible rfl
  simp only [Act.put, List.setIfInBounds_toArray]
  refine wpZ_one 6 _ rfl (by kernel_rfl) (fun KK hK => ?_)
  have r0 : w4.cell? ⟨w.heap.size + 1 + 1, 0, none⟩ = some (.int .u8 0) := by simp [World.cell?, hR4]
  have fz0 : w4.frozen? ⟨w.heap.size + 1 + 1, 0, none⟩ = false := by simp [World.frozen?, hR4]
  have r1 : w4.cell? ⟨w.heap.size + 1 + 1, 1, none⟩ = some (.int .u8 0) := by simp [World.cell?, hR4]
  have fz1 : w4.frozen? ⟨w.heap.size + 1 + 1, 1, none⟩ = false := by simp [World.frozen?, hR4]
  have r2 : w4.cell? ⟨w.heap.size + 1 + 1, 2, none⟩ = some (.int .u8 0) := by simp [World.cell?, hR4]
  have fz2 : w4.frozen? ⟨w.heap.size + 1 + 1, 2, none⟩ = false := by simp [World.frozen?, hR4]
  have r3 : w4.cell? ⟨w.heap.size + 1 + 1, 3, none⟩ = some (.int .u8 0) := by simp [World.cell?, hR4]
  have fz3 : w4.frozen? ⟨w.heap.size + 1 + 1, 3, none⟩ = false := by simp [World.frozen?, hR4]
  have r4 : w4.cell? ⟨w.heap.size + 1 + 1, 4, none⟩ = some (.bool false) := by simp [World.cell?, hR4]
  have fz4 : w4.frozen? ⟨w.heap.size + 1 + 1, 4, none⟩ = false := by simp [World.frozen?, hR4]
  have r5 : w4.cell? ⟨w.heap.size + 1 + 1, 5, none⟩ = some (.slice none 0 0) := by simp [World.cell?, hR4]
  have fz5 : w4.frozen? ⟨w.heap.size + 1 + 1, 5, none⟩ = false := by simp [World.frozen?, hR4]
  go_simp
  obtain ⟨w9, hw9⟩ : ∃ w9, w9 = (((((w4.setCell ⟨w.heap.size + 1 + 1, 0, none⟩ (.int .u8 i.a)).setCell ⟨w.heap.size + 1 + 1, 1, none⟩ (.int .u8 i.b)).setCell ⟨w.heap.size + 1 + 1, 2, none⟩ (.int .u8 i.c)).setCell ⟨w.heap.size + 1 + 1, 3, none⟩ (.int .u8 i.d)).setCell ⟨w.heap.size + 1 + 1, 4, none⟩ (.bool false)).setCell ⟨w.heap.size + 1 + 1, 5, none⟩ (.slice va (deadRow S).length vc) := ⟨_, rfl⟩
  rw [← hw9]
  obtain ⟨s1, s2⟩ := six_set w4 _ _ _ _ _ w9 w9.drew (w.heap.size + 1 + 1) _ rfl _ _ _ _ _ _ hR4 rfl rfl rfl rfl rfl hw9 rfl
  have hv9 : SV w9 (.slice va (deadRow S).length vc) (deadRow S) := hv4.far (w' := w9.drew) hR4 (by simp) (by rw [s2.size]; exact Nat.le_refl _) (fun k _ hk => s2.block k hk)
  have hbw4 : Below w.heap.size w w4 := hb3.trans (hb4.mono (by omega))
  have hb9 : Below w.heap.size w w9 := ⟨s2.os.trans hbw4.os, s2.tape.trans hbw4.tape, s2.output.trans hbw4.output, by have := s2.size; have := hbw4.size; simp at *; omega, fun k hk => (s2.block k (by omega)).trans (hbw4.block k hk)⟩
  have hc9 := cells5_of ((s2.block w.heap.size (by omega)).trans hA4)
  refine hK.out _ _ (fun _ => hc9) ?_
  clear hK hw9 s2 r0 r1 r2 r3 r4 r5 fz0 fz1 fz2 fz3 fz4 fz5
  refine wpZ_done (by kernel_rfl) ?_ _
  go_wp2
  refine bodyPost_ret (results_cell_row (p := 4) (ty := 185) (by kernel_rfl) _ _ (w.heap.size + 1 + 1) 185 _ (0, 0) _ rfl s1 Tryz.underlying185 rfl (by kernel_rfl)) rfl ?_
  exact ⟨_, rfl, hv9, hb9⟩
def removeHead (name : ByteArray) : ByteArray := ((⟨#[114, 101, 109, 111, 118, 101, 32]⟩ : ByteArray) ++ name) ++ ⟨#[10]⟩
theorem remtell344_any (i : Pid) (S : List Spot) (rv : Value) (name : ByteArray) (hname : name.size ≤ 1000) (x : Value) (j : Pid) (al : Bool) (xa : Option Addr) (xn xc : Nat) (hx : x = .slice xa xn xc) (w : World) (hr : SV w rv S) (hS : Small S) :
    Calls Tryz.prog 344 #[.agg #[.int .u8 i.a, .int .u8 i.b, .int .u8 i.c, .int .u8 i.d, rv], .string name, .agg #[.int .u8 j.a, .int .u8 j.b, .int .u8 j.c, .int .u8 j.d, .bool al, x]] w fun e w' => e = .returned (.string (removeHead name ++ tellB ⟨#[45]⟩ S)) ∧ Below w.heap.size w w' := by
  subst hx
  obtain ⟨ra, rc, rfl⟩ := hr.shape
  obtain ⟨w3, hw3⟩ : ∃ w3, w3 = (w.alloc (.cells #[.int .u8 i.a, .int .u8 i.b, .int .u8 i.c, .int .u8 i.d, .slice ra S.length rc] 284)).alloc (.cells #[.int .u8 j.a, .int .u8 j.b, .int .u8 j.c, .int .u8 j.d, .bool al, .slice xa xn xc] 185) := ⟨_, rfl⟩
  obtain ⟨hb3, hs3, hA⟩ := two_blocks w _ _ hw3
  have HC : Hid (Calls Tryz.prog 338 #[.string ⟨#[45]⟩, .slice ra S.length rc] w3 fun e w' => e = .returned (.string (tellB ⟨#[45]⟩ S)) ∧ Below w3.heap.size w3 w') := tellLines240_small ⟨#[45]⟩ S _ w3 (hr.below hb3 (Nat.le_refl _)) (by decide) hS
  have z0 := tellB_size ⟨#[45]⟩ S (by decide) hS
  have z1 : (⟨#[114, 101, 109, 111, 118, 101, 32]⟩ : ByteArray).size ≤ 7 := by decide
  have z2 : (⟨#[10]⟩ : ByteArray).size ≤ 1 := by decide
  have z3 : ((⟨#[114, 101, 109, 111, 118, 101, 32]⟩ : ByteArray) ++ name).size ≤ 1007 := by rw [ByteArray.size_append]; omega
  have z4 : (((⟨#[114, 101, 109, 111, 118, 101, 32]⟩ : ByteArray) ++ name) ++ ⟨#[10]⟩).size ≤ 1008 := by rw [ByteArray.size_append]; omega
  clear hA
  go_enter Tryz.func344, Tryz.ntmps344
  go_wp2_with fail
  rw [← hw3]
  clear hw3 hr
  refine HC.out.mono ?_
  rintro e w4 ⟨rfl, hb4⟩
  clear HC
  have hb5 : Below w.heap.size w w4 := hb3.trans (hb4.mono (by omega))
  obtain ⟨T, hT⟩ : ∃ T, tellB ⟨#[45]⟩ S = T := ⟨_, rfl⟩
  rw [hT] at z0 ⊢
  have HT := hid hT
  clear hT
  go_wp2
  go_ret
  exact ⟨by rw [HT.out]; rfl, hb5⟩
end Go.Proofs.YtgdfipmdmgkidaaGreatDoor
