/- What some patches have made: the map of the last files by name. -/
import Derived.Test.YtgdfipmdmgkidaaGreatDoorPhunks
import Derived.Maps.OwnSet
import Derived.Test.YtgdfipmdmgkidaaGreatDoorPalter
set_option maxHeartbeats 3200000
set_option maxRecDepth 100000
namespace Go.Proofs.YtgdfipmdmgkidaaGreatDoor
open Go.RowKit
open Go.ChangeMaps Go.MapKept
structure Lat where
  by_ : Pid
  alive : Bool
  rv : Value
  S : List Spot
def latV (l : Lat) : Value := .agg #[.int .u8 l.by_.a, .int .u8 l.by_.b, .int .u8 l.by_.c, .int .u8 l.by_.d, .bool l.alive, l.rv]
def lat0 : Lat := ⟨⟨0, 0, 0, 0⟩, false, .slice none 0 0, []⟩
def latElem : Value → Option (DataW Value × List MemPlace)
  | .agg cs => some (.held (.agg cs), [])
  | _ => none
theorem latElem_mk (l : Lat) : latElem (latV l) = some (.held (latV l), []) := rfl
theorem latElem_inv {v u : Value} {ps : List MemPlace} (h : latElem v = some (.held u, ps)) : v = u := by
  unfold latElem at h
  split at h
  · simp at h; exact h.1
  · cases h
theorem bytes_inj {s t : ByteArray} (h : s.data.toList = t.data.toList) : s = t := ByteArray.ext (Array.toList_inj.1 h)
def kl (s : ByteArray) : Lit := .string s.data.toList
theorem kl_inj {s t : ByteArray} (h : kl s = kl t) : s = t := by
  unfold kl at h
  injection h with h
  exact bytes_inj h
theorem kl_key (s : ByteArray) : WideAt.IsKeyLit (kl s) := trivial
theorem kl_of {s : ByteArray} (hs : s.size ≤ maxLen) : keyOf Tryz.prog 9 (.string s) = some (kl s) := WideMaps.keyOf_string_mk Tryz.underlying9 hs
theorem zero147 (w : World) : (zeroValue 185).run Tryz.prog w = .ok (latV lat0) w := Tryz.zeroValue185 w
def KAt (w : World) (mb : Nat) (f : ByteArray → Lat) (has : ByteArray → Bool) : Prop := ∃ (n : Nat) (D : DataW Value), n ≤ 1000000 ∧ w.ownsMap Tryz.prog 9 latElem mb n D ∧ (∀ x, D.atKey (kl x) (.held (latV lat0)) = .held (latV (f x))) ∧ (∀ x, Maps.has D (kl x) = has x) ∧ (∀ x, has x = false → f x = lat0)
theorem KAt.lt {w : World} {mb : Nat} {f : ByteArray → Lat} {has : ByteArray → Bool} (h : KAt w mb f has) : mb < w.heap.size := by
  obtain ⟨n, D, _, h1, _⟩ := h
  exact h1.lt
theorem KAt.look {w : World} {mb : Nat} {f : ByteArray → Lat} {has : ByteArray → Bool} (h : KAt w mb f has) (x : ByteArray) (hx : x.size ≤ 1000000) : (Instr.lookup 119 (.map (some mb)) (.string x) false).run Tryz.prog w = .ok (latV (f x)) w := by
  obtain ⟨n, D, _, h1, h2, _⟩ := h
  obtain ⟨v, ps, hr, hv⟩ := h1.lookup (Maps.string_keyed Tryz.underlying9) Tryz.underlying119 (zero147 w) (latElem_mk lat0) (kl_of (s := x) (by unfold maxLen; omega))
  rw [h2 x] at hv
  rw [hr, latElem_inv hv]
theorem KAt.put {w : World} {mb : Nat} {f : ByteArray → Lat} {has : ByteArray → Bool} (n : Nat) (D : DataW Value) (hn : n + 1 ≤ 1000000) (h1 : w.ownsMap Tryz.prog 9 latElem mb n D) (h2 : ∀ x, D.atKey (kl x) (.held (latV lat0)) = .held (latV (f x))) (h3 : ∀ x, Maps.has D (kl x) = has x) (h4 : ∀ x, has x = false → f x = lat0) (a : ByteArray) (l : Lat) (ha : a.size ≤ 1000000) :
    ∃ w', (Instr.mapUpdate 119 (.map (some mb)) (.string a) (latV l)).run Tryz.prog w = .ok () w' ∧ w'.ownsMap Tryz.prog 9 latElem mb (n + 1) (D.put (kl a) (.held (latV l))) ∧ KAt w' mb (fun x => if x = a then l else f x) (fun x => decide (x = a) || has x) ∧ w.grownBy w' (some mb) := by
  obtain ⟨w', hr, ho, hg⟩ := h1.update (Maps.string_keyed Tryz.underlying9) Tryz.underlying119 (by unfold maxLen; omega) (kl_of (s := a) (by unfold maxLen; omega)) (latElem_mk l)
  refine ⟨w', hr, ho, ⟨n + 1, _, hn, ho, fun x => ?_, fun x => ?_, fun x hx => ?_⟩, hg⟩
  · show _ = DataW.held (latV (if x = a then l else f x))
    by_cases e : x = a
    · subst e
      rw [Maps.atKey_put_same h1.isMap (kl_key x), if_pos rfl]
    · rw [Maps.atKey_put_other (fun q => e (kl_inj q)), h2, if_neg e]
  · by_cases e : x = a
    · subst e
      rw [Maps.has_put_same h1.isMap (kl_key x)]; simp
    · rw [Maps.has_put_other (fun q => e (kl_inj q)), h3]; simp [e]
  · have e : x ≠ a := fun e => by simp [e] at hx
    show (if x = a then l else f x) = lat0
    rw [if_neg e]
    exact h4 x (by simpa [e] using hx)
theorem KAt.same {w w' : World} {mb : Nat} {f : ByteArray → Lat} {has : ByteArray → Bool} (h : KAt w mb f has) (hb : w'.heap[mb]? = w.heap[mb]?) : KAt w' mb f has := by
  obtain ⟨n, D, hn, ⟨es, clock, he, hr⟩, h2⟩ := h
  exact ⟨n, D, hn, ⟨es, clock, hb.trans he, hr⟩, h2⟩
theorem lat0_row (w : World) : SV w lat0.rv lat0.S := .inl ⟨rfl, rfl⟩
def fileV (name : ByteArray) (there : Bool) (text : ByteArray) : Value := .agg #[.string name, .bool there, .string text]
def keptFile (f : ByteArray → Lat) (x : ByteArray) : Value := if (f x).alive = true then fileV x true (rowText (f x).S) else fileV x false ⟨#[]⟩
theorem free3 {w : World} {g : Nat} {c : Array Value} {t : TypeId} (h : w.heap[g]? = some (.cells c t (0, 0))) (o : Nat) : w.frozen? ⟨g, o, none⟩ = false := by
  simp [World.frozen?, h]
theorem cells3_set (w w1 w2 w3 w9 : World) (g : Nat) (t : TypeId) (c : Array Value) (hc : c.size = 3) (x0 x1 x2 : Value) (hg : w.heap[g]? = some (.cells c t (0, 0)))
    (e1 : w1 = w.setCell ⟨g, 0, none⟩ x0) (e2 : w2 = w1.setCell ⟨g, 1, none⟩ x1) (e3 : w3 = w2.setCell ⟨g, 2, none⟩ x2) (e9 : w9 = w3) :
    w9.heap[g]? = some (.cells #[x0, x1, x2] t (0, 0)) ∧ Over g w w9 := by
  have g1 := heap_setCell_same w g 0 _ t x0 hg
  have o1 := Over.set w g 0 x0
  rw [← e1] at g1 o1
  have g2 := heap_setCell_same w1 g 1 _ t x1 g1
  have o2 := o1.trans (Over.set w1 g 1 x1)
  rw [← e2] at g2 o2
  have g3 := heap_setCell_same w2 g 2 _ t x2 g2
  have o3 := o2.trans (Over.set w2 g 2 x2)
  rw [← e3] at g3 o3
  have ha : ((c.setIfInBounds 0 x0).setIfInBounds 1 x1).setIfInBounds 2 x2 = #[x0, x1, x2] := by
    obtain ⟨l⟩ := c
    match l, hc with
    | [y0, y1, y2], _ => simp
  rw [ha] at g3
  rw [e9]
  exact ⟨g3, o3⟩
theorem file55_dead (f : ByteArray → Lat) (has : ByteArray → Bool) (mb : Nat) (x : ByteArray) (hx : x.size ≤ 1000000) (w : World) (h : KAt w mb f has) (hr : SV w (f x).rv (f x).S) (ha : (f x).alive = false) :
    Calls Tryz.prog 78 #[.agg #[.map (some mb)], .string x] w fun e w' => e = .returned (keptFile f x) ∧ Below w.heap.size w w' := by
  have HK : Hid (keptFile f x = fileV x false ⟨#[]⟩) := by show _ = _; unfold keptFile; rw [if_neg (by rw [ha]; simp)]
  have hmb := h.lt
  obtain ⟨l, hl⟩ : ∃ l, f x = l := ⟨_, rfl⟩
  rw [hl] at hr ha
  obtain ⟨ra, rc, hre⟩ := hr.shape
  obtain ⟨⟨ba, bb, bc, bd⟩, al, rv, S⟩ := l
  simp only at ha hre hr
  subst ha hre
  obtain ⟨w2, hw2⟩ : ∃ w2, w2 = (w.alloc (.cells #[.map (some mb)] 121)).alloc (.cells #[.string ⟨#[]⟩, .bool false, .string ⟨#[]⟩] 118) := ⟨_, rfl⟩
  obtain ⟨hb2, hs2, hk2, hf2⟩ := two_blocks' w _ _ hw2
  have hlk := (h.same (hb2.block mb hmb)).look x hx
  rw [hl] at hlk
  unfold latV at hlk
  simp only at hlk
  go_enter Tryz.func78, Tryz.ntmps78
  go_wp2
  rw [← hw2, hlk]
  clear hlk hw2
  have hs2' : w.heap.size + 1 < w2.heap.size := by omega
  clear hs2
  obtain ⟨r0, r1, r2⟩ := cells3_at hf2
  have z0 := free3 hf2 0
  have z1 := free3 hf2 1
  have z2 := free3 hf2 2
  have hne : w.heap.size + 1 ≠ w2.heap.size := by omega
  go_wp2
  obtain ⟨w5, hw5⟩ : ∃ w5, w5 = ((w2.setCell ⟨w.heap.size + 1, 0, none⟩ (.string x)).setCell ⟨w.heap.size + 1, 1, none⟩ (.bool false)).setCell ⟨w.heap.size + 1, 2, none⟩ (.string ⟨#[]⟩) := ⟨_, rfl⟩
  obtain ⟨s1, s2⟩ := cells3_set w2 _ _ _ w5 (w.heap.size + 1) 118 _ rfl _ _ _ hf2 rfl rfl rfl hw5
  rw [← hw5]
  have hs5 : w.heap.size + 1 < w5.heap.size := by rw [s2.size]; exact hs2'
  have hb5 : Below w.heap.size w w5 := ⟨s2.os.trans hb2.os, s2.tape.trans hb2.tape, s2.output.trans hb2.output, by rw [s2.size]; exact hb2.size, fun k hk => (s2.block k (by omega)).trans (hb2.block k hk)⟩
  have s9 : (w5.alloc (.cells #[.int .u8 ba, .int .u8 bb, .int .u8 bc, .int .u8 bd, .bool false, .slice ra S.length rc] 185)).heap[w.heap.size + 1]? = _ := (Below.heap_alloc w5 _ _ hs5).trans s1
  refine bodyPost_ret (results_cell_row (p := 4) (ty := 118) (by kernel_rfl) _ _ (w.heap.size + 1) 118 _ (0, 0) _ rfl s9 Tryz.underlying118 rfl (by kernel_rfl)) rfl ?_
  exact ⟨by rw [HK.out]; rfl, hb5.alloc (by omega) _⟩
theorem file55_alive (f : ByteArray → Lat) (has : ByteArray → Bool) (mb : Nat) (x : ByteArray) (hx : x.size ≤ 1000000) (w : World) (h : KAt w mb f has) (hr : SV w (f x).rv (f x).S) (ha : (f x).alive = true) (hS : (f x).S.length ≤ 1000000) (hT : (rowText (f x).S).size ≤ 1000000000) :
    Calls Tryz.prog 78 #[.agg #[.map (some mb)], .string x] w fun e w' => e = .returned (keptFile f x) ∧ Below w.heap.size w w' := by
  have HK : Hid (keptFile f x = fileV x true (rowText (f x).S)) := by show _ = _; unfold keptFile; rw [if_pos ha]
  have hmb := h.lt
  obtain ⟨l, hl⟩ : ∃ l, f x = l := ⟨_, rfl⟩
  rw [hl] at hr ha hS hT HK
  obtain ⟨ra, rc, hre⟩ := hr.shape
  obtain ⟨⟨ba, bb, bc, bd⟩, al, rv, S⟩ := l
  simp only at ha hre hr hS hT HK
  subst ha hre
  obtain ⟨w2, hw2⟩ : ∃ w2, w2 = (w.alloc (.cells #[.map (some mb)] 121)).alloc (.cells #[.string ⟨#[]⟩, .bool false, .string ⟨#[]⟩] 118) := ⟨_, rfl⟩
  obtain ⟨hb2, hs2, hk2, hf2⟩ := two_blocks' w _ _ hw2
  have hlk := (h.same (hb2.block mb hmb)).look x hx
  rw [hl] at hlk
  unfold latV at hlk
  simp only at hlk
  obtain ⟨T, hTe⟩ : ∃ T, rowText S = T := ⟨_, rfl⟩
  have HTE := hid hTe
  go_enter Tryz.func78, Tryz.ntmps78
  go_wp2
  rw [← hw2, hlk]
  clear hlk hw2
  have hs2' : w.heap.size + 1 < w2.heap.size := by omega
  clear hs2
  obtain ⟨w3, hw3⟩ : ∃ w3, w3 = w2.alloc (.cells #[.int .u8 ba, .int .u8 bb, .int .u8 bc, .int .u8 bd, .bool true, .slice ra S.length rc] 185) := ⟨_, rfl⟩
  have hb3 : Below w2.heap.size w2 w3 := by rw [hw3]; exact (Below.refl _ _).alloc (Nat.le_refl _) _
  have HX : Hid (Calls Tryz.prog 135 #[.slice ra S.length rc] w3 fun e w' => e = .returned (.string T) ∧ Below w3.heap.size w3 w') := by
    have := text98_any S _ w3 ((hr.below hb2 (Nat.le_refl _)).below hb3 (Nat.le_refl _)) hS hT
    rw [hTe] at this
    exact this
  clear hTe hT
  go_wp2_with fail
  rw [← hw3]
  clear hw3
  refine HX.out.mono ?_
  rintro e w4 ⟨rfl, hb4⟩
  clear HX
  have hs3 := hb3.size
  have hs4 := hb4.size
  have hb04 : Below w.heap.size w w4 := (hb2.trans (hb3.mono (by omega))).trans (hb4.mono (by omega))
  have hf4 : w4.heap[w.heap.size + 1]? = some (.cells #[.string ⟨#[]⟩, .bool false, .string ⟨#[]⟩] 118 (0, 0)) := (hb4.block _ (by omega)).trans ((hb3.block _ hs2').trans hf2)
  obtain ⟨r0, r1, r2⟩ := cells3_at hf4
  have z0 := free3 hf4 0
  have z1 := free3 hf4 1
  have z2 := free3 hf4 2
  clear hb3 hb4 hf2 hk2 hb2
  go_wp2
  obtain ⟨w5, hw5⟩ : ∃ w5, w5 = ((w4.setCell ⟨w.heap.size + 1, 0, none⟩ (.string x)).setCell ⟨w.heap.size + 1, 1, none⟩ (.bool true)).setCell ⟨w.heap.size + 1, 2, none⟩ (.string T) := ⟨_, rfl⟩
  obtain ⟨s1, s2⟩ := cells3_set w4 _ _ _ w5 (w.heap.size + 1) 118 _ rfl _ _ _ hf4 rfl rfl rfl hw5
  rw [← hw5]
  have hb5 : Below w.heap.size w w5 := ⟨s2.os.trans hb04.os, s2.tape.trans hb04.tape, s2.output.trans hb04.output, by rw [s2.size]; exact hb04.size, fun k hk => (s2.block k (by omega)).trans (hb04.block k hk)⟩
  refine bodyPost_ret (results_cell_row (p := 4) (ty := 118) (by kernel_rfl) _ _ (w.heap.size + 1) 118 _ (0, 0) _ rfl s1 Tryz.underlying118 rfl (by kernel_rfl)) rfl ?_
  exact ⟨by rw [HK.out, HTE.out]; rfl, hb5⟩
end Go.Proofs.YtgdfipmdmgkidaaGreatDoor

/- Patches in memory; a patch is told. -/
namespace Go.Proofs.YtgdfipmdmgkidaaGreatDoor
open Go.RowKit
inductive ChM where
  | add (i l : Pid) (rv : Value) (S : List Spot)
  | remove (i : Pid) (rv : Value) (S : List Spot)
  | alter (i : Pid) (hv : Value) (Hs : List Hk)
def chIn : ChM → Value
  | .add i l rv _ => .agg #[.int .u8 i.a, .int .u8 i.b, .int .u8 i.c, .int .u8 i.d, .int .u8 l.a, .int .u8 l.b, .int .u8 l.c, .int .u8 l.d, rv]
  | .remove i rv _ => .agg #[.int .u8 i.a, .int .u8 i.b, .int .u8 i.c, .int .u8 i.d, rv]
  | .alter i hv _ => .agg #[.int .u8 i.a, .int .u8 i.b, .int .u8 i.c, .int .u8 i.d, hv]
def chT : ChM → TypeId
  | .add .. => 282
  | .remove .. => 284
  | .alter .. => 288
def chTell : ChM → FuncId
  | .add .. => 336
  | .remove .. => 344
  | .alter .. => 354
def chApply : ChM → FuncId
  | .add .. => 332
  | .remove .. => 340
  | .alter .. => 350
def chV (c : ChM) : Value := .iface (chT c) (chIn c)
def ChOK (w : World) : ChM → Prop
  | .add _ _ rv S => SV w rv S
  | .remove _ rv S => SV w rv S
  | .alter _ hv Hs => HV w hv Hs
theorem ChOK.below {w w' : World} {c : ChM} (h : ChOK w c) {B : Nat} (hb : Below B w w') (hB : w.heap.size ≤ B) : ChOK w' c := by
  cases c
  · exact SV.below h hb hB
  · exact SV.below h hb hB
  · exact HV.below h hb hB
theorem bldAt_below {w w' : World} {T e : TypeId} {B b : Nat} {p : Value} {bs : List Value} (h : Lib.BuilderAtF T e B b p bs w) (hb : Below w.heap.size w w') : Lib.BuilderAtF T e B b p bs w' := by
  have lt : ∀ {k : Nat} {o : Obj}, w.heap[k]? = some o → k < w.heap.size := fun {k o} hk => by
    rcases Nat.lt_or_ge k w.heap.size with h' | h'
    · exact h'
    · rw [Array.getElem?_eq_none h'] at hk; cases hk
  obtain ⟨h1, v, h2, ⟨h3, h4⟩, h5⟩ := h
  refine ⟨h1, v, (hb.block b (lt h2)).trans h2, ⟨h3, ?_⟩, h5⟩
  rcases h4 with h4 | ⟨g, cap, cur, fz, a1, a2, a3, a4⟩
  · exact .inl h4
  · exact .inr ⟨g, cap, cur, fz, a1, a2, (hb.block g (lt a3)).trans a3, a4⟩
theorem bld_below {w w' : World} {T e : TypeId} {B b : Nat} {bs : List Value} (h : Lib.IsBuilderF T e B b bs w) (hb : Below w.heap.size w w') : Lib.IsBuilderF T e B b bs w' :=
  h.elim (fun x => .inl (bldAt_below x hb)) (fun x => .inr (bldAt_below x hb))
theorem meth_tell236 (v : Value) (w : World) : (method 512 282 v "stitch/patch.tell").run Tryz.prog w = .ok (336, v) w := by kernel_rfl
theorem meth_tell238 (v : Value) (w : World) : (method 512 284 v "stitch/patch.tell").run Tryz.prog w = .ok (344, v) w := by kernel_rfl
theorem meth_tell242 (v : Value) (w : World) : (method 512 288 v "stitch/patch.tell").run Tryz.prog w = .ok (354, v) w := by kernel_rfl
theorem meth_apply236 (v : Value) (w : World) : (method 512 282 v "stitch/patch.apply").run Tryz.prog w = .ok (332, v) w := by kernel_rfl
theorem meth_apply238 (v : Value) (w : World) : (method 512 284 v "stitch/patch.apply").run Tryz.prog w = .ok (340, v) w := by kernel_rfl
theorem meth_apply242 (v : Value) (w : World) : (method 512 288 v "stitch/patch.apply").run Tryz.prog w = .ok (350, v) w := by kernel_rfl
def CV (w : World) (v : Value) (Cs : List (ByteArray × ChM)) : Prop := ∃ ao cap, v = .slice ao Cs.length cap ∧ ∀ (k : Nat) (c : ByteArray × ChM), Cs[k]? = some c → ∃ b o, ao = some ⟨b, o, none⟩ ∧ TB w b 226 ∧ w.cell? ⟨b, o + k * 2, none⟩ = some (.string c.1) ∧ w.cell? ⟨b, o + k * 2 + 1, none⟩ = some (chV c.2) ∧ ChOK w c.2
theorem CV.below {w w' : World} {v : Value} {Cs : List (ByteArray × ChM)} (h : CV w v Cs) {B : Nat} (hb : Below B w w') (hB : w.heap.size ≤ B) : CV w' v Cs := by
  obtain ⟨ao, cap, rfl, hc⟩ := h
  refine ⟨ao, cap, rfl, fun k r hk => ?_⟩
  obtain ⟨b, o, e, h1, h2, h3, h4⟩ := hc k r hk
  have hlt := h1.lt
  exact ⟨b, o, e, h1.below hb hB, (hb.cell (p := ⟨b, o + k * 2, none⟩) (by simp; omega)).trans h2, (hb.cell (p := ⟨b, o + k * 2 + 1, none⟩) (by simp; omega)).trans h3, h4.below hb hB⟩
set_option maxRecDepth 100000 in
set_option maxHeartbeats 3200000 in
theorem ptell90_any (i : Pid) (Cs : List (ByteArray × ChM)) (cv : Value) (mb : Nat) (f : ByteArray → Lat) (has : ByteArray → Bool) (t : Nat → ByteArray) (g : Nat → List UInt8) (w : World) (hc : CV w cv Cs) (hk : KAt w mb f has) (hCs : Cs.length ≤ 100000) (hnm : ∀ c ∈ Cs, c.1.size ≤ 1000)
    (ht : ∀ (k : Nat) (c : ByteArray × ChM), Cs[k]? = some c → ∀ u, Below w.heap.size w u → Calls Tryz.prog (chTell c.2) #[chIn c.2, .string c.1, latV (f c.1)] u fun e w' => e = .returned (.string (t k)) ∧ Below u.heap.size u w')
    (hg0 : g 0 = []) (hg : ∀ k, k < Cs.length → g (k + 1) = g k ++ (t k).data.toList) (hgs : ∀ k, k ≤ Cs.length → (g k).length ≤ 1000000000) (hts : ∀ k, (t k).size ≤ 1000000000) :
    Calls Tryz.prog 113 #[.agg #[.int .u8 i.a, .int .u8 i.b, .int .u8 i.c, .int .u8 i.d, cv], .agg #[.map (some mb)]] w fun e w' => e = .returned (.string ⟨(g Cs.length).toArray⟩) ∧ Below w.heap.size w w' := by
  have HCV := hid hc
  obtain ⟨ca, cc, rfl, hcc⟩ := hc
  clear hcc
  have hmb := hk.lt
  obtain ⟨w3, hw3⟩ : ∃ w3, w3 = ((w.alloc (.cells #[.int .u8 i.a, .int .u8 i.b, .int .u8 i.c, .int .u8 i.d, .slice ca Cs.length cc] 149)).alloc (.cells #[.map (some mb)] 121)).alloc (.cells #[.pointer none, .slice none 0 0] 158) := ⟨_, rfl⟩
  obtain ⟨hb3, hs3, hA, hR⟩ := three_blocks w _ _ _ hw3
  have hM3 : w3.heap[w.heap.size + 1]? = some (.cells #[.map (some mb)] 121 (0, 0)) := by
    rw [hw3]
    have s1 : (w.alloc (.cells #[.int .u8 i.a, .int .u8 i.b, .int .u8 i.c, .int .u8 i.d, .slice ca Cs.length cc] 149)).heap.size = w.heap.size + 1 := by simp
    rw [Below.heap_alloc _ _ _ (by simp)]
    have := (MapKept.heap_alloc (w.alloc (.cells #[.int .u8 i.a, .int .u8 i.b, .int .u8 i.c, .int .u8 i.d, .slice ca Cs.length cc] 149)) (.cells #[.map (some mb)] 121)).1
    rwa [s1] at this
  have hs3' : w.heap.size + 1 + 1 < w3.heap.size := by omega
  have c4 : w3.cell? ⟨w.heap.size, 4, none⟩ = some (.slice ca Cs.length cc) := by simp [World.cell?, hA]
  have HB0 : Hid (Lib.IsBuilderF 158 5 (w.heap.size + 1 + 1) (w.heap.size + 1 + 1) (Lib.byteCells []) w3) := .inl ⟨Nat.le_refl _, .slice none 0 0, hR, World.ownsRowF_of (World.ownsRow_nil _ _ _ _), by simp [Value.ownBlock]⟩
  have HG0 := hid hg0
  have HG := hid hg
  have HGS := hid hgs
  have HT := hid ht
  have HTS := hid hts
  clear hs3 hg0 hg hgs ht hts hA hR
  go_enter Tryz.func113, Tryz.ntmps113
  go_wp2
  rw [← hw3]
  clear hw3
  have HM3 := hid hM3
  clear hM3
  go_loopw [11] (fun x wr => ∃ k : Nat, k ≤ Cs.length ∧ x = .int .i64 k ∧ Hid (Lib.IsBuilderF 158 5 (w.heap.size + 1 + 1) (w.heap.size + 1 + 1) (Lib.byteCells (g k)) wr) ∧ Below (w.heap.size + 1 + 1) w3 wr) (fun x _ => Cs.length - (intOf x).toNat)
  case atStart => exact ⟨0, Nat.zero_le _, rfl, by show Lib.IsBuilderF _ _ _ _ _ _; rw [HG0.out]; exact HB0.out, Below.refl _ _⟩
  case round =>
    clear HB0 c4
    obtain ⟨k, hkl, rfl, HB, hbw⟩ := hrel
    have hszr := hbw.size
    have hbw0 : Below w.heap.size w wr := hb3.trans (hbw.mono (by omega))
    by_cases hlt : k < Cs.length
    · obtain ⟨c, hck⟩ : ∃ c, Cs[k]? = some c := ⟨_, List.getElem?_eq_getElem hlt⟩
      obtain ⟨_, _, e1, hc1⟩ := HCV.out.below hbw0 (Nat.le_refl _)
      cases e1
      obtain ⟨b, o, rfl, hb, c0, c1, _⟩ := hc1 k c hck
      have hnk := hnm c (List.mem_of_getElem? hck)
      have HTK := HT.out k c hck
      obtain ⟨nm, ch⟩ := c
      simp only at c0 c1 hnk HTK
      have hgk := HG.out k hlt
      have hgs1 := HGS.out k hkl
      have hts := HTS.out k
      obtain ⟨T, hT⟩ : ∃ T, t k = T := ⟨_, rfl⟩
      rw [hT] at HTK hgk hts
      have HGK := hid hgk
      obtain ⟨A, hA⟩ : ∃ A, g k = A := ⟨_, rfl⟩
      rw [hA] at hgs1
      have HGA := hid hA
      obtain ⟨L, hL⟩ : ∃ L, latV (f nm) = L := ⟨_, rfl⟩
      rw [hL] at HTK
      obtain ⟨lcs, hLs⟩ : ∃ cs, L = .agg cs := ⟨_, hL.symm⟩
      have hlook : (Instr.lookup 119 (.map (some mb)) (.string nm) false).run Tryz.prog (wr.alloc (.cells #[.string nm, chV ch] 226)) = .ok L (wr.alloc (.cells #[.string nm, chV ch] 226)) := by
        rw [← hL]
        refine (hk.same ?_).look nm (by omega)
        rw [Below.heap_alloc wr _ _ (by have := hbw0.size; omega)]
        exact hbw0.block mb hmb
      have hm1 : wr.cell? ⟨w.heap.size + 1, 0, none⟩ = some (.map (some mb)) := by
        have := (hbw.block (w.heap.size + 1) (by omega)).trans HM3.out
        simp [World.cell?, this]
      have hne1 : w.heap.size + 1 ≠ wr.heap.size := by omega
      have hm2 : (wr.alloc (.cells #[.string nm, chV ch] 226)).cell? ⟨w.heap.size + 1, 0, none⟩ = some (.map (some mb)) := (((Below.refl wr.heap.size wr).alloc (Nat.le_refl _) _).cell (p := ⟨w.heap.size + 1, 0, none⟩) (by show w.heap.size + 1 < wr.heap.size; omega)).trans hm1
      have hbA : Below w.heap.size w (wr.alloc (.cells #[.string nm, chV ch] 226)) := hbw0.alloc (by omega) _
      have HTK2 := hid (HTK _ hbA)
      have HBA : Hid (Lib.IsBuilderF 158 5 (w.heap.size + 1 + 1) (w.heap.size + 1 + 1) (Lib.byteCells A) (wr.alloc (.cells #[.string nm, chV ch] 226))) := by
        show Lib.IsBuilderF _ _ _ _ _ _
        rw [← hA]
        exact Lib.IsBuilderF.alloc HB.out _
      clear hgk hT hA hL HTK HB hc1 hck
      subst hLs
      have me1 := meth_tell236
      have me2 := meth_tell238
      have me3 := meth_tell242
      cases ch
      all_goals
        simp only [chV, chIn, chT, chTell] at c1 hlook hbA HTK2 HBA hm2
        go_wp2_with fail
        refine HTK2.out.mono ?_
        rintro e w5 ⟨rfl, hb5⟩
        have HB5 := bld_below HBA.out hb5
        have hs5 : wr.heap.size < w5.heap.size := by have := hb5.size; simp at this; omega
        have hbw5 : Below (w.heap.size + 1 + 1) w3 w5 := (hbw.alloc (by omega) _).trans (hb5.mono (by simp; omega))
        have HW : Hid (Calls Tryz.prog 114 #[.pointer (some ⟨w.heap.size + 1 + 1, 0, none⟩), .string T] w5 fun e w' => e = .returned (.tuple #[.int .i64 T.size, .nilIface]) ∧ (Lib.BuilderAtF 158 5 (w.heap.size + 1 + 1) (w.heap.size + 1 + 1) (.pointer (some ⟨w.heap.size + 1 + 1, 0, none⟩)) (Lib.byteCells A ++ Lib.strCells T) w' ∧ Below (w.heap.size + 1 + 1) w5 w' ∧ Lib.OthersKept 5 (some (w.heap.size + 1 + 1)) w5 w')) := Tryz.Builder_WriteString_k _ _ (Lib.byteCells A) T w5 HB5 (by rw [Lib.byteCells_length]; omega) (by omega)
        clear HTK2 hlook hm2 c0 c1 me1 me2 me3 HBA hbA HB5 hb5
        go_wp2_with fail
        refine HW.out.mono ?_
        rintro e w6 ⟨rfl, hB6, hb6, _⟩
        clear HW
        rw [Lib.strCells_eq, ← byteCells_app] at hB6
        have hbw6 := hbw5.trans hb6
        go_wp2
        go_roundw
        case rel => exact ⟨k + 1, by omega, by go_num, .inr (by rw [HGK.out, HGA.out]; exact hB6), hbw6⟩
        case measure => simp [intOf]; omega
    · have e : k = Cs.length := by omega
      subst e
      have HS : Hid (Calls Tryz.prog 116 #[.pointer (some ⟨w.heap.size + 1 + 1, 0, none⟩)] wr fun e w' => e = .returned (.string ⟨(g Cs.length).toArray⟩) ∧ (Lib.IsBuilderF 158 5 (w.heap.size + 1 + 1) (w.heap.size + 1 + 1) (Lib.byteCells (g Cs.length)) w' ∧ Below (w.heap.size + 1 + 1) wr w' ∧ Lib.OthersKept 5 (some (w.heap.size + 1 + 1)) wr w')) := Tryz.Builder_String_any_k _ _ (g Cs.length) wr HB.out (by omega)
      clear HB
      go_wp2_with fail
      refine HS.out.mono ?_
      rintro e w4 ⟨rfl, _, hbe, _⟩
      clear HS
      go_wp2
      go_ret
      exact ⟨rfl, hbw0.trans (hbe.mono (by omega))⟩
end Go.Proofs.YtgdfipmdmgkidaaGreatDoor
