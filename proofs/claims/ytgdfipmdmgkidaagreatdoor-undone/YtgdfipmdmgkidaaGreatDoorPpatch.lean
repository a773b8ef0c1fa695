/- Patches in memory; a patch is told. -/
import Derived.Test.YtgdfipmdmgkidaaGreatDoorPchange
import Derived.Test.YtgdfipmdmgkidaaGreatDoorPalter
namespace Go.Proofs.YtgdfipmdmgkidaaGreatDoor
open Go.RowKit

/-- A change, as it lies in memory. -/
inductive ChM where
  | add (i l : Pid) (rv : Value) (S : List Spot)
  | remove (i : Pid) (rv : Value) (S : List Spot)
  | alter (i : Pid) (hv : Value) (Hs : List Hk)
def chIn : ChM → Value
  | .add i l rv _ => .agg #[.int .u8 i.a, .int .u8 i.b, .int .u8 i.c, .int .u8 i.d, .int .u8 l.a, .int .u8 l.b, .int .u8 l.c, .int .u8 l.d, rv]
  | .remove i rv _ => .agg #[.int .u8 i.a, .int .u8 i.b, .int .u8 i.c, .int .u8 i.d, rv]
  | .alter i hv _ => .agg #[.int .u8 i.a, .int .u8 i.b, .int .u8 i.c, .int .u8 i.d, hv]
def chT : ChM → TypeId
  | .add .. => 282
  | .remove .. => 284
  | .alter .. => 288
def chTell : ChM → FuncId
  | .add .. => 336
  | .remove .. => 344
  | .alter .. => 354
def chApply : ChM → FuncId
  | .add .. => 332
  | .remove .. => 340
  | .alter .. => 350
def chV (c : ChM) : Value := .iface (chT c) (chIn c)
def ChOK (w : World) : ChM → Prop
  | .add _ _ rv S => SV w rv S
  | .remove _ rv S => SV w rv S
  | .alter _ hv Hs => HV w hv Hs
theorem ChOK.below {w w' : World} {c : ChM} (h : ChOK w c) {B : Nat} (hb : Below B w w') (hB : w.heap.size ≤ B) : ChOK w' c := by
  cases c
  · exact SV.below h hb hB
  · exact SV.below h hb hB
  · exact HV.below h hb hB

theorem bldAt_below {w w' : World} {T e : TypeId} {B b : Nat} {p : Value} {bs : List Value} (h : Lib.BuilderAtF T e B b p bs w) (hb : Below w.heap.size w w') : Lib.BuilderAtF T e B b p bs w' := by
  have lt : ∀ {k : Nat} {o : Obj}, w.heap[k]? = some o → k < w.heap.size := fun {k o} hk => by
    rcases Nat.lt_or_ge k w.heap.size with h' | h'
    · exact h'
    · rw [Array.getElem?_eq_none h'] at hk; cases hk
  obtain ⟨h1, v, h2, ⟨h3, h4⟩, h5⟩ := h
  refine ⟨h1, v, (hb.block b (lt h2)).trans h2, ⟨h3, ?_⟩, h5⟩
  rcases h4 with h4 | ⟨g, cap, cur, fz, a1, a2, a3, a4⟩
  · exact .inl h4
  · exact .inr ⟨g, cap, cur, fz, a1, a2, (hb.block g (lt a3)).trans a3, a4⟩
theorem bld_below {w w' : World} {T e : TypeId} {B b : Nat} {bs : List Value} (h : Lib.IsBuilderF T e B b bs w) (hb : Below w.heap.size w w') : Lib.IsBuilderF T e B b bs w' :=
  h.elim (fun x => .inl (bldAt_below x hb)) (fun x => .inr (bldAt_below x hb))

theorem meth_tell236 (v : Value) (w : World) : (method 512 282 v "stitch/patch.tell").run Tryz.prog w = .ok (336, v) w := by kernel_rfl
theorem meth_tell238 (v : Value) (w : World) : (method 512 284 v "stitch/patch.tell").run Tryz.prog w = .ok (344, v) w := by kernel_rfl
theorem meth_tell242 (v : Value) (w : World) : (method 512 288 v "stitch/patch.tell").run Tryz.prog w = .ok (354, v) w := by kernel_rfl
theorem meth_apply236 (v : Value) (w : World) : (method 512 282 v "stitch/patch.apply").run Tryz.prog w = .ok (332, v) w := by kernel_rfl
theorem meth_apply238 (v : Value) (w : World) : (method 512 284 v "stitch/patch.apply").run Tryz.prog w = .ok (340, v) w := by kernel_rfl
theorem meth_apply242 (v : Value) (w : World) : (method 512 288 v "stitch/patch.apply").run Tryz.prog w = .ok (350, v) w := by kernel_rfl

def CV (w : World) (v : Value) (Cs : List (ByteArray × ChM)) : Prop := ∃ ao cap, v = .slice ao Cs.length cap ∧ ∀ (k : Nat) (c : ByteArray × ChM), Cs[k]? = some c → ∃ b o, ao = some ⟨b, o, none⟩ ∧ TB w b 226 ∧ w.cell? ⟨b, o + k * 2, none⟩ = some (.string c.1) ∧ w.cell? ⟨b, o + k * 2 + 1, none⟩ = some (chV c.2) ∧ ChOK w c.2
theorem CV.below {w w' : World} {v : Value} {Cs : List (ByteArray × ChM)} (h : CV w v Cs) {B : Nat} (hb : Below B w w') (hB : w.heap.size ≤ B) : CV w' v Cs := by
  obtain ⟨ao, cap, rfl, hc⟩ := h
  refine ⟨ao, cap, rfl, fun k r hk => ?_⟩
  obtain ⟨b, o, e, h1, h2, h3, h4⟩ := hc k r hk
  have hlt := h1.lt
  exact ⟨b, o, e, h1.below hb hB, (hb.cell (p := ⟨b, o + k * 2, none⟩) (by simp; omega)).trans h2, (hb.cell (p := ⟨b, o + k * 2 + 1, none⟩) (by simp; omega)).trans h3, h4.below hb hB⟩

set_option maxRecDepth 100000 in
set_option maxHeartbeats 3200000 in
theorem ptell90_any (i : Pid) (Cs : List (ByteArray × ChM)) (cv : Value) (mb : Nat) (f : ByteArray → Lat) (has : ByteArray → Bool) (t : Nat → ByteArray) (g : Nat → List UInt8) (w : World) (hc : CV w cv Cs) (hk : KAt w mb f has) (hCs : Cs.length ≤ 100000) (hnm : ∀ c ∈ Cs, c.1.size ≤ 1000)
    (ht : ∀ (k : Nat) (c : ByteArray × ChM), Cs[k]? = some c → ∀ u, Below w.heap.size w u → Calls Tryz.prog (chTell c.2) #[chIn c.2, .string c.1, latV (f c.1)] u fun e w' => e = .returned (.string (t k)) ∧ Below u.heap.size u w')
    (hg0 : g 0 = []) (hg : ∀ k, k < Cs.length → g (k + 1) = g k ++ (t k).data.toList) (hgs : ∀ k, k ≤ Cs.length → (g k).length ≤ 1000000000) (hts : ∀ k, (t k).size ≤ 1000000000) :
    Calls Tryz.prog 113 #[.agg #[.int .u8 i.a, .int .u8 i.b, .int .u8 i.c, .int .u8 i.d, cv], .agg #[.map (some mb)]] w fun e w' => e = .returned (.string ⟨(g Cs.length).toArray⟩) ∧ Below w.heap.size w w' := by
  have HCV : Hid (CV w cv Cs) := hc
  obtain ⟨ca, cc, rfl, hcc⟩ := hc
  clear hcc
  have hmb := hk.lt
  obtain ⟨w3, hw3⟩ : ∃ w3, w3 = ((w.alloc (.cells #[.int .u8 i.a, .int .u8 i.b, .int .u8 i.c, .int .u8 i.d, .slice ca Cs.length cc] 149)).alloc (.cells #[.map (some mb)] 121)).alloc (.cells #[.pointer none, .slice none 0 0] 158) := ⟨_, rfl⟩
  obtain ⟨hb3, hs3, hA, hR⟩ := three_blocks w _ _ _ hw3
  have hM3 : w3.heap[w.heap.size + 1]? = some (.cells #[.map (some mb)] 121 (0, 0)) := by
    rw [hw3]
    have s1 : (w.alloc (.cells #[.int .u8 i.a, .int .u8 i.b, .int .u8 i.c, .int .u8 i.d, .slice ca Cs.length cc] 149)).heap.size = w.heap.size + 1 := by simp
    rw [Below.heap_alloc _ _ _ (by simp)]
    have := (MapKept.heap_alloc (w.alloc (.cells #[.int .u8 i.a, .int .u8 i.b, .int .u8 i.c, .int .u8 i.d, .slice ca Cs.length cc] 149)) (.cells #[.map (some mb)] 121)).1
    rwa [s1] at this
  have hs3' : w.heap.size + 1 + 1 < w3.heap.size := by omega
  have c4 : w3.cell? ⟨w.heap.size, 4, none⟩ = some (.slice ca Cs.length cc) := by simp [World.cell?, hA]
  have HB0 : Hid (Lib.IsBuilderF 158 5 (w.heap.size + 1 + 1) (w.heap.size + 1 + 1) (Lib.byteCells []) w3) := .inl ⟨Nat.le_refl _, .slice none 0 0, hR, World.ownsRowF_of (World.ownsRow_nil _ _ _ _), by simp [Value.ownBlock]⟩
  have HG0 : Hid (g 0 = []) := hg0
  have HG : Hid (∀ k, k < Cs.length → g (k + 1) = g k ++ (t k).data.toList) := hg
  have HGS : Hid (∀ k, k ≤ Cs.length → (g k).length ≤ 1000000000) := hgs
  have HT : Hid (∀ (k : Nat) (c : ByteArray × ChM), Cs[k]? = some c → ∀ u, Below w.heap.size w u → Calls Tryz.prog (chTell c.2) #[chIn c.2, .string c.1, latV (f c.1)] u fun e w' => e = .returned (.string (t k)) ∧ Below u.heap.size u w') := ht
  have HTS : Hid (∀ k, (t k).size ≤ 1000000000) := hts
  clear hs3 hg0 hg hgs ht hts hA hR
  go_enter Tryz.func113, Tryz.ntmps113
  go_wp2
  rw [← hw3]
  clear hw3
  have HM3 : Hid (w3.heap[w.heap.size + 1]? = some (.cells #[.map (some mb)] 121 (0, 0))) := hM3
  clear hM3
  go_loopw [11] (fun x wr => ∃ k : Nat, k ≤ Cs.length ∧ x = .int .i64 k ∧ Hid (Lib.IsBuilderF 158 5 (w.heap.size + 1 + 1) (w.heap.size + 1 + 1) (Lib.byteCells (g k)) wr) ∧ Below (w.heap.size + 1 + 1) w3 wr) (fun x _ => Cs.length - (intOf x).toNat)
  case atStart => exact ⟨0, Nat.zero_le _, rfl, by show Lib.IsBuilderF _ _ _ _ _ _; rw [HG0.out]; exact HB0.out, Below.refl _ _⟩
  case round =>
    clear HB0 c4
    obtain ⟨k, hkl, rfl, HB, hbw⟩ := hrel
    have hszr := hbw.size
    have hbw0 : Below w.heap.size w wr := hb3.trans (hbw.mono (by omega))
    by_cases hlt : k < Cs.length
    · obtain ⟨c, hck⟩ : ∃ c, Cs[k]? = some c := ⟨_, List.getElem?_eq_getElem hlt⟩
      obtain ⟨_, _, e1, hc1⟩ := HCV.out.below hbw0 (Nat.le_refl _)
      cases e1
      obtain ⟨b, o, rfl, hb, c0, c1, _⟩ := hc1 k c hck
      have hnk := hnm c (List.mem_of_getElem? hck)
      have HTK := HT.out k c hck
      obtain ⟨nm, ch⟩ := c
      simp only at c0 c1 hnk HTK
      have hgk := HG.out k hlt
      have hgs1 := HGS.out k hkl
      have hts := HTS.out k
      obtain ⟨T, hT⟩ : ∃ T, t k = T := ⟨_, rfl⟩
      rw [hT] at HTK hgk hts
      have HGK : Hid (g (k + 1) = g k ++ T.data.toList) := hgk
      obtain ⟨A, hA⟩ : ∃ A, g k = A := ⟨_, rfl⟩
      rw [hA] at hgs1
      have HGA : Hid (g k = A) := hA
      obtain ⟨L, hL⟩ : ∃ L, latV (f nm) = L := ⟨_, rfl⟩
      rw [hL] at HTK
      obtain ⟨lcs, hLs⟩ : ∃ cs, L = .agg cs := ⟨_, hL.symm⟩
      have hlook : (Instr.lookup 119 (.map (some mb)) (.string nm) false).run Tryz.prog (wr.alloc (.cells #[.string nm, chV ch] 226)) = .ok L (wr.alloc (.cells #[.string nm, chV ch] 226)) := by
        rw [← hL]
        refine (hk.same ?_).look nm (by omega)
        rw [Below.heap_alloc wr _ _ (by have := hbw0.size; omega)]
        exact hbw0.block mb hmb
      have hm1 : wr.cell? ⟨w.heap.size + 1, 0, none⟩ = some (.map (some mb)) := by
        have := (hbw.block (w.heap.size + 1) (by omega)).trans HM3.out
        simp [World.cell?, this]
      have hne1 : w.heap.size + 1 ≠ wr.heap.size := by omega
      have hm2 : (wr.alloc (.cells #[.string nm, chV ch] 226)).cell? ⟨w.heap.size + 1, 0, none⟩ = some (.map (some mb)) := (((Below.refl wr.heap.size wr).alloc (Nat.le_refl _) _).cell (p := ⟨w.heap.size + 1, 0, none⟩) (by show w.heap.size + 1 < wr.heap.size; omega)).trans hm1
      have hbA : Below w.heap.size w (wr.alloc (.cells #[.string nm, chV ch] 226)) := hbw0.alloc (by omega) _
      have HTK2 : Hid (Calls Tryz.prog (chTell ch) #[chIn ch, .string nm, L] (wr.alloc (.cells #[.string nm, chV ch] 226)) fun e w' => e = .returned (.string T) ∧ Below (wr.alloc (.cells #[.string nm, chV ch] 226)).heap.size (wr.alloc (.cells #[.string nm, chV ch] 226)) w') := HTK _ hbA
      have HBA : Hid (Lib.IsBuilderF 158 5 (w.heap.size + 1 + 1) (w.heap.size + 1 + 1) (Lib.byteCells A) (wr.alloc (.cells #[.string nm, chV ch] 226))) := by
        show Lib.IsBuilderF _ _ _ _ _ _
        rw [← hA]
        exact Lib.IsBuilderF.alloc HB.out _
      clear hgk hT hA hL HTK HB hc1 hck
      subst hLs
      have me1 := meth_tell236
      have me2 := meth_tell238
      have me3 := meth_tell242
      cases ch
      all_goals
        simp only [chV, chIn, chT, chTell] at c1 hlook hbA HTK2 HBA hm2
        go_wp2_with fail
        refine HTK2.out.mono ?_
        rintro e w5 ⟨rfl, hb5⟩
        have HB5 := bld_below HBA.out hb5
        have hs5 : wr.heap.size < w5.heap.size := by have := hb5.size; simp at this; omega
        have hbw5 : Below (w.heap.size + 1 + 1) w3 w5 := (hbw.alloc (by omega) _).trans (hb5.mono (by simp; omega))
        have HW : Hid (Calls Tryz.prog 114 #[.pointer (some ⟨w.heap.size + 1 + 1, 0, none⟩), .string T] w5 fun e w' => e = .returned (.tuple #[.int .i64 T.size, .nilIface]) ∧ (Lib.BuilderAtF 158 5 (w.heap.size + 1 + 1) (w.heap.size + 1 + 1) (.pointer (some ⟨w.heap.size + 1 + 1, 0, none⟩)) (Lib.byteCells A ++ Lib.strCells T) w' ∧ Below (w.heap.size + 1 + 1) w5 w' ∧ Lib.OthersKept 5 (some (w.heap.size + 1 + 1)) w5 w')) := Tryz.Builder_WriteString_k _ _ (Lib.byteCells A) T w5 HB5 (by rw [Lib.byteCells_length]; omega) (by omega)
        clear HTK2 hlook hm2 c0 c1 me1 me2 me3 HBA hbA HB5 hb5
        go_wp2_with fail
        refine HW.out.mono ?_
        rintro e w6 ⟨rfl, hB6, hb6, _⟩
        clear HW
        rw [Lib.strCells_eq, ← byteCells_app] at hB6
        have hbw6 := hbw5.trans hb6
        go_wp2
        go_roundw
        case rel => exact ⟨k + 1, by omega, by go_num, .inr (by rw [HGK.out, HGA.out]; exact hB6), hbw6⟩
        case measure => simp [intOf]; omega
    · have e : k = Cs.length := by omega
      subst e
      have HS : Hid (Calls Tryz.prog 116 #[.pointer (some ⟨w.heap.size + 1 + 1, 0, none⟩)] wr fun e w' => e = .returned (.string ⟨(g Cs.length).toArray⟩) ∧ (Lib.IsBuilderF 158 5 (w.heap.size + 1 + 1) (w.heap.size + 1 + 1) (Lib.byteCells (g Cs.length)) w' ∧ Below (w.heap.size + 1 + 1) wr w' ∧ Lib.OthersKept 5 (some (w.heap.size + 1 + 1)) wr w')) := Tryz.Builder_String_any_k _ _ (g Cs.length) wr HB.out (by omega)
      clear HB
      go_wp2_with fail
      refine HS.out.mono ?_
      rintro e w4 ⟨rfl, _, hbe, _⟩
      clear HS
      go_wp2
      go_ret
      exact ⟨rfl, hbw0.trans (hbe.mono (by omega))⟩
end Go.Proofs.YtgdfipmdmgkidaaGreatDoor
