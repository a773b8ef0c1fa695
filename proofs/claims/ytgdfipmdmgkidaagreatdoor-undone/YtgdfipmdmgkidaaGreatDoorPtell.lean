/- The living lines of a row are told, each behind a mark. -/
import Derived.Test.YtgdfipmdmgkidaaGreatDoorPeq
import Derived.Deep.RegionLaw
import Derived.Deep.AppendLies
namespace Go.Proofs.YtgdfipmdmgkidaaGreatDoor
open Go.RowKit

/-- One line as it is told. -/
def tlB (mark l : ByteArray) : List UInt8 := (mark.data.toList ++ l.data.toList) ++ if Lib.hasSuffix l.data.toList [10] = true then [] else [36, 10]
def tellL (mark : ByteArray) (L : List ByteArray) : List UInt8 := L.flatMap (tlB mark)
theorem tellL_snoc (mark : ByteArray) (L : List ByteArray) (l : ByteArray) : tellL mark (L ++ [l]) = tellL mark L ++ tlB mark l := by simp [tellL]
theorem tellL_take (mark : ByteArray) (L : List ByteArray) (k : Nat) (h : k < L.length) : tellL mark (L.take (k + 1)) = tellL mark (L.take k) ++ tlB mark L[k] := by rw [List.take_succ_eq_append_getElem h, tellL_snoc]
theorem tellL_le (mark : ByteArray) (L : List ByteArray) (k : Nat) : (tellL mark (L.take k)).length ≤ (tellL mark L).length := by
  conv => rhs; rw [← List.take_append_drop k L]
  unfold tellL
  rw [List.flatMap_append, List.length_append]
  omega

theorem own_others {w w' : World} {B n size b : Nat} {e : TypeId} {v : Value} {xs : List Value} (h : w.ownsRow B e size v n xs) (ho : Lib.OthersKept 5 (some b) w w') (he : e ≠ 5) (hb : b < B) : w'.ownsRow B e size v n xs := by
  refine ⟨h.1, ?_⟩
  rcases h.2 with hn | ⟨g, cap, cur, hv, hg0, hg, rest⟩
  · exact .inl hn
  · refine .inr ⟨g, cap, cur, hv, hg0, ho g _ hg (by simp; omega) (fun c fz hc => ?_), rest⟩
    simp at hc
    exact he hc.2.1

theorem bld_empty {w w' : World} {B b : Nat} (h : w.heap[b]? = some (.cells #[.pointer none, .slice none 0 0] 158 (0, 0))) (hB : B ≤ b) (hk : w'.heap[b]? = w.heap[b]?) : Lib.IsBuilderF 158 5 B b [] w' :=
  .inl ⟨hB, .slice none 0 0, hk.trans h, World.ownsRowF_of (World.ownsRow_nil _ _ _ _), by simp [Value.ownBlock]⟩

theorem strCells_app (a b : ByteArray) : Lib.strCells (a ++ b) = Lib.byteCells (a.data.toList ++ b.data.toList) := by
  rw [Lib.strCells_eq]
  congr 1
theorem byteCells_app (a b : List UInt8) : Lib.byteCells (a ++ b) = Lib.byteCells a ++ Lib.byteCells b := by simp [Lib.byteCells]

set_option maxRecDepth 100000 in
set_option maxHeartbeats 3200000 in
theorem tellLines240_any (mark : ByteArray) (S : List Spot) (v0 : Value) (w : World) (hv : SV w v0 S) (hlen : S.length ≤ 1000000) (hm : mark.size ≤ 10) (hsz : (tellL mark (rowLines S)).length ≤ 1000000000) (hls : ∀ l ∈ rowLines S, l.size ≤ 1000000000) :
    Calls Tryz.prog 338 #[.string mark, v0] w fun e w' => e = .returned (.string ⟨(tellL mark (rowLines S)).toArray⟩) ∧ Below w.heap.size w w' := by
  have hb0 : Below w.heap.size w (w.alloc (.cells #[.pointer none, .slice none 0 0] 158)) := (Below.refl _ _).alloc (Nat.le_refl _) _
  have hbk := (MapKept.heap_alloc w (.cells #[.pointer none, .slice none 0 0] 158)).1
  have hs1 : (w.alloc (.cells #[.pointer none, .slice none 0 0] 158)).heap.size = w.heap.size + 1 := by simp
  have HL : Hid (Calls Tryz.prog 200 #[v0] (w.alloc (.cells #[.pointer none, .slice none 0 0] 158)) fun e w' => ∃ v, e = .returned v ∧ w'.ownsRow (w.alloc (.cells #[.pointer none, .slice none 0 0] 158)).heap.size 9 1 v (rowLines S).length (strs (rowLines S)) ∧ Below (w.alloc (.cells #[.pointer none, .slice none 0 0] 158)).heap.size (w.alloc (.cells #[.pointer none, .slice none 0 0] 158)) w') := lines148_any S v0 _ (hv.below hb0 (Nat.le_refl _)) hlen
  have hll := rowLines_len S
  obtain ⟨ao, cap, rfl⟩ := hv.shape
  clear hv
  obtain ⟨L, hL⟩ : ∃ L, rowLines S = L := ⟨_, rfl⟩
  rw [hL] at HL hsz hll hls
  have HLS : Hid (rowLines S = L) := hL
  clear hL
  have HSZ : Hid ((tellL mark L).length ≤ 1000000000) := hsz
  have HLL : Hid (∀ l ∈ L, l.size ≤ 1000000000) := hls
  clear hsz hls
  go_enter Tryz.func338, Tryz.ntmps338
  go_wp2_with fail
  generalize w.alloc (.cells #[.pointer none, .slice none 0 0] 158) = wa at *
  refine HL.out.mono ?_
  rintro e w1 ⟨lv, rfl, ho, hb1⟩
  clear HL
  have hbl : Lib.IsBuilderF 158 5 w.heap.size w.heap.size (Lib.byteCells []) w1 := bld_empty hbk (Nat.le_refl _) (hb1.block _ (by omega))
  obtain ⟨la, lc, rfl⟩ := own_shape ho
  have hb2 : Below w.heap.size w w1 := hb0.trans (hb1.mono (by omega))
  rw [hs1] at ho
  clear hbk hb0 hb1
  go_wp2
  go_loopw [11] (fun i wr => ∃ k : Nat, k ≤ L.length ∧ i = .int .i64 k ∧ Hid (Lib.IsBuilderF 158 5 w.heap.size w.heap.size (Lib.byteCells (tellL mark (L.take k))) wr) ∧ wr.ownsRow (w.heap.size + 1) 9 1 (.slice la L.length lc) L.length (strs L) ∧ Below w.heap.size w wr) (fun i _ => L.length - (intOf i).toNat)
  case atStart => exact ⟨0, Nat.zero_le _, rfl, by show Lib.IsBuilderF _ _ _ _ _ _; simpa [tellL] using hbl, ho, hb2⟩
  case round =>
    obtain ⟨k, hk, rfl, HB, hown, hbw⟩ := hrel
    have hszr : w.heap.size ≤ wr.heap.size := hbw.size
    have htk := tellL_le mark L k
    have htk1 := tellL_le mark L (k + 1)
    have hSZ := HSZ.out
    by_cases hlt : k < L.length
    · have hll1 := HLL.out _ (List.getElem_mem hlt)
      have HT : Hid (tellL mark (L.take (k + 1)) = tellL mark (L.take k) ++ tlB mark L[k]) := tellL_take mark L k hlt
      rcases View.own hown with h | ⟨b, o, rfl, hb, hc⟩
      · omega
      have hcell : wr.cell? ⟨b, o + k, none⟩ = some (.string L[k]) := by
        have := hc k hlt
        rwa [List.getD_eq_getElem?_getD, List.getElem?_eq_getElem hlt] at this
      obtain ⟨l, hl⟩ : ∃ l, L[k] = l := ⟨_, rfl⟩
      rw [hl] at hcell hll1
      have HTL : Hid (tellL mark (L.take (k + 1)) = tellL mark (L.take k) ++ tlB mark l) := by show _ = _; rw [← hl]; exact HT.out
      clear HT hl hc
      have hln : (tellL mark (L.take k)).length ≤ 1000000000 := by omega
      generalize tellL mark (L.take k) = A at *
      have HW : Hid (Calls Tryz.prog 114 #[.pointer (some ⟨w.heap.size, 0, none⟩), .string (mark ++ l)] wr fun e w' => e = .returned (.tuple #[.int .i64 (mark ++ l).size, .nilIface]) ∧ (Lib.BuilderAtF 158 5 w.heap.size w.heap.size (.pointer (some ⟨w.heap.size, 0, none⟩)) (Lib.byteCells A ++ Lib.strCells (mark ++ l)) w' ∧ Below w.heap.size wr w' ∧ Lib.OthersKept 5 (some w.heap.size) wr w')) :=
        Tryz.Builder_WriteString_k w.heap.size w.heap.size (Lib.byteCells A) (mark ++ l) wr HB.out (by rw [Lib.byteCells_length, ByteArray.size_append]; omega) hszr
      go_wp2_with fail
      refine HW.out.mono ?_
      rintro e w2 ⟨rfl, hB2, hbe, hok⟩
      rw [strCells_app, ← byteCells_app] at hB2
      have hown2 := own_others hown hok (by decide) (Nat.lt_succ_self _)
      have hbw2 := hbw.trans hbe
      clear HW HB hbe hok hown hbw hcell
      cases hsf : Lib.hasSuffix l.data.toList [10]
      · have HS : Hid (tlB mark l = (mark.data.toList ++ l.data.toList) ++ [36, 10]) := by show _ = _; unfold tlB; rw [hsf]; rfl
        have HF : Hid (Calls Tryz.prog 339 #[.string l, .string ⟨#[10]⟩] w2 fun e w' => e = .returned (.bool false) ∧ w' = w2) := by
          have := Tryz.strings_HasSuffix l ⟨#[10]⟩ w2 (by omega)
          rw [show (⟨#[10]⟩ : ByteArray).data.toList = [10] from rfl, hsf] at this
          exact this
        clear hsf
        go_wp2_with fail
        refine HF.out.mono ?_
        rintro e w3 ⟨rfl, rfl⟩
        clear HF
        have HW : Hid (Calls Tryz.prog 114 #[.pointer (some ⟨w.heap.size, 0, none⟩), .string ⟨#[36, 10]⟩] w3 fun e w' => e = .returned (.tuple #[.int .i64 2, .nilIface]) ∧ (Lib.BuilderAtF 158 5 w.heap.size w.heap.size (.pointer (some ⟨w.heap.size, 0, none⟩)) (Lib.byteCells (A ++ (mark.data.toList ++ l.data.toList)) ++ Lib.strCells ⟨#[36, 10]⟩) w' ∧ Below w.heap.size w3 w' ∧ Lib.OthersKept 5 (some w.heap.size) w3 w')) :=
          Tryz.Builder_WriteString_k w.heap.size w.heap.size (Lib.byteCells (A ++ (mark.data.toList ++ l.data.toList))) ⟨#[36, 10]⟩ w3 (.inr hB2) (by
            have h1 : mark.data.toList.length = mark.size := Array.length_toList
            have h2 : l.data.toList.length = l.size := Array.length_toList
            have h3 : (⟨#[36, 10]⟩ : ByteArray).size = 2 := rfl
            rw [Lib.byteCells_length, List.length_append, List.length_append, h1, h2, h3]
            omega) hbw2.size
        go_wp2_with fail
        refine HW.out.mono ?_
        rintro e w4 ⟨rfl, hB4, hbe4, hok4⟩
        rw [Lib.strCells_eq, ← byteCells_app] at hB4
        have hown4 := own_others hown2 hok4 (by decide) (Nat.lt_succ_self _)
        have hbw4 := hbw2.trans hbe4
        clear HW hbe4 hok4 hown2 hbw2 hB2
        go_wp2
        go_roundw
        case rel => exact ⟨k + 1, by omega, by go_num, .inr (by rw [HTL.out, HS.out, ← List.append_assoc]; exact hB4), hown4, hbw4⟩
        case measure => simp [intOf]; omega
      · have HS : Hid (tlB mark l = mark.data.toList ++ l.data.toList) := by show _ = _; unfold tlB; rw [hsf]; simp
        have HF : Hid (Calls Tryz.prog 339 #[.string l, .string ⟨#[10]⟩] w2 fun e w' => e = .returned (.bool true) ∧ w' = w2) := by
          have := Tryz.strings_HasSuffix l ⟨#[10]⟩ w2 (by omega)
          rw [show (⟨#[10]⟩ : ByteArray).data.toList = [10] from rfl, hsf] at this
          exact this
        clear hsf
        go_wp2_with fail
        refine HF.out.mono ?_
        rintro e w3 ⟨rfl, rfl⟩
        clear HF
        go_wp2
        go_roundw
        case rel => exact ⟨k + 1, by omega, by go_num, .inr (by rw [HTL.out, HS.out]; exact hB2), hown2, hbw2⟩
        case measure => simp [intOf]; omega
    · have e : k = L.length := by omega
      have HB2 : Hid (Calls Tryz.prog 116 #[.pointer (some ⟨w.heap.size, 0, none⟩)] wr fun e w' => e = .returned (.string ⟨(tellL mark L).toArray⟩) ∧ (Lib.IsBuilderF 158 5 w.heap.size w.heap.size (Lib.byteCells (tellL mark L)) w' ∧ Below w.heap.size wr w' ∧ Lib.OthersKept 5 (some w.heap.size) wr w')) := by
        have := HB.out
        rw [e, List.take_length] at this
        exact Tryz.Builder_String_any_k w.heap.size w.heap.size (tellL mark L) wr this hszr
      clear e
      go_wp2_with fail
      refine HB2.out.mono ?_
      rintro e w2 ⟨rfl, _, hbe, _⟩
      clear HB2
      go_wp2
      go_ret
      exact ⟨by rw [HLS.out]; rfl, hbw.trans hbe⟩
end Go.Proofs.YtgdfipmdmgkidaaGreatDoor

/- A patch brings lines: each is a new cell. -/
namespace Go.Proofs.YtgdfipmdmgkidaaGreatDoor
open Go.RowKit

/-- The id of a patch. -/
structure Pid where
  a : Int
  b : Int
  c : Int
  d : Int
  deriving DecidableEq

def brS (i : Pid) (n : Int) (L : List ByteArray) (k : Nat) : Spot := ⟨i.a, i.b, i.c, i.d, n + k, L.getD k ByteArray.empty, true⟩
def brTo (i : Pid) (n : Int) (L : List ByteArray) (k : Nat) : List Spot := (List.range k).map (brS i n L)
def bring (i : Pid) (n : Int) (L : List ByteArray) : List Spot := brTo i n L L.length
theorem brTo_len (i : Pid) (n : Int) (L : List ByteArray) (k : Nat) : (brTo i n L k).length = k := by simp [brTo]
theorem brTo_succ (i : Pid) (n : Int) (L : List ByteArray) (k : Nat) : brTo i n L (k + 1) = brTo i n L k ++ [brS i n L k] := by simp [brTo, List.range_succ]

def MAt (w : World) (mb : Nat) (i : Pid) (n : Int) : Prop := w.heap[mb]? = some (.cells #[.int .u8 i.a, .int .u8 i.b, .int .u8 i.c, .int .u8 i.d, .int .i64 n] 221 (0, 0))

/-- The memory that was there has not turned, but for one block. -/
structure But (w w' : World) (m : Nat) : Prop where
  os : w'.os = w.os
  tape : w'.tape = w.tape
  output : w'.output = w.output
  size : w.heap.size ≤ w'.heap.size
  block : ∀ k, k < w.heap.size → k ≠ m → w'.heap[k]? = w.heap[k]?
theorem But.refl (w : World) (m : Nat) : But w w m := ⟨rfl, rfl, rfl, Nat.le_refl _, fun _ _ _ => rfl⟩
theorem But.trans {a b c : World} {m : Nat} (h : But a b m) (k : But b c m) : But a c m :=
  ⟨k.os.trans h.os, k.tape.trans h.tape, k.output.trans h.output, Nat.le_trans h.size k.size, fun i hi hm => (k.block i (Nat.lt_of_lt_of_le hi h.size) hm).trans (h.block i hi hm)⟩
theorem But.below {a b c : World} {m : Nat} (h : But a b m) (k : Below b.heap.size b c) : But a c m :=
  ⟨k.os.trans h.os, k.tape.trans h.tape, k.output.trans h.output, Nat.le_trans h.size k.size, fun i hi hm => (k.block i (Nat.lt_of_lt_of_le hi h.size)).trans (h.block i hi hm)⟩
theorem But.of_below {b c : World} (m : Nat) (k : Below b.heap.size b c) : But b c m := (But.refl b m).below k
theorem But.set {a b : World} {m o : Nat} (h : But a b m) (u : Value) : But a (b.setCell ⟨m, o, none⟩ u) m :=
  ⟨h.os, h.tape, h.output, by simpa [World.setCell] using h.size, fun i hi hm => (Below.heap_setCell _ _ _ _ hm).trans (h.block i hi hm)⟩
theorem But.drew {a b : World} {m : Nat} (h : But a b m) : But a b.drew m := ⟨h.os, h.tape, h.output, h.size, h.block⟩

theorem But.alloc {a b : World} {m : Nat} (h : But a b m) (o : Obj) : But a (b.alloc o) m :=
  ⟨h.os, h.tape, h.output, by have := h.size; simp; omega, fun i hi hm => (Below.heap_alloc _ _ _ (Nat.lt_of_lt_of_le hi h.size)).trans (h.block i hi hm)⟩
theorem But.grown {a b c : World} {m : Nat} {row : Option Nat} (h : But a b m) (hg : b.grownBy c row) (hr : ∀ k, row = some k → a.heap.size ≤ k) : But a c m :=
  ⟨hg.os.trans h.os, hg.tape.trans h.tape, hg.output.trans h.output, Nat.le_trans h.size hg.size, fun i hi hm => (hg.block i (Nat.lt_of_lt_of_le hi h.size) (fun e => by have := hr i e.symm; omega)).trans (h.block i hi hm)⟩

theorem MAt.cells {w : World} {mb : Nat} {i : Pid} {n : Int} (h : MAt w mb i n) : w.cell? ⟨mb, 0, none⟩ = some (.int .u8 i.a) ∧ w.cell? ⟨mb, 1, none⟩ = some (.int .u8 i.b) ∧ w.cell? ⟨mb, 2, none⟩ = some (.int .u8 i.c) ∧ w.cell? ⟨mb, 3, none⟩ = some (.int .u8 i.d) ∧ w.cell? ⟨mb, 4, none⟩ = some (.int .i64 n) := by
  unfold MAt at h
  simp [World.cell?, h]
theorem MAt.free {w : World} {mb : Nat} {i : Pid} {n : Int} (h : MAt w mb i n) (o : Nat) : w.frozen? ⟨mb, o, none⟩ = false := by
  unfold MAt at h
  simp [World.frozen?, h]
theorem MAt.lt {w : World} {mb : Nat} {i : Pid} {n : Int} (h : MAt w mb i n) : mb < w.heap.size := by
  rcases Nat.lt_or_ge mb w.heap.size with h' | h'
  · exact h'
  · unfold MAt at h; rw [Array.getElem?_eq_none h'] at h; cases h
theorem MAt.put {w : World} {mb : Nat} {i : Pid} {n m : Int} (h : MAt w mb i n) : MAt (w.setCell ⟨mb, 4, none⟩ (.int .i64 m)) mb i m := heap_setCell_same w mb 4 _ 221 _ h

theorem View.but {w w' : World} {ao : Option Addr} {L : List ByteArray} {mb : Nat} {i : Pid} {n : Int} (h : View w ao L) (hm : MAt w mb i n) (hb : But w w' mb) : View w' ao L := by
  rcases h with h | ⟨b, o, rfl, hb', hc⟩
  · exact .inl h
  · by_cases h0 : L.length = 0
    · exact .inl h0
    · refine .inr ⟨b, o, rfl, Nat.lt_of_lt_of_le hb' hb.size, fun k hk => ?_⟩
      have h1 := hc k hk
      have hne : b ≠ mb := by
        intro e
        subst e
        unfold MAt at hm
        unfold World.cell? at h1
        rw [hm] at h1
        simp at h1
        match hq : o + k with
        | 0 => rw [hq] at h1; simp at h1
        | 1 => rw [hq] at h1; simp at h1
        | 2 => rw [hq] at h1; simp at h1
        | 3 => rw [hq] at h1; simp at h1
        | 4 => rw [hq] at h1; simp at h1
        | q + 5 => rw [hq] at h1; simp at h1
      rw [← h1]
      unfold World.cell?
      rw [hb.block b hb' hne]

set_option maxRecDepth 100000 in
set_option maxHeartbeats 3200000 in
theorem bring164_any (i : Pid) (n : Int) (L : List ByteArray) (ao : Option Addr) (cap mb : Nat) (w : World) (hv : View w ao L) (hm : MAt w mb i n) (hlen : L.length ≤ 100000) (hn : 0 ≤ n) (hn2 : n ≤ 100000000) :
    Calls Tryz.prog 216 #[.pointer (some ⟨mb, 0, none⟩), .slice ao L.length cap] w fun e w' => ∃ v, e = .returned v ∧ w'.ownsRow w.heap.size 313 7 v (bring i n L).length (rowC (bring i n L)) ∧ MAt w' mb i (n + L.length) ∧ But w w' mb := by
  obtain ⟨i0, hi, hz0, hz1, hz2⟩ := info_parts Tryz.info313
  have hmlt := hm.lt
  go_enter Tryz.func216, Tryz.ntmps216
  go_wp2
  go_loopw [5, 10] (fun v i' wr => ∃ k : Nat, k ≤ L.length ∧ i' = .int .i64 k ∧ wr.ownsRow w.heap.size 313 7 v (brTo i n L k).length (rowC (brTo i n L k)) ∧ Hid (MAt wr mb i (n + k)) ∧ But w wr mb) (fun _ i' _ => L.length - (intOf i').toNat)
  case atStart => exact ⟨0, Nat.zero_le _, rfl, by simpa [brTo] using World.ownsRow_nil _ _ _ _, by show MAt _ _ _ _; simpa using hm, But.refl _ _⟩
  case round =>
    obtain ⟨k, hk, rfl, hown, HM, hbw⟩ := hrel
    have hsz : w.heap.size ≤ wr.heap.size := hbw.size
    have hbl := brTo_len i n L k
    by_cases hlt : k < L.length
    · have hvr := hv.but hm hbw
      rcases hvr with h | ⟨b, o, rfl, hb, hc⟩
      · omega
      have hcell := hc k hlt
      have HS : Hid (brTo i n L (k + 1) = brTo i n L k ++ [brS i n L k]) := brTo_succ i n L k
      obtain ⟨l, hl⟩ : ∃ l, L.getD k ByteArray.empty = l := ⟨_, rfl⟩
      rw [hl] at hcell
      have HBS : Hid (brS i n L k = ⟨i.a, i.b, i.c, i.d, n + k, l, true⟩) := by show _ = _; unfold brS; rw [hl]
      clear hl hc
      obtain ⟨m0, m1, m2, m3, m4⟩ := HM.out.cells
      generalize brTo i n L k = A at *
      have hkn : (0 : Int) ≤ n + k ∧ n + k ≤ 200000000 := by omega
      generalize hq : n + (k : Int) = q at *
      go_wp2_with fail
      go_region_law (first
          | (refine step_append_lies _ (by rfl) _ _ _ (by rfl) w.heap.size 313 i0 _ 7 40 Tryz.underlying183 hi hz0 hz1 hz2 rfl (by omega) _ A.length (rowC A) (by rfl) ((hown.alloc _).drew) ⟨wr.heap.size, 0, none⟩ 1 1 (rowC [⟨i.a, i.b, i.c, i.d, q, l, true⟩]) (by rfl) (by rfl) (World.news_of_block (cs := #[.int .u8 i.a, .int .u8 i.b, .int .u8 i.c, .int .u8 i.d, .int .i64 q, .string l, .bool true]) (t := 313) (fr := (0, 0)) (heap_alloc_new wr.drew _)) (rowC_one _) (by omega) (by unfold maxLen; omega) (by omega) (by simp; omega) (wr.heap.size + 1) (by simp) ?_; intro g cp w2 hown2 hgrow hat hlt2))
      all_goals
        have hrow : ∀ j, u5.ownBlock = some j → w.heap.size ≤ j := fun j hj => (hown.lt j hj).1
        have hb2 : But w w2 mb := ((hbw.alloc _).drew).grown hgrow hrow
        have hM2 : MAt w2 mb i q := by
          have h1 := hgrow.block mb (by simp; omega) (fun e => by have := hrow mb e.symm; omega)
          exact h1.trans ((Below.heap_alloc wr _ _ (by omega)).trans HM.out)
        have hO2 : w2.ownsRow w.heap.size 313 7 (.slice (some ⟨g, 0, none⟩) (A.length + 1) cp) (A ++ [(⟨i.a, i.b, i.c, i.d, q, l, true⟩ : Spot)]).length (rowC (A ++ [(⟨i.a, i.b, i.c, i.d, q, l, true⟩ : Spot)])) := by rw [rowC_app]; simpa using hown2
        obtain ⟨x0, x1, x2, x3, x4⟩ := hM2.cells
        have xf := hM2.free 4
        have HM3 : Hid (MAt (w2.setCell ⟨mb, 4, none⟩ (.int .i64 (q + 1))) mb i (q + 1)) := hM2.put
        have hO3 : (w2.setCell ⟨mb, 4, none⟩ (.int .i64 (q + 1))).ownsRow w.heap.size 313 7 (.slice (some ⟨g, 0, none⟩) (A.length + 1) cp) (A ++ [(⟨i.a, i.b, i.c, i.d, q, l, true⟩ : Spot)]).length (rowC (A ++ [(⟨i.a, i.b, i.c, i.d, q, l, true⟩ : Spot)])) := ownsRow_setCell_below hO2 (a := ⟨mb, 4, none⟩) hmlt _
        have hb3 : But w (w2.setCell ⟨mb, 4, none⟩ (.int .i64 (q + 1))) mb := hb2.set _
        clear hown2 hgrow hown hbw hM2 hO2 hb2 HM m0 m1 m2 m3 m4 hcell
        go_wp2
        go_roundw
        case rel => exact ⟨k + 1, by omega, by go_num, by rw [HS.out, HBS.out, ← hbl]; exact hO3, by show MAt _ _ _ _; rw [show n + ((k + 1 : Nat) : Int) = q + 1 by omega]; exact HM3.out, hb3⟩
        case measure => simp [intOf]; omega
    · have e : k = L.length := by omega
      have HE : Hid (brTo i n L k = bring i n L) := by show _ = _; unfold bring; rw [e]
      have HME : Hid (MAt wr mb i (n + L.length)) := by have := HM.out; rw [e] at this; exact this
      clear e
      go_wp2
      go_ret
      rw [HE.out] at hown
      exact ⟨_, rfl, hown, HME.out, hbw⟩
end Go.Proofs.YtgdfipmdmgkidaaGreatDoor
