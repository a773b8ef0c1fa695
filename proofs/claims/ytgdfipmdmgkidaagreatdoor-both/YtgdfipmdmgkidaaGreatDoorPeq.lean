/- Cells are compared: ids (four bytes), cells, cells of a row. -/
import Derived.Test.YtgdfipmdmgkidaaGreatDoorPgapn
import Derived.Laws.StructEq
import Derived.ChangeKeysEq
import Derived.Deep.QuietTactic
import Derived.BigQuiet
import Derived.Deep.RegionLaw
import Derived.Deep.AppendLies
set_option maxHeartbeats 3200000
set_option maxRecDepth 100000
namespace Go.Proofs.YtgdfipmdmgkidaaGreatDoor
open Go.RowKit
theorem Tryz.info5 : (Tryz.prog.info? 5).map (fun i => (i.zero, i.size, i.bytes)) = some (some (.int .u8 0), 1, 1) := by kernel_rfl
theorem Tryz.cells5 : Tryz.prog.cellsOf 5 = 1 := by kernel_rfl
theorem part_u8 (xs : Array Value) (i : Nat) (k : IntKind) (n : Int) (h : xs[i]? = some (.int k n)) (w : World) : (part 5 xs i).run Tryz.prog w = .ok (.int k n) w := by
  have ha := Tryz.isAgg5 w
  simp [part, ha, h]
theorem run_eq_id (d : Nat) (a b c e a' b' c' e' : Int) (w : World) :
    (Op.equalIn (d + 2) 113 (.agg #[.int .u8 a, .int .u8 b, .int .u8 c, .int .u8 e]) (.agg #[.int .u8 a', .int .u8 b', .int .u8 c', .int .u8 e'])).run Tryz.prog w = .ok (decide (a = a' ∧ b = b' ∧ c = c' ∧ e = e')) w := by
  obtain ⟨i0, hi, _⟩ := info_parts Tryz.info5
  have hu : Tryz.prog.underlying 113 = some (.array 4 5) := Tryz.underlying113
  rw [run_equalIn_array w (d + 1) _ _ hu hi, Tryz.cells5]
  have q : ∀ (x y : Int), (Op.equalIn (d + 1) 5 (.int .u8 x) (.int .u8 y)).run Tryz.prog w = .ok (x == y) w := fun x y => run_equalIn_int w d 5 .u8 .u8 x y Tryz.underlying5
  have r4 : List.range 4 = [0, 1, 2, 3] := rfl
  rw [r4]
  simp only [Op.eqItems, Sem.run_bind, Nat.mul_one]
  rw [part_u8 _ 0 .u8 a rfl, Result.andThen_ok, part_u8 _ 0 .u8 a' rfl, Result.andThen_ok, q, Result.andThen_ok]
  by_cases h1 : a = a'
  · subst h1
    simp only [beq_self_eq_true, Bool.not_true, Bool.false_eq_true, if_false, Sem.run_bind]
    rw [part_u8 _ 1 .u8 b rfl, Result.andThen_ok, part_u8 _ 1 .u8 b' rfl, Result.andThen_ok, q, Result.andThen_ok]
    by_cases h2 : b = b'
    · subst h2
      simp only [beq_self_eq_true, Bool.not_true, Bool.false_eq_true, if_false, Sem.run_bind]
      rw [part_u8 _ 2 .u8 c rfl, Result.andThen_ok, part_u8 _ 2 .u8 c' rfl, Result.andThen_ok, q, Result.andThen_ok]
      by_cases h3 : c = c'
      · subst h3
        simp only [beq_self_eq_true, Bool.not_true, Bool.false_eq_true, if_false, Sem.run_bind]
        rw [part_u8 _ 3 .u8 e rfl, Result.andThen_ok, part_u8 _ 3 .u8 e' rfl, Result.andThen_ok, q, Result.andThen_ok]
        by_cases h4 : e = e'
        · subst h4; simp
        · have : (e == e') = false := by simp [h4]
          simp [this, h4]
      · have : (c == c') = false := by simp [h3]
        simp [this, h3]
    · have : (b == b') = false := by simp [h2]
      simp [this, h2]
  · have : (a == a') = false := by simp [h1]
    simp [this, h1]
theorem eq_bytes (t s : ByteArray) : (t.toList == s.toList) = decide (t = s) := by
  by_cases h : t = s
  · subst h; simp
  · rw [word_ne h]; simp [h]
theorem spot_ext (s t : Spot) : s = t ↔ (s.a = t.a ∧ s.b = t.b ∧ s.c = t.c ∧ s.d = t.d) ∧ s.num = t.num ∧ s.line = t.line ∧ s.alive = t.alive := by
  cases s; cases t; simp [and_assoc]
theorem run_eq_cell (d : Nat) (s t : Spot) (w : World) :
    (Op.equalIn (d + 3) 311 (.agg #[.int .u8 s.a, .int .u8 s.b, .int .u8 s.c, .int .u8 s.d, .int .i64 s.num, .string s.line]) (.agg #[.int .u8 t.a, .int .u8 t.b, .int .u8 t.c, .int .u8 t.d, .int .i64 t.num, .string t.line])).run Tryz.prog w =
      .ok (decide ((s.a = t.a ∧ s.b = t.b ∧ s.c = t.c ∧ s.d = t.d) ∧ s.num = t.num ∧ s.line = t.line)) w := by
  have hf : Tryz.prog.underlying 311 = some (.struct (Tryz.prog.fieldsOf 311)) := by kernel_rfl
  have hp : Tryz.prog.stoodInHeld 311 = false := by kernel_rfl
  have hl : (Tryz.prog.fieldsOf 311).toList = [{ name := "by", type := 113, offset := 0, embedded := false, tag := "", pkgPath := "stitch/patch", byteOffset := 0 }, { name := "number", type := 3, offset := 4, embedded := false, tag := "", pkgPath := "stitch/patch", byteOffset := 8 }, { name := "line", type := 9, offset := 5, embedded := false, tag := "", pkgPath := "stitch/patch", byteOffset := 16 }] := by kernel_rfl
  rw [run_equalIn_struct w (d + 2) 311 _ _ hf hp, hl]
  have q1 := run_eq_id d s.a s.b s.c s.d t.a t.b t.c t.d w
  have q2 : (Op.equalIn (d + 2) 3 (.int .i64 s.num) (.int .i64 t.num)).run Tryz.prog w = .ok (s.num == t.num) w := run_equalIn_int w (d + 1) 3 .i64 .i64 _ _ Tryz.underlying3
  have q3 : (Op.equalIn (d + 2) 9 (.string s.line) (.string t.line)).run Tryz.prog w = .ok (s.line.toList == t.line.toList) w := run_equalIn_string w (d + 1) 9 _ _ Tryz.underlying9
  rw [eq_bytes] at q3
  have p1 : ∀ (u : Spot), (part 113 #[.int .u8 u.a, .int .u8 u.b, .int .u8 u.c, .int .u8 u.d, .int .i64 u.num, .string u.line] 0).run Tryz.prog w = .ok (.agg #[.int .u8 u.a, .int .u8 u.b, .int .u8 u.c, .int .u8 u.d]) w := fun u => by
    have ha := Tryz.isAgg113 w
    simp [part, ha]
  have p2 : ∀ (u : Spot), (part 3 #[.int .u8 u.a, .int .u8 u.b, .int .u8 u.c, .int .u8 u.d, .int .i64 u.num, .string u.line] 4).run Tryz.prog w = .ok (.int .i64 u.num) w := fun u => by
    have ha := Tryz.isAgg3 w
    simp [part, ha]
  have p3 : ∀ (u : Spot), (part 9 #[.int .u8 u.a, .int .u8 u.b, .int .u8 u.c, .int .u8 u.d, .int .i64 u.num, .string u.line] 5).run Tryz.prog w = .ok (.string u.line) w := fun u => by
    have ha := Tryz.isAgg9 w
    simp [part, ha]
  have n1 : ("by" : String) ≠ "_" := by decide
  have n2 : ("number" : String) ≠ "_" := by decide
  have n3 : ("line" : String) ≠ "_" := by decide
  simp only [Op.eqFields, if_pos n1, if_pos n2, if_pos n3, Sem.run_bind, p1, q1, Result.andThen_ok]
  by_cases h1 : s.a = t.a ∧ s.b = t.b ∧ s.c = t.c ∧ s.d = t.d
  · have e1 : decide (s.a = t.a ∧ s.b = t.b ∧ s.c = t.c ∧ s.d = t.d) = true := decide_eq_true h1
    rw [e1]
    simp only [Bool.not_true, Bool.false_eq_true, if_false, Sem.run_bind, p2, q2, Result.andThen_ok]
    by_cases h2 : s.num = t.num
    · have e2 : (s.num == t.num) = true := by simp [h2]
      rw [e2]
      simp only [Bool.not_true, Bool.false_eq_true, if_false, Sem.run_bind, p3, q3, Result.andThen_ok]
      by_cases h3 : s.line = t.line
      · simp [h1, h2, h3]
      · simp [h3]
    · have e2 : (s.num == t.num) = false := by simp [h2]
      rw [e2]
      simp [h2]
  · have e1 : decide (s.a = t.a ∧ s.b = t.b ∧ s.c = t.c ∧ s.d = t.d) = false := decide_eq_false h1
    rw [e1]
    simp [h1]
theorem run_eq_spot (s t : Spot) (w : World) : (binOp .eql 313 (spV s) (spV t)).run Tryz.prog w = .ok (.bool (decide (s = t))) w := by
  have hf : Tryz.prog.underlying 313 = some (.struct (Tryz.prog.fieldsOf 313)) := by kernel_rfl
  have hp : Tryz.prog.stoodInHeld 313 = false := by kernel_rfl
  have hl : (Tryz.prog.fieldsOf 313).toList = [{ name := "cell", type := 311, offset := 0, embedded := true, tag := "", pkgPath := "stitch/patch", byteOffset := 0 }, { name := "alive", type := 4, offset := 6, embedded := false, tag := "", pkgPath := "stitch/patch", byteOffset := 32 }] := by kernel_rfl
  unfold spV
  rw [run_eql_struct, run_equalIn_struct w 9999 313 _ _ hf hp, hl]
  have q1 := run_eq_cell 9996 s t w
  have q2 : (Op.equalIn 9999 4 (.bool s.alive) (.bool t.alive)).run Tryz.prog w = .ok (s.alive == t.alive) w := run_equalIn_bool' w 9998 4 _ _ Tryz.underlying4
  have p1 : ∀ (u : Spot), (part 311 #[.int .u8 u.a, .int .u8 u.b, .int .u8 u.c, .int .u8 u.d, .int .i64 u.num, .string u.line, .bool u.alive] 0).run Tryz.prog w = .ok (.agg #[.int .u8 u.a, .int .u8 u.b, .int .u8 u.c, .int .u8 u.d, .int .i64 u.num, .string u.line]) w := fun u => by
    have ha := Tryz.isAgg311 w
    simp [part, ha]
  have p2 : ∀ (u : Spot), (part 4 #[.int .u8 u.a, .int .u8 u.b, .int .u8 u.c, .int .u8 u.d, .int .i64 u.num, .string u.line, .bool u.alive] 6).run Tryz.prog w = .ok (.bool u.alive) w := fun u => by
    have ha := Tryz.isAgg4 w
    simp [part, ha]
  have n1 : ("cell" : String) ≠ "_" := by decide
  have n2 : ("alive" : String) ≠ "_" := by decide
  simp only [Op.eqFields, if_pos n1, if_pos n2, Sem.run_bind, p1, q1, Result.andThen_ok]
  by_cases h1 : (s.a = t.a ∧ s.b = t.b ∧ s.c = t.c ∧ s.d = t.d) ∧ s.num = t.num ∧ s.line = t.line
  · rw [decide_eq_true h1]
    simp only [Bool.not_true, Bool.false_eq_true, if_false, Sem.run_bind, p2, q2, Result.andThen_ok]
    by_cases h3 : s.alive = t.alive
    · have e : s = t := (spot_ext s t).2 ⟨h1.1, h1.2.1, h1.2.2, h3⟩
      simp [e]
    · have e : s ≠ t := fun e => h3 (by rw [e])
      simp [h3, e]
  · have e : s ≠ t := fun e => h1 (by rw [e]; simp)
    rw [decide_eq_false h1]
    simp [e]
end Go.Proofs.YtgdfipmdmgkidaaGreatDoor
/- Where a cell stands in a row; a hunk's place and what it names between its two ends; a row's text. -/
namespace Go.Proofs.YtgdfipmdmgkidaaGreatDoor
open Go.RowKit
def idxS (S : List Spot) (t : Spot) : Option Nat := S.findIdx? fun s => decide (t = s)
def idxInt : Option Nat → Int
  | some k => k
  | none => -1
theorem idx_hit {S : List Spot} {t : Spot} {k : Nat} (hk : k < S.length) (h : t = S[k]) (hno : ∀ i (hi : i < k), t ≠ S[i]'(by omega)) : idxS S t = some k := by
  unfold idxS
  rw [List.findIdx?_eq_some_iff_getElem]
  exact ⟨hk, by simpa using h, fun j hj => by simpa using hno j hj⟩
theorem idx_miss {S : List Spot} {t : Spot} (hno : ∀ i (hi : i < S.length), t ≠ S[i]) : idxS S t = none := by
  unfold idxS
  rw [List.findIdx?_eq_none_iff]
  intro x hx
  obtain ⟨i, hi, rfl⟩ := List.mem_iff_getElem.1 hx
  simpa using hno i hi
theorem index253_any (S : List Spot) (t : Spot) (v0 : Value) (w : World) (hv : SV w v0 S) (hlen : S.length ≤ 1000000) :
    Calls Tryz.prog 284 #[v0, spV t] w fun e w' => e = .returned (.int .i64 (idxInt (idxS S t))) ∧ Below w.heap.size w w' := by
  obtain ⟨ao, cap, rfl⟩ := hv.shape
  have hb0 : Below w.heap.size w (w.alloc (.cells #[.int .u8 t.a, .int .u8 t.b, .int .u8 t.c, .int .u8 t.d, .int .i64 t.num, .string t.line, .bool t.alive] 313)) := (Below.refl _ _).alloc (Nat.le_refl _) _
  have hk0 := (MapKept.heap_alloc w (.cells #[.int .u8 t.a, .int .u8 t.b, .int .u8 t.c, .int .u8 t.d, .int .i64 t.num, .string t.line, .bool t.alive] 313)).1
  unfold spV
  go_enter Tryz.func284, Tryz.ntmps284
  go_wp2
  generalize w.alloc (.cells #[.int .u8 t.a, .int .u8 t.b, .int .u8 t.c, .int .u8 t.d, .int .i64 t.num, .string t.line, .bool t.alive] 313) = w1 at *
  have hv1 := hv.below hb0 (Nat.le_refl _)
  have hs0 := hb0.size
  go_loopw [8] (fun i wr => ∃ k : Nat, k ≤ S.length ∧ i = .int .i64 k ∧ Hid (∀ i (hi : i < S.length), i < k → t ≠ S[i]) ∧ Below w1.heap.size w1 wr) (fun i _ => S.length - (intOf i).toNat)
  case atStart => exact ⟨0, Nat.zero_le _, rfl, (fun i _ h => by omega), Below.refl _ _⟩
  case round =>
    obtain ⟨k, hk, rfl, HN, hbw⟩ := hrel
    by_cases hlt : k < S.length
    · have hs : S[k]? = some S[k] := List.getElem?_eq_getElem hlt
      obtain ⟨b, o, rfl, hb, c0, c1, c2, c3, c4, c5, c6⟩ := (hv1.below hbw (Nat.le_refl _)).at hs
      have hkl : w.heap.size < w1.heap.size := by
        rcases Nat.lt_or_ge w.heap.size w1.heap.size with h | h
        · exact h
        · rw [Array.getElem?_eq_none h] at hk0; cases hk0
      have hkr : wr.heap[w.heap.size]? = some (.cells #[.int .u8 t.a, .int .u8 t.b, .int .u8 t.c, .int .u8 t.d, .int .i64 t.num, .string t.line, .bool t.alive] 313 (0, 0)) := (hbw.block _ hkl).trans hk0
      have d0 : wr.cell? ⟨w.heap.size, 0, none⟩ = some (.int .u8 t.a) := by simp [World.cell?, hkr]
      have d1 : wr.cell? ⟨w.heap.size, 1, none⟩ = some (.int .u8 t.b) := by simp [World.cell?, hkr]
      have d2 : wr.cell? ⟨w.heap.size, 2, none⟩ = some (.int .u8 t.c) := by simp [World.cell?, hkr]
      have d3 : wr.cell? ⟨w.heap.size, 3, none⟩ = some (.int .u8 t.d) := by simp [World.cell?, hkr]
      have d4 : wr.cell? ⟨w.heap.size, 4, none⟩ = some (.int .i64 t.num) := by simp [World.cell?, hkr]
      have d5 : wr.cell? ⟨w.heap.size, 5, none⟩ = some (.string t.line) := by simp [World.cell?, hkr]
      have d6 : wr.cell? ⟨w.heap.size, 6, none⟩ = some (.bool t.alive) := by simp [World.cell?, hkr]
      obtain ⟨s, hss⟩ : ∃ s, S[k] = s := ⟨_, rfl⟩
      rw [hss] at c0 c1 c2 c3 c4 c5 c6
      have HT := hid hss
      clear hss hs hkr
      cases he : decide (t = s)
      · have hq : ∀ u : World, (binOp .eql 313 (.agg #[.int .u8 t.a, .int .u8 t.b, .int .u8 t.c, .int .u8 t.d, .int .i64 t.num, .string t.line, .bool t.alive]) (.agg #[.int .u8 s.a, .int .u8 s.b, .int .u8 s.c, .int .u8 s.d, .int .i64 s.num, .string s.line, .bool s.alive])).run Tryz.prog u = .ok (.bool false) u := fun u => by
          have := run_eq_spot t s u
          rw [he] at this
          exact this
        have HE : Hid (t ≠ s) := by show _ ≠ _; simpa using he
        clear he
        go_wp2_with fail
        go_quiet (fail)
        go_wp2
        go_roundw
        case rel =>
          refine ⟨k + 1, by omega, by go_num, fun i hi h => ?_, below_drewN hbw _⟩
          by_cases e : i = k
          · subst e; rw [HT.out]; exact HE.out
          · exact HN.out i hi (by omega)
        case measure => simp [intOf]; omega
      · have hq : ∀ u : World, (binOp .eql 313 (.agg #[.int .u8 t.a, .int .u8 t.b, .int .u8 t.c, .int .u8 t.d, .int .i64 t.num, .string t.line, .bool t.alive]) (.agg #[.int .u8 s.a, .int .u8 s.b, .int .u8 s.c, .int .u8 s.d, .int .i64 s.num, .string s.line, .bool s.alive])).run Tryz.prog u = .ok (.bool true) u := fun u => by
          have := run_eq_spot t s u
          rw [he] at this
          exact this
        have HE : Hid (t = s) := by show _ = _; simpa using he
        clear he
        go_wp2_with fail
        go_quiet (fail)
        go_wp2
        go_ret
        exact ⟨ret_int (by rw [idx_hit hlt (by rw [HT.out]; exact HE.out) (fun i hi => HN.out i (by omega) hi)]; rfl), hb0.trans ((below_drewN hbw _).mono hs0)⟩
    · go_wp2
      go_ret
      exact ⟨ret_int (by rw [idx_miss (fun i hi => HN.out i hi (by omega))]; rfl), hb0.trans (hbw.mono hs0)⟩
theorem cells2_of {w : World} {g : Nat} {x y : Value} {t : TypeId} {f : Nat × Nat} (h : w.heap[g]? = some (.cells #[x, y] t f)) : w.cell? ⟨g, 0, none⟩ = some x ∧ w.cell? ⟨g, 1, none⟩ = some y := by
  simp [World.cell?, h]
theorem place250_any (N S : List Spot) (t : Spot) (hN : N[0]? = some t) (nv bv v0 : Value) (ba : Option Addr) (bn bc : Nat) (hbv : bv = .slice ba bn bc) (w : World) (hn : SV w nv N) (hv : SV w v0 S) (hlen : S.length ≤ 1000000) :
    Calls Tryz.prog 362 #[.agg #[nv, bv], v0] w fun e w' => e = .returned (.int .i64 (idxInt (idxS S t))) ∧ Below w.heap.size w w' := by
  subst hbv
  obtain ⟨na, nc, rfl⟩ := hn.shape
  have hb0 : Below w.heap.size w (w.alloc (.cells #[.slice na N.length nc, .slice ba bn bc] 327)) := (Below.refl _ _).alloc (Nat.le_refl _) _
  have hs0 := hb0.size
  have hv1 := hv.below hb0 (Nat.le_refl _)
  obtain ⟨b, o, rfl, hb, c0, c1, c2, c3, c4, c5, c6⟩ := (hn.below hb0 (Nat.le_refl _)).at hN
  simp only [Nat.zero_mul, Nat.add_zero] at c0 c1 c2 c3 c4 c5 c6
  have hNl : (0 : Int) < (N.length : Int) := by have := (List.getElem?_eq_some_iff.1 hN).1; omega
  have HI := hid (index253_any S t v0 _ hv1 hlen)
  clear hv1 hv hn hN
  go_enter Tryz.func362, Tryz.ntmps362
  go_wp2_with fail
  refine HI.out.mono ?_
  rintro e w2 ⟨rfl, hb2⟩
  clear HI
  go_wp2
  go_ret
  exact ⟨rfl, hb0.trans (hb2.mono hs0)⟩
theorem between251_any (N : List Spot) (nv bv : Value) (ba : Option Addr) (bn bc : Nat) (hbv : bv = .slice ba bn bc) (w : World) (hn : SV w nv N) (hlen : N.length ≤ 1000000) (h2 : 2 ≤ N.length) :
    Calls Tryz.prog 360 #[.agg #[nv, bv]] w fun e w' => ∃ v, e = .returned v ∧ SV w' v ((N.take (N.length - 1)).drop 1) ∧ Below w.heap.size w w' := by
  subst hbv
  have hn0 := hn
  obtain ⟨na, nc, rfl⟩ := hn.shape
  have hb0 : Below w.heap.size w (w.alloc (.cells #[.slice na N.length nc, .slice ba bn bc] 327)) := (Below.refl _ _).alloc (Nat.le_refl _) _
  have HU : Hid (Calls Tryz.prog 356 #[.slice na N.length nc] (w.alloc (.cells #[.slice na N.length nc, .slice ba bn bc] 327)) fun e w' => ∃ v, e = .returned v ∧ SV (w.alloc (.cells #[.slice na N.length nc, .slice ba bn bc] 327)) v ((N.take (N.length - 1)).drop 1) ∧ w' = (w.alloc (.cells #[.slice na N.length nc, .slice ba bn bc] 327))) := unframed248_any N _ _ (hn.below hb0 (Nat.le_refl _)) hlen h2
  clear hn hn0
  go_enter Tryz.func360, Tryz.ntmps360
  go_wp2_with fail
  refine HU.out.mono ?_
  rintro e w2 ⟨v, rfl, hsv, rfl⟩
  clear HU
  obtain ⟨M, hM⟩ : ∃ M, (N.take (N.length - 1)).drop 1 = M := ⟨_, rfl⟩
  rw [hM] at hsv
  have HM := hid hM
  clear hM
  have hsv' := hsv
  obtain ⟨va, vc, rfl⟩ := hsv.shape
  go_wp2
  go_ret
  exact ⟨_, rfl, by rw [HM.out]; exact hsv', hb0⟩
def catB (L : List ByteArray) : ByteArray := ⟨(L.flatMap (·.data.toList)).toArray⟩
theorem catB_join (L : List ByteArray) : (⟨(Lib.join (L.map (·.data.toList)) (ByteArray.empty).data.toList).toArray⟩ : ByteArray) = catB L := by
  unfold catB Lib.join
  congr 2
  have : ∀ M : List (List UInt8), List.intercalate [] M = M.flatten := by
    intro M
    unfold List.intercalate
    induction M with
    | nil => rfl
    | cons a M ih =>
      cases M with
      | nil => rfl
      | cons b M => simp only [List.intersperse, List.flatten_cons, List.nil_append] at *; rw [ih]
  show List.intercalate [] _ = _
  rw [this, List.flatMap_def]
theorem join147_any (L : List ByteArray) (v0 : Value) (B : Nat) (w : World) (hv : w.ownsRow B 9 1 v0 L.length (strs L)) (hlen : L.length ≤ 1000000) (hsz : (catB L).size ≤ 1000000000) :
    Calls Tryz.prog 199 #[v0, .string ⟨#[]⟩] w fun e w' => e = .returned (.string (catB L)) ∧ Below w.heap.size w w' := by
  have hlt := hv.lt
  have hc := fun g => World.ownsRow.cells hv (g := g)
  rcases hv.2 with ⟨rfl, h0⟩ | ⟨g, cp, cur, rfl, _, hg, hcp, _⟩
  · have hL : L = [] := List.eq_nil_of_length_eq_zero h0
    subst hL
    refine (Tryz.strings_Join_none none 0 ⟨#[]⟩ w).mono ?_
    rintro e w' ⟨rfl, rfl⟩
    exact ⟨rfl, Below.refl _ _⟩
  · refine (Tryz.strings_Join g 0 cp L ⟨#[]⟩ w (fun j x hj => ?_) (hlt g rfl).2 (by omega) hcp ?_).mono ?_
    · have := hc g rfl j (.string x) (by simp [hj])
      rw [Nat.zero_add, ← this]
      cases j <;> simp [Addr.add]
    · have := congrArg (fun b : ByteArray => b.data.toList.length) (catB_join L)
      simp only at this
      rw [show (⟨#[]⟩ : ByteArray).data.toList = (ByteArray.empty).data.toList from rfl]
      have h2 : (catB L).data.toList.length = (catB L).size := by rw [Array.length_toList]; rfl
      rw [h2] at this
      omega
    · rintro e w' ⟨rfl, hb⟩
      refine ⟨?_, hb⟩
      rw [show (⟨#[]⟩ : ByteArray).data.toList = (ByteArray.empty).data.toList from rfl, catB_join]
def rowText (S : List Spot) : ByteArray := catB (rowLines S)
theorem rowLines_len (S : List Spot) : (rowLines S).length ≤ S.length := by
  unfold rowLines living
  rw [List.length_map]
  exact livTo_len S _
theorem text98_any (S : List Spot) (v0 : Value) (w : World) (hv : SV w v0 S) (hlen : S.length ≤ 1000000) (hsz : (rowText S).size ≤ 1000000000) :
    Calls Tryz.prog 135 #[v0] w fun e w' => e = .returned (.string (rowText S)) ∧ Below w.heap.size w w' := by
  have HL := hid (lines148_any S v0 w hv hlen)
  have hl := rowLines_len S
  obtain ⟨ao, cap, rfl⟩ := hv.shape
  clear hv
  go_enter Tryz.func135, Tryz.ntmps135
  go_wp2_with fail
  refine HL.out.mono ?_
  rintro e w1 ⟨v, rfl, ho, hb⟩
  have HJ : Hid (Calls Tryz.prog 199 #[v, .string ⟨#[]⟩] w1 fun e w' => e = .returned (.string (rowText S)) ∧ Below w1.heap.size w1 w') := join147_any (rowLines S) v _ w1 ho (by omega) hsz
  clear HL
  obtain ⟨va, vc, rfl⟩ := own_shape ho
  clear ho
  go_wp2_with fail
  refine HJ.out.mono ?_
  rintro e w2 ⟨rfl, hb2⟩
  clear HJ
  go_wp2
  go_ret
  exact ⟨rfl, hb.trans (hb2.mono hb.size)⟩
end Go.Proofs.YtgdfipmdmgkidaaGreatDoor

/- The living lines of a row are told, each behind a mark. -/
set_option maxHeartbeats 3200000
set_option maxRecDepth 100000
namespace Go.Proofs.YtgdfipmdmgkidaaGreatDoor
open Go.RowKit
def tlB (mark l : ByteArray) : List UInt8 := (mark.data.toList ++ l.data.toList) ++ if Lib.hasSuffix l.data.toList [10] = true then [] else [36, 10]
def tellL (mark : ByteArray) (L : List ByteArray) : List UInt8 := L.flatMap (tlB mark)
theorem tellL_snoc (mark : ByteArray) (L : List ByteArray) (l : ByteArray) : tellL mark (L ++ [l]) = tellL mark L ++ tlB mark l := by simp [tellL]
theorem tellL_take (mark : ByteArray) (L : List ByteArray) (k : Nat) (h : k < L.length) : tellL mark (L.take (k + 1)) = tellL mark (L.take k) ++ tlB mark L[k] := by rw [List.take_succ_eq_append_getElem h, tellL_snoc]
theorem tellL_le (mark : ByteArray) (L : List ByteArray) (k : Nat) : (tellL mark (L.take k)).length ≤ (tellL mark L).length := by
  conv => rhs; rw [← List.take_append_drop k L]
  unfold tellL
  rw [List.flatMap_append, List.length_append]
  omega
theorem own_others {w w' : World} {B n size b : Nat} {e : TypeId} {v : Value} {xs : List Value} (h : w.ownsRow B e size v n xs) (ho : Lib.OthersKept 5 (some b) w w') (he : e ≠ 5) (hb : b < B) : w'.ownsRow B e size v n xs := by
  refine ⟨h.1, ?_⟩
  rcases h.2 with hn | ⟨g, cap, cur, hv, hg0, hg, rest⟩
  · exact .inl hn
  · refine .inr ⟨g, cap, cur, hv, hg0, ho g _ hg (by simp; omega) (fun c fz hc => ?_), rest⟩
    simp at hc
    exact he hc.2.1
theorem bld_empty {w w' : World} {B b : Nat} (h : w.heap[b]? = some (.cells #[.pointer none, .slice none 0 0] 158 (0, 0))) (hB : B ≤ b) (hk : w'.heap[b]? = w.heap[b]?) : Lib.IsBuilderF 158 5 B b [] w' :=
  .inl ⟨hB, .slice none 0 0, hk.trans h, World.ownsRowF_of (World.ownsRow_nil _ _ _ _), by simp [Value.ownBlock]⟩
theorem strCells_app (a b : ByteArray) : Lib.strCells (a ++ b) = Lib.byteCells (a.data.toList ++ b.data.toList) := by
  rw [Lib.strCells_eq]
  congr 1
theorem byteCells_app (a b : List UInt8) : Lib.byteCells (a ++ b) = Lib.byteCells a ++ Lib.byteCells b := by simp [Lib.byteCells]
theorem tellLines240_any (mark : ByteArray) (S : List Spot) (v0 : Value) (w : World) (hv : SV w v0 S) (hlen : S.length ≤ 1000000) (hm : mark.size ≤ 10) (hsz : (tellL mark (rowLines S)).length ≤ 1000000000) (hls : ∀ l ∈ rowLines S, l.size ≤ 1000000000) :
    Calls Tryz.prog 338 #[.string mark, v0] w fun e w' => e = .returned (.string ⟨(tellL mark (rowLines S)).toArray⟩) ∧ Below w.heap.size w w' := by
  have hb0 : Below w.heap.size w (w.alloc (.cells #[.pointer none, .slice none 0 0] 158)) := (Below.refl _ _).alloc (Nat.le_refl _) _
  have hbk := (MapKept.heap_alloc w (.cells #[.pointer none, .slice none 0 0] 158)).1
  have hs1 : (w.alloc (.cells #[.pointer none, .slice none 0 0] 158)).heap.size = w.heap.size + 1 := by simp
  have HL : Hid (Calls Tryz.prog 200 #[v0] (w.alloc (.cells #[.pointer none, .slice none 0 0] 158)) fun e w' => ∃ v, e = .returned v ∧ w'.ownsRow (w.alloc (.cells #[.pointer none, .slice none 0 0] 158)).heap.size 9 1 v (rowLines S).length (strs (rowLines S)) ∧ Below (w.alloc (.cells #[.pointer none, .slice none 0 0] 158)).heap.size (w.alloc (.cells #[.pointer none, .slice none 0 0] 158)) w') := lines148_any S v0 _ (hv.below hb0 (Nat.le_refl _)) hlen
  have hll := rowLines_len S
  obtain ⟨ao, cap, rfl⟩ := hv.shape
  clear hv
  obtain ⟨L, hL⟩ : ∃ L, rowLines S = L := ⟨_, rfl⟩
  rw [hL] at HL hsz hll hls
  have HLS := hid hL
  clear hL
  have HSZ := hid hsz
  have HLL := hid hls
  clear hsz hls
  go_enter Tryz.func338, Tryz.ntmps338
  go_wp2_with fail
  generalize w.alloc (.cells #[.pointer none, .slice none 0 0] 158) = wa at *
  refine HL.out.mono ?_
  rintro e w1 ⟨lv, rfl, ho, hb1⟩
  clear HL
  have hbl : Lib.IsBuilderF 158 5 w.heap.size w.heap.size (Lib.byteCells []) w1 := bld_empty hbk (Nat.le_refl _) (hb1.block _ (by omega))
  obtain ⟨la, lc, rfl⟩ := own_shape ho
  have hb2 : Below w.heap.size w w1 := hb0.trans (hb1.mono (by omega))
  rw [hs1] at ho
  clear hbk hb0 hb1
  go_wp2
  go_loopw [11] (fun i wr => ∃ k : Nat, k ≤ L.length ∧ i = .int .i64 k ∧ Hid (Lib.IsBuilderF 158 5 w.heap.size w.heap.size (Lib.byteCells (tellL mark (L.take k))) wr) ∧ wr.ownsRow (w.heap.size + 1) 9 1 (.slice la L.length lc) L.length (strs L) ∧ Below w.heap.size w wr) (fun i _ => L.length - (intOf i).toNat)
  case atStart => exact ⟨0, Nat.zero_le _, rfl, by show Lib.IsBuilderF _ _ _ _ _ _; simpa [tellL] using hbl, ho, hb2⟩
  case round =>
    obtain ⟨k, hk, rfl, HB, hown, hbw⟩ := hrel
    have hszr : w.heap.size ≤ wr.heap.size := hbw.size
    have htk := tellL_le mark L k
    have htk1 := tellL_le mark L (k + 1)
    have hSZ := HSZ.out
    by_cases hlt : k < L.length
    · have hll1 := HLL.out _ (List.getElem_mem hlt)
      have HT := hid (tellL_take mark L k hlt)
      rcases View.own hown with h | ⟨b, o, rfl, hb, hc⟩
      · omega
      have hcell : wr.cell? ⟨b, o + k, none⟩ = some (.string L[k]) := by
        have := hc k hlt
        rwa [List.getD_eq_getElem?_getD, List.getElem?_eq_getElem hlt] at this
      obtain ⟨l, hl⟩ : ∃ l, L[k] = l := ⟨_, rfl⟩
      rw [hl] at hcell hll1
      have HTL : Hid (tellL mark (L.take (k + 1)) = tellL mark (L.take k) ++ tlB mark l) := by show _ = _; rw [← hl]; exact HT.out
      clear HT hl hc
      have hln : (tellL mark (L.take k)).length ≤ 1000000000 := by omega
      generalize tellL mark (L.take k) = A at *
      have HW : Hid (Calls Tryz.prog 114 #[.pointer (some ⟨w.heap.size, 0, none⟩), .string (mark ++ l)] wr fun e w' => e = .returned (.tuple #[.int .i64 (mark ++ l).size, .nilIface]) ∧ (Lib.BuilderAtF 158 5 w.heap.size w.heap.size (.pointer (some ⟨w.heap.size, 0, none⟩)) (Lib.byteCells A ++ Lib.strCells (mark ++ l)) w' ∧ Below w.heap.size wr w' ∧ Lib.OthersKept 5 (some w.heap.size) wr w')) :=
        Tryz.Builder_WriteString_k w.heap.size w.heap.size (Lib.byteCells A) (mark ++ l) wr HB.out (by rw [Lib.byteCells_length, ByteArray.size_append]; omega) hszr
      go_wp2_with fail
      refine HW.out.mono ?_
      rintro e w2 ⟨rfl, hB2, hbe, hok⟩
      rw [strCells_app, ← byteCells_app] at hB2
      have hown2 := own_others hown hok (by decide) (Nat.lt_succ_self _)
      have hbw2 := hbw.trans hbe
      clear HW HB hbe hok hown hbw hcell
      cases hsf : Lib.hasSuffix l.data.toList [10]
      · have HS : Hid (tlB mark l = (mark.data.toList ++ l.data.toList) ++ [36, 10]) := by show _ = _; unfold tlB; rw [hsf]; rfl
        have HF : Hid (Calls Tryz.prog 339 #[.string l, .string ⟨#[10]⟩] w2 fun e w' => e = .returned (.bool false) ∧ w' = w2) := by
          have := Tryz.strings_HasSuffix l ⟨#[10]⟩ w2 (by omega)
          rw [show (⟨#[10]⟩ : ByteArray).data.toList = [10] from rfl, hsf] at this
          exact this
        clear hsf
        go_wp2_with fail
        refine HF.out.mono ?_
        rintro e w3 ⟨rfl, rfl⟩
        clear HF
        have HW : Hid (Calls Tryz.prog 114 #[.pointer (some ⟨w.heap.size, 0, none⟩), .string ⟨#[36, 10]⟩] w3 fun e w' => e = .returned (.tuple #[.int .i64 2, .nilIface]) ∧ (Lib.BuilderAtF 158 5 w.heap.size w.heap.size (.pointer (some ⟨w.heap.size, 0, none⟩)) (Lib.byteCells (A ++ (mark.data.toList ++ l.data.toList)) ++ Lib.strCells ⟨#[36, 10]⟩) w' ∧ Below w.heap.size w3 w' ∧ Lib.OthersKept 5 (some w.heap.size) w3 w')) :=
          Tryz.Builder_WriteString_k w.heap.size w.heap.size (Lib.byteCells (A ++ (mark.data.toList ++ l.data.toList))) ⟨#[36, 10]⟩ w3 (.inr hB2) (by
            have h1 : mark.data.toList.length = mark.size := Array.length_toList
            have h2 : l.data.toList.length = l.size := Array.length_toList
            have h3 : (⟨#[36, 10]⟩ : ByteArray).size = 2 := rfl
            rw [Lib.byteCells_length, List.length_append, List.length_append, h1, h2, h3]
            omega) hbw2.size
        go_wp2_with fail
        refine HW.out.mono ?_
        rintro e w4 ⟨rfl, hB4, hbe4, hok4⟩
        rw [Lib.strCells_eq, ← byteCells_app] at hB4
        have hown4 := own_others hown2 hok4 (by decide) (Nat.lt_succ_self _)
        have hbw4 := hbw2.trans hbe4
        clear HW hbe4 hok4 hown2 hbw2 hB2
        go_wp2
        go_roundw
        case rel => exact ⟨k + 1, by omega, by go_num, .inr (by rw [HTL.out, HS.out, ← List.append_assoc]; exact hB4), hown4, hbw4⟩
        case measure => simp [intOf]; omega
      · have HS : Hid (tlB mark l = mark.data.toList ++ l.data.toList) := by show _ = _; unfold tlB; rw [hsf]; simp
        have HF : Hid (Calls Tryz.prog 339 #[.string l, .string ⟨#[10]⟩] w2 fun e w' => e = .returned (.bool true) ∧ w' = w2) := by
          have := Tryz.strings_HasSuffix l ⟨#[10]⟩ w2 (by omega)
          rw [show (⟨#[10]⟩ : ByteArray).data.toList = [10] from rfl, hsf] at this
          exact this
        clear hsf
        go_wp2_with fail
        refine HF.out.mono ?_
        rintro e w3 ⟨rfl, rfl⟩
        clear HF
        go_wp2
        go_roundw
        case rel => exact ⟨k + 1, by omega, by go_num, .inr (by rw [HTL.out, HS.out]; exact hB2), hown2, hbw2⟩
        case measure => simp [intOf]; omega
    · have e : k = L.length := by omega
      have HB2 : Hid (Calls Tryz.prog 116 #[.pointer (some ⟨w.heap.size, 0, none⟩)] wr fun e w' => e = .returned (.string ⟨(tellL mark L).toArray⟩) ∧ (Lib.IsBuilderF 158 5 w.heap.size w.heap.size (Lib.byteCells (tellL mark L)) w' ∧ Below w.heap.size wr w' ∧ Lib.OthersKept 5 (some w.heap.size) wr w')) := by
        have := HB.out
        rw [e, List.take_length] at this
        exact Tryz.Builder_String_any_k w.heap.size w.heap.size (tellL mark L) wr this hszr
      clear e
      go_wp2_with fail
      refine HB2.out.mono ?_
      rintro e w2 ⟨rfl, _, hbe, _⟩
      clear HB2
      go_wp2
      go_ret
      exact ⟨by rw [HLS.out]; rfl, hbw.trans hbe⟩
end Go.Proofs.YtgdfipmdmgkidaaGreatDoor
/- A patch brings lines: each is a new cell. -/
namespace Go.Proofs.YtgdfipmdmgkidaaGreatDoor
open Go.RowKit
structure Pid where
  a : Int
  b : Int
  c : Int
  d : Int
  deriving DecidableEq
def brS (i : Pid) (n : Int) (L : List ByteArray) (k : Nat) : Spot := ⟨i.a, i.b, i.c, i.d, n + k, L.getD k ByteArray.empty, true⟩
def brTo (i : Pid) (n : Int) (L : List ByteArray) (k : Nat) : List Spot := (List.range k).map (brS i n L)
def bring (i : Pid) (n : Int) (L : List ByteArray) : List Spot := brTo i n L L.length
theorem brTo_len (i : Pid) (n : Int) (L : List ByteArray) (k : Nat) : (brTo i n L k).length = k := by simp [brTo]
theorem brTo_succ (i : Pid) (n : Int) (L : List ByteArray) (k : Nat) : brTo i n L (k + 1) = brTo i n L k ++ [brS i n L k] := by simp [brTo, List.range_succ]
def MAt (w : World) (mb : Nat) (i : Pid) (n : Int) : Prop := w.heap[mb]? = some (.cells #[.int .u8 i.a, .int .u8 i.b, .int .u8 i.c, .int .u8 i.d, .int .i64 n] 221 (0, 0))
structure But (w w' : World) (m : Nat) : Prop where
  os : w'.os = w.os
  tape : w'.tape = w.tape
  output : w'.output = w.output
  size : w.heap.size ≤ w'.heap.size
  block : ∀ k, k < w.heap.size → k ≠ m → w'.heap[k]? = w.heap[k]?
theorem But.refl (w : World) (m : Nat) : But w w m := ⟨rfl, rfl, rfl, Nat.le_refl _, fun _ _ _ => rfl⟩
theorem But.trans {a b c : World} {m : Nat} (h : But a b m) (k : But b c m) : But a c m :=
  ⟨k.os.trans h.os, k.tape.trans h.tape, k.output.trans h.output, Nat.le_trans h.size k.size, fun i hi hm => (k.block i (Nat.lt_of_lt_of_le hi h.size) hm).trans (h.block i hi hm)⟩
theorem But.below {a b c : World} {m : Nat} (h : But a b m) (k : Below b.heap.size b c) : But a c m :=
  ⟨k.os.trans h.os, k.tape.trans h.tape, k.output.trans h.output, Nat.le_trans h.size k.size, fun i hi hm => (k.block i (Nat.lt_of_lt_of_le hi h.size)).trans (h.block i hi hm)⟩
theorem But.of_below {b c : World} (m : Nat) (k : Below b.heap.size b c) : But b c m := (But.refl b m).below k
theorem But.set {a b : World} {m o : Nat} (h : But a b m) (u : Value) : But a (b.setCell ⟨m, o, none⟩ u) m :=
  ⟨h.os, h.tape, h.output, by simpa [World.setCell] using h.size, fun i hi hm => (Below.heap_setCell _ _ _ _ hm).trans (h.block i hi hm)⟩
theorem But.drew {a b : World} {m : Nat} (h : But a b m) : But a b.drew m := ⟨h.os, h.tape, h.output, h.size, h.block⟩
theorem But.alloc {a b : World} {m : Nat} (h : But a b m) (o : Obj) : But a (b.alloc o) m :=
  ⟨h.os, h.tape, h.output, by have := h.size; simp; omega, fun i hi hm => (Below.heap_alloc _ _ _ (Nat.lt_of_lt_of_le hi h.size)).trans (h.block i hi hm)⟩
theorem But.grown {a b c : World} {m : Nat} {row : Option Nat} (h : But a b m) (hg : b.grownBy c row) (hr : ∀ k, row = some k → a.heap.size ≤ k) : But a c m :=
  ⟨hg.os.trans h.os, hg.tape.trans h.tape, hg.output.trans h.output, Nat.le_trans h.size hg.size, fun i hi hm => (hg.block i (Nat.lt_of_lt_of_le hi h.size) (fun e => by have := hr i e.symm; omega)).trans (h.block i hi hm)⟩
theorem MAt.cells {w : World} {mb : Nat} {i : Pid} {n : Int} (h : MAt w mb i n) : w.cell? ⟨mb, 0, none⟩ = some (.int .u8 i.a) ∧ w.cell? ⟨mb, 1, none⟩ = some (.int .u8 i.b) ∧ w.cell? ⟨mb, 2, none⟩ = some (.int .u8 i.c) ∧ w.cell? ⟨mb, 3, none⟩ = some (.int .u8 i.d) ∧ w.cell? ⟨mb, 4, none⟩ = some (.int .i64 n) := by
  unfold MAt at h
  simp [World.cell?, h]
theorem MAt.free {w : World} {mb : Nat} {i : Pid} {n : Int} (h : MAt w mb i n) (o : Nat) : w.frozen? ⟨mb, o, none⟩ = false := by
  unfold MAt at h
  simp [World.frozen?, h]
theorem MAt.lt {w : World} {mb : Nat} {i : Pid} {n : Int} (h : MAt w mb i n) : mb < w.heap.size := by
  rcases Nat.lt_or_ge mb w.heap.size with h' | h'
  · exact h'
  · unfold MAt at h; rw [Array.getElem?_eq_none h'] at h; cases h
theorem MAt.put {w : World} {mb : Nat} {i : Pid} {n m : Int} (h : MAt w mb i n) : MAt (w.setCell ⟨mb, 4, none⟩ (.int .i64 m)) mb i m := heap_setCell_same w mb 4 _ 221 _ h
theorem View.but {w w' : World} {ao : Option Addr} {L : List ByteArray} {mb : Nat} {i : Pid} {n : Int} (h : View w ao L) (hm : MAt w mb i n) (hb : But w w' mb) : View w' ao L := by
  rcases h with h | ⟨b, o, rfl, hb', hc⟩
  · exact .inl h
  · by_cases h0 : L.length = 0
    · exact .inl h0
    · refine .inr ⟨b, o, rfl, Nat.lt_of_lt_of_le hb' hb.size, fun k hk => ?_⟩
      have h1 := hc k hk
      have hne : b ≠ mb := by
        intro e
        subst e
        unfold MAt at hm
        unfold World.cell? at h1
        rw [hm] at h1
        simp at h1
        match hq : o + k with
        | 0 => rw [hq] at h1; simp at h1
        | 1 => rw [hq] at h1; simp at h1
        | 2 => rw [hq] at h1; simp at h1
        | 3 => rw [hq] at h1; simp at h1
        | 4 => rw [hq] at h1; simp at h1
        | q + 5 => rw [hq] at h1; simp at h1
      rw [← h1]
      unfold World.cell?
      rw [hb.block b hb' hne]
theorem bring164_any (i : Pid) (n : Int) (L : List ByteArray) (ao : Option Addr) (cap mb : Nat) (w : World) (hv : View w ao L) (hm : MAt w mb i n) (hlen : L.length ≤ 100000) (hn : 0 ≤ n) (hn2 : n ≤ 100000000) :
    Calls Tryz.prog 216 #[.pointer (some ⟨mb, 0, none⟩), .slice ao L.length cap] w fun e w' => ∃ v, e = .returned v ∧ w'.ownsRow w.heap.size 313 7 v (bring i n L).length (rowC (bring i n L)) ∧ MAt w' mb i (n + L.length) ∧ But w w' mb := by
  obtain ⟨i0, hi, hz0, hz1, hz2⟩ := info_parts Tryz.info313
  have hmlt := hm.lt
  go_enter Tryz.func216, Tryz.ntmps216
  go_wp2
  go_loopw [5, 10] (fun v i' wr => ∃ k : Nat, k ≤ L.length ∧ i' = .int .i64 k ∧ wr.ownsRow w.heap.size 313 7 v (brTo i n L k).length (rowC (brTo i n L k)) ∧ Hid (MAt wr mb i (n + k)) ∧ But w wr mb) (fun _ i' _ => L.length - (intOf i').toNat)
  case atStart => exact ⟨0, Nat.zero_le _, rfl, by simpa [brTo] using World.ownsRow_nil _ _ _ _, by show MAt _ _ _ _; simpa using hm, But.refl _ _⟩
  case round =>
    obtain ⟨k, hk, rfl, hown, HM, hbw⟩ := hrel
    have hsz : w.heap.size ≤ wr.heap.size := hbw.size
    have hbl := brTo_len i n L k
    by_cases hlt : k < L.length
    · have hvr := hv.but hm hbw
      rcases hvr with h | ⟨b, o, rfl, hb, hc⟩
      · omega
      have hcell := hc k hlt
      have HS := hid (brTo_succ i n L k)
      obtain ⟨l, hl⟩ : ∃ l, L.getD k ByteArray.empty = l := ⟨_, rfl⟩
      rw [hl] at hcell
      have HBS : Hid (brS i n L k = ⟨i.a, i.b, i.c, i.d, n + k, l, true⟩) := by show _ = _; unfold brS; rw [hl]
      clear hl hc
      obtain ⟨m0, m1, m2, m3, m4⟩ := HM.out.cells
      generalize brTo i n L k = A at *
      have hkn : (0 : Int) ≤ n + k ∧ n + k ≤ 200000000 := by omega
      generalize hq : n + (k : Int) = q at *
      go_wp2_with fail
      go_region_law (first
          | (refine step_append_lies _ (by rfl) _ _ _ (by rfl) w.heap.size 313 i0 _ 7 40 Tryz.underlying183 hi hz0 hz1 hz2 rfl (by omega) _ A.length (rowC A) (by rfl) ((hown.alloc _).drew) ⟨wr.heap.size, 0, none⟩ 1 1 (rowC [⟨i.a, i.b, i.c, i.d, q, l, true⟩]) (by rfl) (by rfl) (World.news_of_block (cs := #[.int .u8 i.a, .int .u8 i.b, .int .u8 i.c, .int .u8 i.d, .int .i64 q, .string l, .bool true]) (t := 313) (fr := (0, 0)) (heap_alloc_new wr.drew _)) (rowC_one _) (by omega) (by unfold maxLen; omega) (by omega) (by simp; omega) (wr.heap.size + 1) (by simp) ?_; intro g cp w2 hown2 hgrow hat hlt2))
      all_goals
        have hrow : ∀ j, u5.ownBlock = some j → w.heap.size ≤ j := fun j hj => (hown.lt j hj).1
        have hb2 : But w w2 mb := ((hbw.alloc _).drew).grown hgrow hrow
        have hM2 : MAt w2 mb i q := by
          have h1 := hgrow.block mb (by simp; omega) (fun e => by have := hrow mb e.symm; omega)
          exact h1.trans ((Below.heap_alloc wr _ _ (by omega)).trans HM.out)
        have hO2 : w2.ownsRow w.heap.size 313 7 (.slice (some ⟨g, 0, none⟩) (A.length + 1) cp) (A ++ [(⟨i.a, i.b, i.c, i.d, q, l, true⟩ : Spot)]).length (rowC (A ++ [(⟨i.a, i.b, i.c, i.d, q, l, true⟩ : Spot)])) := by rw [rowC_app]; simpa using hown2
        obtain ⟨x0, x1, x2, x3, x4⟩ := hM2.cells
        have xf := hM2.free 4
        have HM3 : Hid (MAt (w2.setCell ⟨mb, 4, none⟩ (.int .i64 (q + 1))) mb i (q + 1)) := hM2.put
        have hO3 : (w2.setCell ⟨mb, 4, none⟩ (.int .i64 (q + 1))).ownsRow w.heap.size 313 7 (.slice (some ⟨g, 0, none⟩) (A.length + 1) cp) (A ++ [(⟨i.a, i.b, i.c, i.d, q, l, true⟩ : Spot)]).length (rowC (A ++ [(⟨i.a, i.b, i.c, i.d, q, l, true⟩ : Spot)])) := ownsRow_setCell_below hO2 (a := ⟨mb, 4, none⟩) hmlt _
        have hb3 : But w (w2.setCell ⟨mb, 4, none⟩ (.int .i64 (q + 1))) mb := hb2.set _
        clear hown2 hgrow hown hbw hM2 hO2 hb2 HM m0 m1 m2 m3 m4 hcell
        go_wp2
        go_roundw
        case rel => exact ⟨k + 1, by omega, by go_num, by rw [HS.out, HBS.out, ← hbl]; exact hO3, by show MAt _ _ _ _; rw [show n + ((k + 1 : Nat) : Int) = q + 1 by omega]; exact HM3.out, hb3⟩
        case measure => simp [intOf]; omega
    · have e : k = L.length := by omega
      have HE : Hid (brTo i n L k = bring i n L) := by show _ = _; unfold bring; rw [e]
      have HME : Hid (MAt wr mb i (n + L.length)) := by have := HM.out; rw [e] at this; exact this
      clear e
      go_wp2
      go_ret
      rw [HE.out] at hown
      exact ⟨_, rfl, hown, HME.out, hbw⟩
end Go.Proofs.YtgdfipmdmgkidaaGreatDoor
