/- Cells are compared: ids (four bytes), cells, cells of a row. -/
import Derived.Test.YtgdfipmdmgkidaaGreatDoorPgapn
import Derived.Laws.StructEq
import Derived.ChangeKeysEq
import Derived.Deep.QuietTactic
import Derived.BigQuiet
namespace Go.Proofs.YtgdfipmdmgkidaaGreatDoor
open Go.RowKit

theorem Tryz.info5 : (Tryz.prog.info? 5).map (fun i => (i.zero, i.size, i.bytes)) = some (some (.int .u8 0), 1, 1) := by kernel_rfl
theorem Tryz.cells5 : Tryz.prog.cellsOf 5 = 1 := by kernel_rfl

theorem part_u8 (xs : Array Value) (i : Nat) (k : IntKind) (n : Int) (h : xs[i]? = some (.int k n)) (w : World) : (part 5 xs i).run Tryz.prog w = .ok (.int k n) w := by
  have ha := Tryz.isAgg5 w
  simp [part, ha, h]

theorem run_eq_id (d : Nat) (a b c e a' b' c' e' : Int) (w : World) :
    (Op.equalIn (d + 2) 113 (.agg #[.int .u8 a, .int .u8 b, .int .u8 c, .int .u8 e]) (.agg #[.int .u8 a', .int .u8 b', .int .u8 c', .int .u8 e'])).run Tryz.prog w = .ok (decide (a = a' ∧ b = b' ∧ c = c' ∧ e = e')) w := by
  obtain ⟨i0, hi, _⟩ := info_parts Tryz.info5
  have hu : Tryz.prog.underlying 113 = some (.array 4 5) := Tryz.underlying113
  rw [run_equalIn_array w (d + 1) _ _ hu hi, Tryz.cells5]
  have q : ∀ (x y : Int), (Op.equalIn (d + 1) 5 (.int .u8 x) (.int .u8 y)).run Tryz.prog w = .ok (x == y) w := fun x y => run_equalIn_int w d 5 .u8 .u8 x y Tryz.underlying5
  have r4 : List.range 4 = [0, 1, 2, 3] := rfl
  rw [r4]
  simp only [Op.eqItems, Sem.run_bind, Nat.mul_one]
  rw [part_u8 _ 0 .u8 a rfl, Result.andThen_ok, part_u8 _ 0 .u8 a' rfl, Result.andThen_ok, q, Result.andThen_ok]
  by_cases h1 : a = a'
  · subst h1
    simp only [beq_self_eq_true, Bool.not_true, Bool.false_eq_true, if_false, Sem.run_bind]
    rw [part_u8 _ 1 .u8 b rfl, Result.andThen_ok, part_u8 _ 1 .u8 b' rfl, Result.andThen_ok, q, Result.andThen_ok]
    by_cases h2 : b = b'
    · subst h2
      simp only [beq_self_eq_true, Bool.not_true, Bool.false_eq_true, if_false, Sem.run_bind]
      rw [part_u8 _ 2 .u8 c rfl, Result.andThen_ok, part_u8 _ 2 .u8 c' rfl, Result.andThen_ok, q, Result.andThen_ok]
      by_cases h3 : c = c'
      · subst h3
        simp only [beq_self_eq_true, Bool.not_true, Bool.false_eq_true, if_false, Sem.run_bind]
        rw [part_u8 _ 3 .u8 e rfl, Result.andThen_ok, part_u8 _ 3 .u8 e' rfl, Result.andThen_ok, q, Result.andThen_ok]
        by_cases h4 : e = e'
        · subst h4; simp
        · have : (e == e') = false := by simp [h4]
          simp [this, h4]
      · have : (c == c') = false := by simp [h3]
        simp [this, h3]
    · have : (b == b') = false := by simp [h2]
      simp [this, h2]
  · have : (a == a') = false := by simp [h1]
    simp [this, h1]

theorem eq_bytes (t s : ByteArray) : (t.toList == s.toList) = decide (t = s) := by
  by_cases h : t = s
  · subst h; simp
  · rw [word_ne h]; simp [h]

theorem spot_ext (s t : Spot) : s = t ↔ (s.a = t.a ∧ s.b = t.b ∧ s.c = t.c ∧ s.d = t.d) ∧ s.num = t.num ∧ s.line = t.line ∧ s.alive = t.alive := by
  cases s; cases t; simp [and_assoc]

theorem run_eq_cell (d : Nat) (s t : Spot) (w : World) :
    (Op.equalIn (d + 3) 311 (.agg #[.int .u8 s.a, .int .u8 s.b, .int .u8 s.c, .int .u8 s.d, .int .i64 s.num, .string s.line]) (.agg #[.int .u8 t.a, .int .u8 t.b, .int .u8 t.c, .int .u8 t.d, .int .i64 t.num, .string t.line])).run Tryz.prog w =
      .ok (decide ((s.a = t.a ∧ s.b = t.b ∧ s.c = t.c ∧ s.d = t.d) ∧ s.num = t.num ∧ s.line = t.line)) w := by
  have hf : Tryz.prog.underlying 311 = some (.struct (Tryz.prog.fieldsOf 311)) := by kernel_rfl
  have hp : Tryz.prog.stoodInHeld 311 = false := by kernel_rfl
  have hl : (Tryz.prog.fieldsOf 311).toList = [{ name := "by", type := 113, offset := 0, embedded := false, tag := "", pkgPath := "stitch/patch", byteOffset := 0 }, { name := "number", type := 3, offset := 4, embedded := false, tag := "", pkgPath := "stitch/patch", byteOffset := 8 }, { name := "line", type := 9, offset := 5, embedded := false, tag := "", pkgPath := "stitch/patch", byteOffset := 16 }] := by kernel_rfl
  rw [run_equalIn_struct w (d + 2) 311 _ _ hf hp, hl]
  have q1 := run_eq_id d s.a s.b s.c s.d t.a t.b t.c t.d w
  have q2 : (Op.equalIn (d + 2) 3 (.int .i64 s.num) (.int .i64 t.num)).run Tryz.prog w = .ok (s.num == t.num) w := run_equalIn_int w (d + 1) 3 .i64 .i64 _ _ Tryz.underlying3
  have q3 : (Op.equalIn (d + 2) 9 (.string s.line) (.string t.line)).run Tryz.prog w = .ok (s.line.toList == t.line.toList) w := run_equalIn_string w (d + 1) 9 _ _ Tryz.underlying9
  rw [eq_bytes] at q3
  have p1 : ∀ (u : Spot), (part 113 #[.int .u8 u.a, .int .u8 u.b, .int .u8 u.c, .int .u8 u.d, .int .i64 u.num, .string u.line] 0).run Tryz.prog w = .ok (.agg #[.int .u8 u.a, .int .u8 u.b, .int .u8 u.c, .int .u8 u.d]) w := fun u => by
    have ha := Tryz.isAgg113 w
    simp [part, ha]
  have p2 : ∀ (u : Spot), (part 3 #[.int .u8 u.a, .int .u8 u.b, .int .u8 u.c, .int .u8 u.d, .int .i64 u.num, .string u.line] 4).run Tryz.prog w = .ok (.int .i64 u.num) w := fun u => by
    have ha := Tryz.isAgg3 w
    simp [part, ha]
  have p3 : ∀ (u : Spot), (part 9 #[.int .u8 u.a, .int .u8 u.b, .int .u8 u.c, .int .u8 u.d, .int .i64 u.num, .string u.line] 5).run Tryz.prog w = .ok (.string u.line) w := fun u => by
    have ha := Tryz.isAgg9 w
    simp [part, ha]
  have n1 : ("by" : String) ≠ "_" := by decide
  have n2 : ("number" : String) ≠ "_" := by decide
  have n3 : ("line" : String) ≠ "_" := by decide
  simp only [Op.eqFields, if_pos n1, if_pos n2, if_pos n3, Sem.run_bind, p1, q1, Result.andThen_ok]
  by_cases h1 : s.a = t.a ∧ s.b = t.b ∧ s.c = t.c ∧ s.d = t.d
  · have e1 : decide (s.a = t.a ∧ s.b = t.b ∧ s.c = t.c ∧ s.d = t.d) = true := decide_eq_true h1
    rw [e1]
    simp only [Bool.not_true, Bool.false_eq_true, if_false, Sem.run_bind, p2, q2, Result.andThen_ok]
    by_cases h2 : s.num = t.num
    · have e2 : (s.num == t.num) = true := by simp [h2]
      rw [e2]
      simp only [Bool.not_true, Bool.false_eq_true, if_false, Sem.run_bind, p3, q3, Result.andThen_ok]
      by_cases h3 : s.line = t.line
      · simp [h1, h2, h3]
      · simp [h3]
    · have e2 : (s.num == t.num) = false := by simp [h2]
      rw [e2]
      simp [h2]
  · have e1 : decide (s.a = t.a ∧ s.b = t.b ∧ s.c = t.c ∧ s.d = t.d) = false := decide_eq_false h1
    rw [e1]
    simp [h1]

theorem run_eq_spot (s t : Spot) (w : World) : (binOp .eql 313 (spV s) (spV t)).run Tryz.prog w = .ok (.bool (decide (s = t))) w := by
  have hf : Tryz.prog.underlying 313 = some (.struct (Tryz.prog.fieldsOf 313)) := by kernel_rfl
  have hp : Tryz.prog.stoodInHeld 313 = false := by kernel_rfl
  have hl : (Tryz.prog.fieldsOf 313).toList = [{ name := "cell", type := 311, offset := 0, embedded := true, tag := "", pkgPath := "stitch/patch", byteOffset := 0 }, { name := "alive", type := 4, offset := 6, embedded := false, tag := "", pkgPath := "stitch/patch", byteOffset := 32 }] := by kernel_rfl
  unfold spV
  rw [run_eql_struct, run_equalIn_struct w 9999 313 _ _ hf hp, hl]
  have q1 := run_eq_cell 9996 s t w
  have q2 : (Op.equalIn 9999 4 (.bool s.alive) (.bool t.alive)).run Tryz.prog w = .ok (s.alive == t.alive) w := run_equalIn_bool' w 9998 4 _ _ Tryz.underlying4
  have p1 : ∀ (u : Spot), (part 311 #[.int .u8 u.a, .int .u8 u.b, .int .u8 u.c, .int .u8 u.d, .int .i64 u.num, .string u.line, .bool u.alive] 0).run Tryz.prog w = .ok (.agg #[.int .u8 u.a, .int .u8 u.b, .int .u8 u.c, .int .u8 u.d, .int .i64 u.num, .string u.line]) w := fun u => by
    have ha := Tryz.isAgg311 w
    simp [part, ha]
  have p2 : ∀ (u : Spot), (part 4 #[.int .u8 u.a, .int .u8 u.b, .int .u8 u.c, .int .u8 u.d, .int .i64 u.num, .string u.line, .bool u.alive] 6).run Tryz.prog w = .ok (.bool u.alive) w := fun u => by
    have ha := Tryz.isAgg4 w
    simp [part, ha]
  have n1 : ("cell" : String) ≠ "_" := by decide
  have n2 : ("alive" : String) ≠ "_" := by decide
  simp only [Op.eqFields, if_pos n1, if_pos n2, Sem.run_bind, p1, q1, Result.andThen_ok]
  by_cases h1 : (s.a = t.a ∧ s.b = t.b ∧ s.c = t.c ∧ s.d = t.d) ∧ s.num = t.num ∧ s.line = t.line
  · rw [decide_eq_true h1]
    simp only [Bool.not_true, Bool.false_eq_true, if_false, Sem.run_bind, p2, q2, Result.andThen_ok]
    by_cases h3 : s.alive = t.alive
    · have e : s = t := (spot_ext s t).2 ⟨h1.1, h1.2.1, h1.2.2, h3⟩
      simp [e]
    · have e : s ≠ t := fun e => h3 (by rw [e])
      simp [h3, e]
  · have e : s ≠ t := fun e => h1 (by rw [e]; simp)
    rw [decide_eq_false h1]
    simp [e]
end Go.Proofs.YtgdfipmdmgkidaaGreatDoor

/- Where a cell stands in a row; a hunk's place and what it names between its two ends; a row's text. -/
namespace Go.Proofs.YtgdfipmdmgkidaaGreatDoor
open Go.RowKit

def idxS (S : List Spot) (t : Spot) : Option Nat := S.findIdx? fun s => decide (t = s)
def idxInt : Option Nat → Int
  | some k => k
  | none => -1
theorem idx_hit {S : List Spot} {t : Spot} {k : Nat} (hk : k < S.length) (h : t = S[k]) (hno : ∀ i (hi : i < k), t ≠ S[i]'(by omega)) : idxS S t = some k := by
  unfold idxS
  rw [List.findIdx?_eq_some_iff_getElem]
  exact ⟨hk, by simpa using h, fun j hj => by simpa using hno j hj⟩
theorem idx_miss {S : List Spot} {t : Spot} (hno : ∀ i (hi : i < S.length), t ≠ S[i]) : idxS S t = none := by
  unfold idxS
  rw [List.findIdx?_eq_none_iff]
  intro x hx
  obtain ⟨i, hi, rfl⟩ := List.mem_iff_getElem.1 hx
  simpa using hno i hi

set_option maxRecDepth 100000 in
set_option maxHeartbeats 3200000 in
theorem index253_any (S : List Spot) (t : Spot) (v0 : Value) (w : World) (hv : SV w v0 S) (hlen : S.length ≤ 1000000) :
    Calls Tryz.prog 284 #[v0, spV t] w fun e w' => e = .returned (.int .i64 (idxInt (idxS S t))) ∧ Below w.heap.size w w' := by
  obtain ⟨ao, cap, rfl⟩ := hv.shape
  have hb0 : Below w.heap.size w (w.alloc (.cells #[.int .u8 t.a, .int .u8 t.b, .int .u8 t.c, .int .u8 t.d, .int .i64 t.num, .string t.line, .bool t.alive] 313)) := (Below.refl _ _).alloc (Nat.le_refl _) _
  have hk0 := (MapKept.heap_alloc w (.cells #[.int .u8 t.a, .int .u8 t.b, .int .u8 t.c, .int .u8 t.d, .int .i64 t.num, .string t.line, .bool t.alive] 313)).1
  unfold spV
  go_enter Tryz.func284, Tryz.ntmps284
  go_wp2
  generalize w.alloc (.cells #[.int .u8 t.a, .int .u8 t.b, .int .u8 t.c, .int .u8 t.d, .int .i64 t.num, .string t.line, .bool t.alive] 313) = w1 at *
  have hv1 := hv.below hb0 (Nat.le_refl _)
  have hs0 := hb0.size
  go_loopw [8] (fun i wr => ∃ k : Nat, k ≤ S.length ∧ i = .int .i64 k ∧ Hid (∀ i (hi : i < S.length), i < k → t ≠ S[i]) ∧ Below w1.heap.size w1 wr) (fun i _ => S.length - (intOf i).toNat)
  case atStart => exact ⟨0, Nat.zero_le _, rfl, (fun i _ h => by omega), Below.refl _ _⟩
  case round =>
    obtain ⟨k, hk, rfl, HN, hbw⟩ := hrel
    by_cases hlt : k < S.length
    · have hs : S[k]? = some S[k] := List.getElem?_eq_getElem hlt
      obtain ⟨b, o, rfl, hb, c0, c1, c2, c3, c4, c5, c6⟩ := (hv1.below hbw (Nat.le_refl _)).at hs
      have hkl : w.heap.size < w1.heap.size := by
        rcases Nat.lt_or_ge w.heap.size w1.heap.size with h | h
        · exact h
        · rw [Array.getElem?_eq_none h] at hk0; cases hk0
      have hkr : wr.heap[w.heap.size]? = some (.cells #[.int .u8 t.a, .int .u8 t.b, .int .u8 t.c, .int .u8 t.d, .int .i64 t.num, .string t.line, .bool t.alive] 313 (0, 0)) := (hbw.block _ hkl).trans hk0
      have d0 : wr.cell? ⟨w.heap.size, 0, none⟩ = some (.int .u8 t.a) := by simp [World.cell?, hkr]
      have d1 : wr.cell? ⟨w.heap.size, 1, none⟩ = some (.int .u8 t.b) := by simp [World.cell?, hkr]
      have d2 : wr.cell? ⟨w.heap.size, 2, none⟩ = some (.int .u8 t.c) := by simp [World.cell?, hkr]
      have d3 : wr.cell? ⟨w.heap.size, 3, none⟩ = some (.int .u8 t.d) := by simp [World.cell?, hkr]
      have d4 : wr.cell? ⟨w.heap.size, 4, none⟩ = some (.int .i64 t.num) := by simp [World.cell?, hkr]
      have d5 : wr.cell? ⟨w.heap.size, 5, none⟩ = some (.string t.line) := by simp [World.cell?, hkr]
      have d6 : wr.cell? ⟨w.heap.size, 6, none⟩ = some (.bool t.alive) := by simp [World.cell?, hkr]
      obtain ⟨s, hss⟩ : ∃ s, S[k] = s := ⟨_, rfl⟩
      rw [hss] at c0 c1 c2 c3 c4 c5 c6
      have HT : Hid (S[k] = s) := hss
      clear hss hs hkr
      cases he : decide (t = s)
      · have hq : ∀ u : World, (binOp .eql 313 (.agg #[.int .u8 t.a, .int .u8 t.b, .int .u8 t.c, .int .u8 t.d, .int .i64 t.num, .string t.line, .bool t.alive]) (.agg #[.int .u8 s.a, .int .u8 s.b, .int .u8 s.c, .int .u8 s.d, .int .i64 s.num, .string s.line, .bool s.alive])).run Tryz.prog u = .ok (.bool false) u := fun u => by
          have := run_eq_spot t s u
          rw [he] at this
          exact this
        have HE : Hid (t ≠ s) := by show _ ≠ _; simpa using he
        clear he
        go_wp2_with fail
        go_quiet (fail)
        go_wp2
        go_roundw
        case rel =>
          refine ⟨k + 1, by omega, by go_num, fun i hi h => ?_, below_drewN hbw _⟩
          by_cases e : i = k
          · subst e; rw [HT.out]; exact HE.out
          · exact HN.out i hi (by omega)
        case measure => simp [intOf]; omega
      · have hq : ∀ u : World, (binOp .eql 313 (.agg #[.int .u8 t.a, .int .u8 t.b, .int .u8 t.c, .int .u8 t.d, .int .i64 t.num, .string t.line, .bool t.alive]) (.agg #[.int .u8 s.a, .int .u8 s.b, .int .u8 s.c, .int .u8 s.d, .int .i64 s.num, .string s.line, .bool s.alive])).run Tryz.prog u = .ok (.bool true) u := fun u => by
          have := run_eq_spot t s u
          rw [he] at this
          exact this
        have HE : Hid (t = s) := by show _ = _; simpa using he
        clear he
        go_wp2_with fail
        go_quiet (fail)
        go_wp2
        go_ret
        exact ⟨ret_int (by rw [idx_hit hlt (by rw [HT.out]; exact HE.out) (fun i hi => HN.out i (by omega) hi)]; rfl), hb0.trans ((below_drewN hbw _).mono hs0)⟩
    · go_wp2
      go_ret
      exact ⟨ret_int (by rw [idx_miss (fun i hi => HN.out i hi (by omega))]; rfl), hb0.trans (hbw.mono hs0)⟩
theorem cells2_of {w : World} {g : Nat} {x y : Value} {t : TypeId} {f : Nat × Nat} (h : w.heap[g]? = some (.cells #[x, y] t f)) : w.cell? ⟨g, 0, none⟩ = some x ∧ w.cell? ⟨g, 1, none⟩ = some y := by
  simp [World.cell?, h]

set_option maxRecDepth 100000 in
set_option maxHeartbeats 3200000 in
theorem place250_any (N S : List Spot) (t : Spot) (hN : N[0]? = some t) (nv bv v0 : Value) (ba : Option Addr) (bn bc : Nat) (hbv : bv = .slice ba bn bc) (w : World) (hn : SV w nv N) (hv : SV w v0 S) (hlen : S.length ≤ 1000000) :
    Calls Tryz.prog 362 #[.agg #[nv, bv], v0] w fun e w' => e = .returned (.int .i64 (idxInt (idxS S t))) ∧ Below w.heap.size w w' := by
  subst hbv
  obtain ⟨na, nc, rfl⟩ := hn.shape
  have hb0 : Below w.heap.size w (w.alloc (.cells #[.slice na N.length nc, .slice ba bn bc] 327)) := (Below.refl _ _).alloc (Nat.le_refl _) _
  have hs0 := hb0.size
  have hv1 := hv.below hb0 (Nat.le_refl _)
  obtain ⟨b, o, rfl, hb, c0, c1, c2, c3, c4, c5, c6⟩ := (hn.below hb0 (Nat.le_refl _)).at hN
  simp only [Nat.zero_mul, Nat.add_zero] at c0 c1 c2 c3 c4 c5 c6
  have hNl : (0 : Int) < (N.length : Int) := by have := (List.getElem?_eq_some_iff.1 hN).1; omega
  have HI : Hid (Calls Tryz.prog 284 #[v0, .agg #[.int .u8 t.a, .int .u8 t.b, .int .u8 t.c, .int .u8 t.d, .int .i64 t.num, .string t.line, .bool t.alive]] (w.alloc (.cells #[.slice (some ⟨b, o, none⟩) N.length nc, .slice ba bn bc] 327)) fun e w' => e = .returned (.int .i64 (idxInt (idxS S t))) ∧ Below (w.alloc (.cells #[.slice (some ⟨b, o, none⟩) N.length nc, .slice ba bn bc] 327)).heap.size (w.alloc (.cells #[.slice (some ⟨b, o, none⟩) N.length nc, .slice ba bn bc] 327)) w') := index253_any S t v0 _ hv1 hlen
  clear hv1 hv hn hN
  go_enter Tryz.func362, Tryz.ntmps362
  go_wp2_with fail
  refine HI.out.mono ?_
  rintro e w2 ⟨rfl, hb2⟩
  clear HI
  go_wp2
  go_ret
  exact ⟨rfl, hb0.trans (hb2.mono hs0)⟩

set_option maxRecDepth 100000 in
theorem between251_any (N : List Spot) (nv bv : Value) (ba : Option Addr) (bn bc : Nat) (hbv : bv = .slice ba bn bc) (w : World) (hn : SV w nv N) (hlen : N.length ≤ 1000000) (h2 : 2 ≤ N.length) :
    Calls Tryz.prog 360 #[.agg #[nv, bv]] w fun e w' => ∃ v, e = .returned v ∧ SV w' v ((N.take (N.length - 1)).drop 1) ∧ Below w.heap.size w w' := by
  subst hbv
  have hn0 := hn
  obtain ⟨na, nc, rfl⟩ := hn.shape
  have hb0 : Below w.heap.size w (w.alloc (.cells #[.slice na N.length nc, .slice ba bn bc] 327)) := (Below.refl _ _).alloc (Nat.le_refl _) _
  have HU : Hid (Calls Tryz.prog 356 #[.slice na N.length nc] (w.alloc (.cells #[.slice na N.length nc, .slice ba bn bc] 327)) fun e w' => ∃ v, e = .returned v ∧ SV (w.alloc (.cells #[.slice na N.length nc, .slice ba bn bc] 327)) v ((N.take (N.length - 1)).drop 1) ∧ w' = (w.alloc (.cells #[.slice na N.length nc, .slice ba bn bc] 327))) := unframed248_any N _ _ (hn.below hb0 (Nat.le_refl _)) hlen h2
  clear hn hn0
  go_enter Tryz.func360, Tryz.ntmps360
  go_wp2_with fail
  refine HU.out.mono ?_
  rintro e w2 ⟨v, rfl, hsv, rfl⟩
  clear HU
  obtain ⟨M, hM⟩ : ∃ M, (N.take (N.length - 1)).drop 1 = M := ⟨_, rfl⟩
  rw [hM] at hsv
  have HM : Hid ((N.take (N.length - 1)).drop 1 = M) := hM
  clear hM
  have hsv' := hsv
  obtain ⟨va, vc, rfl⟩ := hsv.shape
  go_wp2
  go_ret
  exact ⟨_, rfl, by rw [HM.out]; exact hsv', hb0⟩

/-- Texts, one behind the other. -/
def catB (L : List ByteArray) : ByteArray := ⟨(L.flatMap (·.data.toList)).toArray⟩
theorem catB_join (L : List ByteArray) : (⟨(Lib.join (L.map (·.data.toList)) (ByteArray.empty).data.toList).toArray⟩ : ByteArray) = catB L := by
  unfold catB Lib.join
  congr 2
  have : ∀ M : List (List UInt8), List.intercalate [] M = M.flatten := by
    intro M
    unfold List.intercalate
    induction M with
    | nil => rfl
    | cons a M ih =>
      cases M with
      | nil => rfl
      | cons b M => simp only [List.intersperse, List.flatten_cons, List.nil_append] at *; rw [ih]
  show List.intercalate [] _ = _
  rw [this, List.flatMap_def]

theorem join147_any (L : List ByteArray) (v0 : Value) (B : Nat) (w : World) (hv : w.ownsRow B 9 1 v0 L.length (strs L)) (hlen : L.length ≤ 1000000) (hsz : (catB L).size ≤ 1000000000) :
    Calls Tryz.prog 199 #[v0, .string ⟨#[]⟩] w fun e w' => e = .returned (.string (catB L)) ∧ Below w.heap.size w w' := by
  have hlt := hv.lt
  have hc := fun g => World.ownsRow.cells hv (g := g)
  rcases hv.2 with ⟨rfl, h0⟩ | ⟨g, cp, cur, rfl, _, hg, hcp, _⟩
  · have hL : L = [] := List.eq_nil_of_length_eq_zero h0
    subst hL
    refine (Tryz.strings_Join_none none 0 ⟨#[]⟩ w).mono ?_
    rintro e w' ⟨rfl, rfl⟩
    exact ⟨rfl, Below.refl _ _⟩
  · refine (Tryz.strings_Join g 0 cp L ⟨#[]⟩ w (fun j x hj => ?_) (hlt g rfl).2 (by omega) hcp ?_).mono ?_
    · have := hc g rfl j (.string x) (by simp [hj])
      rw [Nat.zero_add, ← this]
      cases j <;> simp [Addr.add]
    · have := congrArg (fun b : ByteArray => b.data.toList.length) (catB_join L)
      simp only at this
      rw [show (⟨#[]⟩ : ByteArray).data.toList = (ByteArray.empty).data.toList from rfl]
      have h2 : (catB L).data.toList.length = (catB L).size := by rw [Array.length_toList]; rfl
      rw [h2] at this
      omega
    · rintro e w' ⟨rfl, hb⟩
      refine ⟨?_, hb⟩
      rw [show (⟨#[]⟩ : ByteArray).data.toList = (ByteArray.empty).data.toList from rfl, catB_join]

def rowText (S : List Spot) : ByteArray := catB (rowLines S)
theorem rowLines_len (S : List Spot) : (rowLines S).length ≤ S.length := by
  unfold rowLines living
  rw [List.length_map]
  exact livTo_len S _

set_option maxRecDepth 100000 in
theorem text98_any (S : List Spot) (v0 : Value) (w : World) (hv : SV w v0 S) (hlen : S.length ≤ 1000000) (hsz : (rowText S).size ≤ 1000000000) :
    Calls Tryz.prog 135 #[v0] w fun e w' => e = .returned (.string (rowText S)) ∧ Below w.heap.size w w' := by
  have HL : Hid (Calls Tryz.prog 200 #[v0] w fun e w' => ∃ v, e = .returned v ∧ w'.ownsRow w.heap.size 9 1 v (rowLines S).length (strs (rowLines S)) ∧ Below w.heap.size w w') := lines148_any S v0 w hv hlen
  have hl := rowLines_len S
  obtain ⟨ao, cap, rfl⟩ := hv.shape
  clear hv
  go_enter Tryz.func135, Tryz.ntmps135
  go_wp2_with fail
  refine HL.out.mono ?_
  rintro e w1 ⟨v, rfl, ho, hb⟩
  have HJ : Hid (Calls Tryz.prog 199 #[v, .string ⟨#[]⟩] w1 fun e w' => e = .returned (.string (rowText S)) ∧ Below w1.heap.size w1 w') := join147_any (rowLines S) v _ w1 ho (by omega) hsz
  clear HL
  obtain ⟨va, vc, rfl⟩ := own_shape ho
  clear ho
  go_wp2_with fail
  refine HJ.out.mono ?_
  rintro e w2 ⟨rfl, hb2⟩
  clear HJ
  go_wp2
  go_ret
  exact ⟨rfl, hb.trans (hb2.mono hb.size)⟩
end Go.Proofs.YtgdfipmdmgkidaaGreatDoor
