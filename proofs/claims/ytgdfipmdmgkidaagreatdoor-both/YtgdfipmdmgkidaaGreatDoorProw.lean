/- Rows of cells: what they are in memory; the contracts of the program's small functions on rows. -/
import Derived.Test.YtgdfipmdmgkidaaGreatDoorWmath
import Derived.Laws.AppendOwnNone
import Derived.Lib.BufferMore
import Derived.Deep.QuietTactic
import Derived.BigQuiet
set_option maxHeartbeats 1600000
set_option maxRecDepth 100000
namespace Go.Proofs.YtgdfipmdmgkidaaGreatDoor
open Go.RowKit
structure Spot where
  a : Int
  b : Int
  c : Int
  d : Int
  num : Int
  line : ByteArray
  alive : Bool
  deriving DecidableEq
abbrev spC (s : Spot) : List Value := [.int .u8 s.a, .int .u8 s.b, .int .u8 s.c, .int .u8 s.d, .int .i64 s.num, .string s.line, .bool s.alive]
abbrev rowC (S : List Spot) : List Value := S.flatMap spC
def spV (s : Spot) : Value := .agg #[.int .u8 s.a, .int .u8 s.b, .int .u8 s.c, .int .u8 s.d, .int .i64 s.num, .string s.line, .bool s.alive]
theorem rowC_len (S : List Spot) : (rowC S).length = S.length * 7 := by
  induction S with
  | nil => rfl
  | cons s S ih => simp only [rowC, List.flatMap_cons, List.length_append, List.length_cons] at *; rw [ih]; simp; omega
theorem rowC_get (S : List Spot) (k : Nat) (s : Spot) (h : S[k]? = some s) (j : Nat) (hj : j < 7) : (rowC S)[k * 7 + j]? = (spC s)[j]? := by
  induction S generalizing k with
  | nil => simp at h
  | cons q S ih =>
    cases k with
    | zero =>
      simp at h
      subst h
      simp only [rowC, List.flatMap_cons, Nat.zero_mul, Nat.zero_add]
      rw [List.getElem?_append_left (by simpa using hj)]
    | succ k =>
      simp only [List.getElem?_cons_succ] at h
      simp only [rowC, List.flatMap_cons]
      rw [List.getElem?_append_right (by simp; omega)]
      have e : (k + 1) * 7 + j - (spC q).length = k * 7 + j := by simp; omega
      rw [e]
      exact ih k h
theorem rowC_one (S : List Spot) : ∀ u ∈ rowC S, u.oneCell' = true := by
  intro u hu
  obtain ⟨s, _, hs⟩ := List.mem_flatMap.1 hu
  simp only [List.mem_cons, List.not_mem_nil, or_false] at hs
  rcases hs with rfl | rfl | rfl | rfl | rfl | rfl | rfl <;> rfl
theorem rowC_app (S T : List Spot) : rowC (S ++ T) = rowC S ++ rowC T := List.flatMap_append
def TB (w : World) (b : Nat) (t : TypeId) : Prop := ∃ A fz, w.heap[b]? = some (.cells A t fz)
theorem TB.lt {w : World} {b : Nat} {t : TypeId} (h : TB w b t) : b < w.heap.size := by
  obtain ⟨A, fz, h⟩ := h
  exact (Array.getElem?_eq_some_iff.1 h).1
theorem TB.same {w w' : World} {b : Nat} {t : TypeId} (h : TB w b t) (hs : w'.heap[b]? = w.heap[b]?) : TB w' b t := by
  obtain ⟨A, fz, h⟩ := h
  exact ⟨A, fz, hs.trans h⟩
theorem TB.below {w w' : World} {b : Nat} {t : TypeId} (h : TB w b t) {B : Nat} (hb : Below B w w') (hB : w.heap.size ≤ B) : TB w' b t := h.same (hb.block b (Nat.lt_of_lt_of_le h.lt hB))
theorem cell_same {w w' : World} {b : Nat} (hs : w'.heap[b]? = w.heap[b]?) (o : Nat) : w'.cell? ⟨b, o, none⟩ = w.cell? ⟨b, o, none⟩ := by
  unfold World.cell?
  rw [hs]
def SV (w : World) (v : Value) (S : List Spot) : Prop := (v = .slice none 0 0 ∧ S = []) ∨ ∃ b o cap, v = .slice (some ⟨b, o, none⟩) S.length cap ∧ S.length ≤ cap ∧ TB w b 313 ∧ ∀ (j : Nat) (u : Value), (rowC S)[j]? = some u → w.cell? ⟨b, o + j, none⟩ = some u
theorem SV.below {w w' : World} {v : Value} {S : List Spot} (h : SV w v S) {B : Nat} (hb : Below B w w') (hB : w.heap.size ≤ B) : SV w' v S := by
  rcases h with h | ⟨b, o, cap, rfl, hcap, hb', hc⟩
  · exact .inl h
  · refine .inr ⟨b, o, cap, rfl, hcap, hb'.below hb hB, fun j v hj => ?_⟩
    have hlt := hb'.lt
    exact (hb.cell (p := ⟨b, o + j, none⟩) (by simp; omega)).trans (hc j v hj)
theorem SV.own {w : World} {B : Nat} {v : Value} {S : List Spot} (h : w.ownsRow B 313 7 v S.length (rowC S)) : SV w v S := by
  have hc := fun g => World.ownsRow.cells h (g := g)
  rcases h.2 with ⟨h1, h0⟩ | ⟨g, cp, cur, h1, _, hg, hcp, _⟩
  · exact .inl ⟨h1, List.eq_nil_of_length_eq_zero h0⟩
  · subst h1
    refine .inr ⟨g, 0, cp, rfl, hcp, ⟨cur, _, hg⟩, fun j v hj => ?_⟩
    have := hc g rfl j v hj
    rw [Nat.zero_add]
    rw [← this]
    cases j <;> simp [Addr.add]
theorem SV.shape {w : World} {v : Value} {S : List Spot} (h : SV w v S) : ∃ ao cap, v = .slice ao S.length cap := by
  rcases h with ⟨rfl, rfl⟩ | ⟨b, o, cap, rfl, _⟩
  · exact ⟨_, _, rfl⟩
  · exact ⟨_, _, rfl⟩
theorem SV.at {w : World} {ao : Option Addr} {n cap : Nat} {S : List Spot} (h : SV w (.slice ao n cap) S) {k : Nat} {s : Spot} (hk : S[k]? = some s) :
    ∃ b o, ao = some ⟨b, o, none⟩ ∧ b < w.heap.size ∧ w.cell? ⟨b, o + k * 7, none⟩ = some (.int .u8 s.a) ∧ w.cell? ⟨b, o + k * 7 + 1, none⟩ = some (.int .u8 s.b) ∧ w.cell? ⟨b, o + k * 7 + 2, none⟩ = some (.int .u8 s.c) ∧
      w.cell? ⟨b, o + k * 7 + 3, none⟩ = some (.int .u8 s.d) ∧ w.cell? ⟨b, o + k * 7 + 4, none⟩ = some (.int .i64 s.num) ∧ w.cell? ⟨b, o + k * 7 + 5, none⟩ = some (.string s.line) ∧ w.cell? ⟨b, o + k * 7 + 6, none⟩ = some (.bool s.alive) := by
  rcases h with ⟨_, rfl⟩ | ⟨b, o, cap, h1, _, hb, hc⟩
  · simp at hk
  · cases h1
    have g := fun j hj => rowC_get S k s hk j hj
    refine ⟨b, o, rfl, hb.lt, ?_, ?_, ?_, ?_, ?_, ?_, ?_⟩
    · have := hc (k * 7 + 0) _ (g 0 (by omega)); rw [← Nat.add_assoc] at this; exact this
    all_goals rw [Nat.add_assoc]
    · exact hc (k * 7 + 1) _ (g 1 (by omega))
    · exact hc (k * 7 + 2) _ (g 2 (by omega))
    · exact hc (k * 7 + 3) _ (g 3 (by omega))
    · exact hc (k * 7 + 4) _ (g 4 (by omega))
    · exact hc (k * 7 + 5) _ (g 5 (by omega))
    · exact hc (k * 7 + 6) _ (g 6 (by omega))
theorem SV.part {w : World} {b o cap : Nat} {S : List Spot} {n : Nat} (h : SV w (.slice (some ⟨b, o, none⟩) n cap) S) (x y : Nat) (hxy : x ≤ y) (hy : y ≤ S.length) : SV w (.slice (some ⟨b, o + x * 7, none⟩) (y - x) (cap - x)) ((S.take y).drop x) := by
  rcases h with ⟨h1, _⟩ | ⟨b', o', cap', h1, hcap, hb, hc⟩
  · cases h1
  · cases h1
    have hl : ((S.take y).drop x).length = y - x := by simp; omega
    refine .inr ⟨b, o + x * 7, cap - x, by rw [hl], by omega, hb, fun j u hj => ?_⟩
    have hS : S = S.take x ++ ((S.take y).drop x ++ S.drop y) := by
      conv => lhs; rw [← List.take_append_drop y S]
      rw [← List.append_assoc]
      congr 1
      conv => lhs; rw [← List.take_append_drop x (S.take y)]
      rw [List.take_take, Nat.min_eq_left hxy]
    have e : (rowC S)[x * 7 + j]? = some u := by
      have hl2 : (rowC (S.take x)).length = x * 7 := by rw [rowC_len, List.length_take, Nat.min_eq_left (by omega)]
      have hjl : j < (rowC ((S.take y).drop x)).length := (List.getElem?_eq_some_iff.1 hj).1
      rw [hS, rowC_app, rowC_app, List.getElem?_append_right (by omega), hl2, Nat.add_sub_cancel_left, List.getElem?_append_left hjl]
      exact hj
    have := hc _ _ e
    rw [Nat.add_assoc]
    exact this
theorem Tryz.info3 : (Tryz.prog.info? 3).map (fun i => (i.zero, i.size, i.bytes)) = some (some (.int .i64 0), 1, 8) := by kernel_rfl
abbrev nats (L : List Nat) : List Value := L.map fun n : Nat => Value.int .i64 n
theorem nats_one (L : List Nat) : ∀ u ∈ nats L, u.oneCell' = true := by
  intro u hu
  obtain ⟨_, _, rfl⟩ := List.mem_map.1 hu
  rfl
theorem new_two (w : World) (o : Obj) (v : Value) (t : TypeId) : ∀ j u, [v][j]? = some u → ((w.alloc o).alloc (.cells #[v] t)).cell? ((⟨w.heap.size + 1, 0, none⟩ : Addr).add j) = some u := by
  have h := new_one (w.alloc o) v t
  simpa using h
theorem step_any {B B' : Nat} {w wr w1 : World} {v : Value} {n size : Nat} {e : TypeId} {xs : List Value} (hB : B ≤ B') (hown : wr.ownsRow B' e size v n xs) (hbw : Below B w wr) (hsz : B ≤ wr.heap.size) (hg : wr.grownBy w1 v.ownBlock) :
    Below B w w1 := hbw.grown hg hsz (fun k hk => by have := hown.lt k hk; omega)
def livTo (S : List Spot) : Nat → List Nat
  | 0 => []
  | k + 1 => if (S[k]?).any (·.alive) then livTo S k ++ [k] else livTo S k
def living (S : List Spot) : List Nat := livTo S S.length
theorem livTo_len (S : List Spot) (k : Nat) : (livTo S k).length ≤ k := by
  induction k with
  | zero => simp [livTo]
  | succ k ih =>
    unfold livTo
    split
    · simp only [List.length_append, List.length_singleton]; omega
    · omega
theorem living174_any (S : List Spot) (v0 : Value) (w : World) (hv : SV w v0 S) (hlen : S.length ≤ 1000000) :
    Calls Tryz.prog 237 #[v0] w fun e w' => ∃ v, e = .returned v ∧ w'.ownsRow w.heap.size 3 1 v (living S).length (nats (living S)) ∧ Below w.heap.size w w' := by
  obtain ⟨i0, hi, hz0, hz1, hz2⟩ := info_parts Tryz.info3
  obtain ⟨ao, cap, rfl⟩ := hv.shape
  go_enter Tryz.func237, Tryz.ntmps237
  go_wp2
  go_loopw [3, 8] (fun v i wr => ∃ k : Nat, k ≤ S.length ∧ i = .int .i64 k ∧ wr.ownsRow w.heap.size 3 1 v (livTo S k).length (nats (livTo S k)) ∧ Below w.heap.size w wr) (fun _ i _ => S.length - (intOf i).toNat)
  case atStart => exact ⟨0, Nat.zero_le _, rfl, by simpa [livTo] using World.ownsRow_nil _ _ _ _, Below.refl _ _⟩
  case round =>
    obtain ⟨k, hk, rfl, hown, hbw⟩ := hrel
    have hsz : w.heap.size ≤ wr.heap.size := hbw.size
    have hll := livTo_len S k
    by_cases hlt : k < S.length
    · obtain ⟨s, hs⟩ : ∃ s, S[k]? = some s := ⟨_, List.getElem?_eq_getElem hlt⟩
      obtain ⟨b, o, rfl, hb, c0, c1, c2, c3, c4, c5, c6⟩ := (hv.below hbw (Nat.le_refl _)).at hs
      cases ha : s.alive
      · have HS : Hid (livTo S (k + 1) = livTo S k) := by show _ = _; simp [livTo, hs, ha]
        rw [ha] at c6
        clear hs ha hv
        go_wp2
        go_roundw
        case rel => exact ⟨k + 1, by omega, by go_num, by rw [HS.out]; exact hown.alloc _, hbw.alloc hsz _⟩
        case measure => simp [intOf]; omega
      · have HS : Hid (livTo S (k + 1) = livTo S k ++ [k]) := by show _ = _; simp [livTo, hs, ha]
        rw [ha] at c6
        clear hs ha hv
        go_wp2_with (at_builtin; refine wpList_append_own _ rfl _ _ 25 rfl w.heap.size 3 i0 (.int .i64 0) 1 8 Tryz.underlying25 hi hz0 hz1 hz2 rfl (by decide) _ _ _ rfl ((hown.alloc _).alloc _) ⟨wr.heap.size + 1, 0, none⟩ 1 1 [.int .i64 k] rfl rfl ?c1 (nats_one [k]) (by unfold maxLen; omega) (by omega) (by simp; omega) ?_)
        case c1 => exact new_two _ _ _ _
        intro v' w1 hown' hg _
        have R := step_any (Nat.le_refl _) ((hown.alloc _).alloc _) ((hbw.alloc hsz _).alloc (by simp; omega) _) (by simp; omega) hg
        have O : w1.ownsRow w.heap.size 3 1 v' (livTo S k ++ [k]).length (nats (livTo S k ++ [k])) := by simpa using hown'
        clear hown' hg hown hbw
        go_wp2
        go_roundw
        case rel => exact ⟨k + 1, by omega, by go_num, by rw [HS.out]; exact O, R⟩
        case measure => simp [intOf]; omega
    · have e : k = S.length := by omega
      have HE : Hid (livTo S k = living S) := by show _ = _; unfold living; rw [e]
      clear e
      go_wp2
      go_ret
      rw [HE.out] at hown
      exact ⟨_, rfl, hown, hbw⟩
end Go.Proofs.YtgdfipmdmgkidaaGreatDoor
/- The contracts of the program's small functions on rows, continued: lines, the two edges, a copy, all dead, the inside. -/
namespace Go.Proofs.YtgdfipmdmgkidaaGreatDoor
open Go.RowKit
theorem livTo_mem {S : List Spot} {k i : Nat} (h : i ∈ livTo S k) : i < k ∧ ∃ s, S[i]? = some s ∧ s.alive = true := by
  induction k with
  | zero => simp [livTo] at h
  | succ k ih =>
    unfold livTo at h
    split at h
    · rename_i ha
      rcases List.mem_append.1 h with h | h
      · have := ih h
        exact ⟨by omega, this.2⟩
      · simp at h
        subst h
        cases hs : S[i]? with
        | none => rw [hs] at ha; simp at ha
        | some s => rw [hs] at ha; exact ⟨by omega, s, rfl, by simpa using ha⟩
    · have := ih h
      exact ⟨by omega, this.2⟩
theorem livTo_lt {S : List Spot} {k i : Nat} (h : i ∈ livTo S k) : i < S.length := by
  obtain ⟨_, s, hs, _⟩ := livTo_mem h
  exact (List.getElem?_eq_some_iff.1 hs).1
def lineAt (S : List Spot) (i : Nat) : ByteArray := ((S[i]?).map (·.line)).getD ByteArray.empty
def rowLines (S : List Spot) : List ByteArray := (living S).map (lineAt S)
def aliveOf (S : List Spot) : List Spot := S.filter (·.alive)
theorem livTo_lines (S : List Spot) (k : Nat) (hk : k ≤ S.length) : (livTo S k).map (lineAt S) = ((S.take k).filter (·.alive)).map (·.line) := by
  induction k with
  | zero => simp [livTo]
  | succ k ih =>
    have hlt : k < S.length := by omega
    have hs : S[k]? = some S[k] := List.getElem?_eq_getElem hlt
    rw [List.take_succ_eq_append_getElem hlt, List.filter_append, List.map_append, ← ih (by omega)]
    have e : livTo S (k + 1) = if (S[k]?).any (·.alive) then livTo S k ++ [k] else livTo S k := rfl
    rw [e, hs]
    cases ha : S[k].alive
    · simp [ha]
    · simp [ha, lineAt, hs]
theorem rowLines_eq (S : List Spot) : rowLines S = (aliveOf S).map (·.line) := by
  unfold rowLines living aliveOf
  rw [livTo_lines S _ (Nat.le_refl _), List.take_length]
def NV (w : World) (v : Value) (L : List Nat) : Prop := ∃ ao cap, v = .slice ao L.length cap ∧ ∀ k, (h : k < L.length) → ∃ b o, ao = some ⟨b, o, none⟩ ∧ b < w.heap.size ∧ w.cell? ⟨b, o + k, none⟩ = some (.int .i64 (L[k] : Nat))
theorem NV.own {w : World} {B : Nat} {v : Value} {L : List Nat} (h : w.ownsRow B 3 1 v L.length (nats L)) : NV w v L := by
  have hlt := h.lt
  have hc := fun g => World.ownsRow.cells h (g := g)
  rcases h.2 with ⟨h1, h0⟩ | ⟨g, cp, cur, h1, _, hg, hcp, _⟩
  · exact ⟨none, 0, by rw [h1, h0], fun k hk => by omega⟩
  · subst h1
    refine ⟨_, _, rfl, fun k hk => ⟨g, 0, rfl, (hlt g rfl).2, ?_⟩⟩
    have := hc g rfl k (.int .i64 (L[k] : Nat)) (by simp [hk])
    rw [Nat.zero_add]
    rw [← this]
    cases k <;> simp [Addr.add]
theorem NV.below {w w' : World} {v : Value} {L : List Nat} (h : NV w v L) {B : Nat} (hb : Below B w w') (hB : w.heap.size ≤ B) : NV w' v L := by
  obtain ⟨ao, cap, rfl, hc⟩ := h
  refine ⟨ao, cap, rfl, fun k hk => ?_⟩
  obtain ⟨b, o, e, h1, h2⟩ := hc k hk
  exact ⟨b, o, e, Nat.lt_of_lt_of_le h1 hb.size, (hb.cell (p := ⟨b, o + k, none⟩) (by simp; omega)).trans h2⟩
theorem lines148_any (S : List Spot) (v0 : Value) (w : World) (hv : SV w v0 S) (hlen : S.length ≤ 1000000) :
    Calls Tryz.prog 200 #[v0] w fun e w' => ∃ v, e = .returned v ∧ w'.ownsRow w.heap.size 9 1 v (rowLines S).length (strs (rowLines S)) ∧ Below w.heap.size w w' := by
  obtain ⟨i0, hi, hz0, hz1, hz2⟩ := info_parts Tryz.info9
  have HL := living174_any S v0 w hv hlen
  obtain ⟨ao, cap, rfl⟩ := hv.shape
  have HH := hid HL
  clear HL
  go_enter Tryz.func200, Tryz.ntmps200
  go_wp2_with fail
  refine HH.out.mono ?_
  rintro e w1 ⟨lv, rfl, hlo, hb1⟩
  have hll : (living S).length ≤ S.length := livTo_len S _
  have hmem : Hid (∀ i ∈ living S, i < S.length) := fun i hi => livTo_lt hi
  obtain ⟨la, lc, rfl, hlc⟩ := NV.own hlo
  have HN : Hid (NV w1 (.slice la (living S).length lc) (living S)) := ⟨_, _, rfl, hlc⟩
  have hv1 := hv.below hb1 (Nat.le_refl _)
  have hsz1 : w.heap.size ≤ w1.heap.size := hb1.size
  clear hlc hv hlo
  go_wp2
  go_loopw [3, 9] (fun v i wr => ∃ k : Nat, k ≤ (living S).length ∧ i = .int .i64 k ∧ wr.ownsRow w1.heap.size 9 1 v (((living S).take k).map (lineAt S)).length (strs (((living S).take k).map (lineAt S))) ∧ Below w1.heap.size w1 wr) (fun _ i _ => (living S).length - (intOf i).toNat)
  case atStart => exact ⟨0, Nat.zero_le _, rfl, by simpa using World.ownsRow_nil _ _ _ _, Below.refl _ _⟩
  case round =>
    obtain ⟨k, hk, rfl, hown, hbw⟩ := hrel
    have hsz : w1.heap.size ≤ wr.heap.size := hbw.size
    have hkl : (((living S).take k).map (lineAt S)).length ≤ k := by simp; omega
    by_cases hlt : k < (living S).length
    · obtain ⟨_, _, e1, hc1⟩ := HN.out.below hbw (Nat.le_refl _)
      cases e1
      obtain ⟨b1, o1, rfl, hb1', c1⟩ := hc1 k hlt
      have hin : (living S)[k] < S.length := hmem.out _ (List.getElem_mem hlt)
      obtain ⟨s, hs⟩ : ∃ s, S[(living S)[k]]? = some s := ⟨_, List.getElem?_eq_getElem hin⟩
      obtain ⟨b, o, rfl, hb, _, _, _, _, _, c5, _⟩ := (hv1.below hbw (Nat.le_refl _)).at hs
      have HS : Hid (((living S).take (k + 1)).map (lineAt S) = ((living S).take k).map (lineAt S) ++ [s.line]) := by
        show _ = _
        rw [List.take_succ_eq_append_getElem hlt, List.map_append]
        simp [lineAt, hs]
      generalize (living S)[k] = q at *
      generalize ((living S).take k).map (lineAt S) = L at *
      clear hs hc1
      have hin0 : (0 : Int) ≤ (q : Int) := by omega
      have hin1 : (q : Int) < (S.length : Int) := by omega
      go_wp2_with (at_builtin; refine wpList_append_own _ rfl _ _ 35 rfl w1.heap.size 9 i0 (.string ⟨#[]⟩) 1 16 Tryz.underlying35 hi hz0 hz1 hz2 rfl (by decide) _ _ _ rfl (hown.alloc _) ⟨wr.heap.size, 0, none⟩ 1 1 [.string s.line] rfl rfl (new_one _ _ _) (strs_one [_]) (by unfold maxLen; omega) (by omega) (by simp; omega) ?_)
      intro v' w2 hown' hg _
      have R := step_own (Nat.le_refl _) hown hbw hsz hown' hg
      clear hown' hg hown hbw
      go_wp2
      go_roundw
      case rel => exact ⟨k + 1, by omega, by go_num, by rw [HS.out]; exact R.1, R.2.1⟩
      case measure => simp [intOf]; omega
    · have e : k = (living S).length := by omega
      have HE : Hid (((living S).take k).map (lineAt S) = rowLines S) := by show _ = _; rw [e, List.take_length]; rfl
      clear e
      go_wp2
      go_ret
      rw [HE.out] at hown
      exact ⟨_, rfl, ownsRow_mono hown hsz1, hb1.trans (hbw.mono hsz1)⟩
def edgeS (n : Int) : Spot := ⟨0, 0, 0, 0, n, ByteArray.empty, true⟩
def begS : Spot := edgeS (-1)
def endS : Spot := edgeS (-2)
theorem own_new (w : World) (S : List Spot) (v : Array Value) (hv : v.toList = rowC S) (hm : S.length ≤ 1000000) : (w.alloc (.cells v 313)).ownsRow w.heap.size 313 7 (.slice (some ⟨w.heap.size, 0, none⟩) S.length S.length) S.length (rowC S) := by
  refine ⟨rowC_len S, .inr ⟨w.heap.size, S.length, v, rfl, Nat.le_refl _, (MapKept.heap_alloc w _).1, Nat.le_refl _, by unfold maxLen; omega, ?_, ?_⟩⟩
  · rw [← rowC_len, ← hv]; simp
  · rw [hv, ← rowC_len]; exact List.take_length
theorem edge196_any (n : Int) (w : World) :
    Calls Tryz.prog 268 #[.int .i64 n] w fun e w' => ∃ v, e = .returned v ∧ w'.ownsRow w.heap.size 313 7 v 1 (rowC [edgeS n]) ∧ Below w.heap.size w w' := by
  go_enter Tryz.func268, Tryz.ntmps268
  go_wp2
  go_ret
  refine ⟨_, rfl, own_new w [edgeS n] _ ?_ (by simp), (Below.refl _ _).alloc (Nat.le_refl _) _⟩
  rfl
theorem Tryz.info313 : (Tryz.prog.info? 313).map (fun i => (i.zero, i.size, i.bytes)) = some (some (.agg #[.int .u8 0, .int .u8 0, .int .u8 0, .int .u8 0, .int .i64 0, .string ⟨#[]⟩, .bool false]), 7, 40) := by kernel_rfl
theorem wpList_append_row (w : World) {ops : Array Oper} {rest : List Oper} {o : Oper} {a : Act} {Q : Exit → Act → World → Prop} (hgd : o.guard = none) (s x : Operand)
    (ho : o.op = .call { callee := .builtin .append, args := #[s, x], argTypes := #[183, 183] })
    (base : Nat) (v : Value) (S T : List Spot) (v2 : Value) (hs : a.eval s = v) (hown : w.ownsRow base 313 7 v S.length (rowC S)) (hx : a.eval x = v2) (hv : SV w v2 T) (hlen : S.length + T.length ≤ 10000000) (hbase : base ≤ w.heap.size)
    (h : ∀ v' w', w'.ownsRow base 313 7 v' (S ++ T).length (rowC (S ++ T)) → w.grownBy w' v.ownBlock → wpList Tryz.prog ops Q rest (a.put o.dst v') w') : wpList Tryz.prog ops Q (o :: rest) a w := by
  obtain ⟨i0, hi, hz0, hz1, hz2⟩ := info_parts Tryz.info313
  rcases hv with ⟨rfl, rfl⟩ | ⟨b, p, cap, rfl, hcap, hb, hc⟩
  · exact wpList_append_own_none hgd s x 183 ho base 313 i0 7 Tryz.underlying183 hi v S.length (rowC S) hs hown hx (h _ _ (by simpa using hown) (World.grownBy.refl _ _))
  · refine wpList_append_own w hgd s x 183 ho base 313 i0 _ 7 40 Tryz.underlying183 hi hz0 hz1 hz2 rfl (by decide) v S.length (rowC S) hs hown ⟨b, p, none⟩ T.length cap (rowC T) hx (rowC_len T) ?_ (rowC_one T) (by unfold maxLen; omega) (by omega) hbase ?_
    · intro j u hj
      have := hc j u hj
      rw [← this]
      cases j <;> simp [Addr.add]
    · intro v' w' h1 h2 _
      refine h v' w' ?_ h2
      rw [rowC_app, List.length_append]
      exact h1
theorem clone187_any (S : List Spot) (v0 : Value) (w : World) (hv : SV w v0 S) (hlen : S.length ≤ 1000000) :
    Calls Tryz.prog 250 #[v0] w fun e w' => ∃ v, e = .returned v ∧ w'.ownsRow w.heap.size 313 7 v S.length (rowC S) ∧ Below w.heap.size w w' := by
  have hv0 := hv
  rcases hv with ⟨rfl, rfl⟩ | ⟨b, p, cap, rfl, hcap, hb, hc⟩
  · have hnil : ∀ u : World, (binOp .eql 183 (.slice none 0 0) (.slice none 0 0)).run Tryz.prog u = .ok (.bool true) u := fun u => Lib.run_eql_slice_nil_nil u 0 0 Tryz.underlying183
    go_enter Tryz.func250, Tryz.ntmps250
    go_wp2
    go_ret
    exact ⟨_, rfl, World.ownsRow_nil _ _ _ _, Below.refl _ _⟩
  · have hb0 : Below w.heap.size w (w.alloc (.cells #[] 313)) := (Below.refl _ _).alloc (Nat.le_refl _) _
    have ho := own_new w [] #[] rfl (by simp)
    have hv1 := hv0.below hb0 (Nat.le_refl _)
    clear hc hv0
    have hnil : ∀ u : World, (binOp .eql 183 (.slice (some ⟨b, p, none⟩) S.length cap) (.slice none 0 0)).run Tryz.prog u = .ok (.bool false) u := fun u => Lib.run_eql_slice_some_nil u _ _ _ Tryz.underlying183
    go_enter Tryz.func250, Tryz.ntmps250
    go_wp2_with (at_builtin; refine wpList_append_row _ rfl _ _ rfl w.heap.size _ [] S _ rfl ho rfl hv1 (by simp; omega) (by simp) ?_)
    intro v' w1 h1 h2
    have R := step_any (Nat.le_refl _) ho hb0 (by simp) h2
    clear h2 ho hv1 hb0
    go_wp2
    go_ret
    exact ⟨_, rfl, by simpa using h1, R⟩
theorem unframed248_any (S : List Spot) (v0 : Value) (w : World) (hv : SV w v0 S) (hlen : S.length ≤ 1000000) (h2 : 2 ≤ S.length) :
    Calls Tryz.prog 356 #[v0] w fun e w' => ∃ v, e = .returned v ∧ SV w v ((S.take (S.length - 1)).drop 1) ∧ w' = w := by
  rcases hv with ⟨rfl, rfl⟩ | ⟨b, p, cap, rfl, hcap, hb, hc⟩
  · simp at h2
  · have R := SV.part (.inr ⟨b, p, cap, rfl, hcap, hb, hc⟩) 1 (S.length - 1) (by omega) (by omega)
    clear hc
    go_enter Tryz.func356, Tryz.ntmps356
    go_wp2
    go_ret
    exact ⟨_, rfl, R, rfl⟩
def deadS (s : Spot) : Spot := { s with alive := false }
def deadRow (S : List Spot) : List Spot := S.map deadS
end Go.Proofs.YtgdfipmdmgkidaaGreatDoor

/- What two lists of lines have in common; which line is killed. -/
set_option maxHeartbeats 3200000
set_option maxRecDepth 100000
namespace Go.Proofs.YtgdfipmdmgkidaaGreatDoor
open Go.RowKit
def LL : List ByteArray → List ByteArray → Nat
  | [], _ => 0
  | _ :: _, [] => 0
  | a :: O, b :: N => if a = b then LL O N + 1 else max (LL O (b :: N)) (LL (a :: O) N)
termination_by O N => O.length + N.length
def CC (O N : List ByteArray) (i j : Nat) : Nat := LL (O.drop i) (N.drop j)
theorem LL_nil2 (O : List ByteArray) : LL O [] = 0 := by cases O <;> simp [LL]
theorem CC_end1 {O N : List ByteArray} {i j : Nat} (h : O.length ≤ i) : CC O N i j = 0 := by unfold CC; rw [List.drop_of_length_le h]; simp [LL]
theorem CC_end2 {O N : List ByteArray} {i j : Nat} (h : N.length ≤ j) : CC O N i j = 0 := by unfold CC; rw [List.drop_of_length_le h, LL_nil2]
theorem CC_eq {O N : List ByteArray} {i j : Nat} (hi : i < O.length) (hj : j < N.length) (h : O[i] = N[j]) : CC O N i j = CC O N (i + 1) (j + 1) + 1 := by
  unfold CC
  rw [List.drop_eq_getElem_cons hi, List.drop_eq_getElem_cons hj, LL, if_pos h]
theorem CC_ne {O N : List ByteArray} {i j : Nat} (hi : i < O.length) (hj : j < N.length) (h : O[i] ≠ N[j]) : CC O N i j = max (CC O N (i + 1) j) (CC O N i (j + 1)) := by
  unfold CC
  conv => lhs; rw [List.drop_eq_getElem_cons hi, List.drop_eq_getElem_cons hj, LL, if_neg h]
  rw [← List.drop_eq_getElem_cons hi, ← List.drop_eq_getElem_cons hj]
theorem LL_le (O N : List ByteArray) : LL O N ≤ O.length := by
  induction O, N using LL.induct with
  | case1 N => simp [LL]
  | case2 a O => simp [LL]
  | case3 O b N ih => rw [LL]; simp; omega
  | case4 a O b N h ih1 ih2 =>
    rw [LL, if_neg h]
    simp only [List.length_cons] at *
    omega
theorem CC_le (O N : List ByteArray) (i j : Nat) : CC O N i j ≤ O.length := by
  unfold CC
  have := LL_le (O.drop i) (N.drop j)
  simp at this
  omega
def TV (w : World) (v : Value) (n m : Nat) (T : Nat → Nat → Nat) : Prop := ∃ b o cap, v = .slice (some ⟨b, o, none⟩) (n + 1) cap ∧ b < w.heap.size ∧ ∀ i, i ≤ n → ∃ g q c, w.cell? ⟨b, o + i, none⟩ = some (.slice (some ⟨g, q, none⟩) (m + 1) c) ∧ g < w.heap.size ∧ ∀ j, j ≤ m → w.cell? ⟨g, q + j, none⟩ = some (.int .i64 (T i j : Nat))
theorem TV.below {w w' : World} {v : Value} {n m : Nat} {T : Nat → Nat → Nat} (h : TV w v n m T) {B : Nat} (hb : Below B w w') (hB : w.heap.size ≤ B) : TV w' v n m T := by
  obtain ⟨b, o, cap, rfl, h1, h2⟩ := h
  refine ⟨b, o, cap, rfl, Nat.lt_of_lt_of_le h1 hb.size, fun i hi => ?_⟩
  obtain ⟨g, q, c, h3, h4, h5⟩ := h2 i hi
  exact ⟨g, q, c, (hb.cell (p := ⟨b, o + i, none⟩) (by simp; omega)).trans h3, Nat.lt_of_lt_of_le h4 hb.size, fun j hj => (hb.cell (p := ⟨g, q + j, none⟩) (by simp; omega)).trans (h5 j hj)⟩
def killB (O N : List ByteArray) (i j : Nat) : Bool := if i = O.length ∨ j = N.length then decide (i < O.length) else decide (CC O N i (j + 1) ≤ CC O N (i + 1) j)
theorem cells3_at {w : World} {g : Nat} {x y z : Value} {t : TypeId} {f : Nat × Nat} (h : w.heap[g]? = some (.cells #[x, y, z] t f)) : w.cell? ⟨g, 0, none⟩ = some x ∧ w.cell? ⟨g, 1, none⟩ = some y ∧ w.cell? ⟨g, 2, none⟩ = some z := by
  simp [World.cell?, h]
theorem kills214_any (O N : List ByteArray) (i j : Nat) (hi : i ≤ O.length) (hj : j ≤ N.length) (hO : O.length ≤ 100000) (hN : N.length ≤ 100000) (oa na : Option Addr) (oc nc : Nat) (cv : Value) (w : World) (ht : TV w cv O.length N.length (CC O N)) :
    Calls Tryz.prog 291 #[.agg #[.slice oa O.length oc, .slice na N.length nc, cv], .int .i64 i, .int .i64 j] w fun e w' => e = .returned (.bool (killB O N i j)) ∧ Below w.heap.size w w' := by
  have hb0 : ∀ x, Below w.heap.size w (w.alloc x) := fun x => (Below.refl _ _).alloc (Nat.le_refl _) _
  have HT := hid ht
  obtain ⟨b, o, cap, rfl, hbl, hrow⟩ := ht
  by_cases h1 : i = O.length
  · have HK : Hid (killB O N i j = decide (i < O.length)) := by show _ = _; unfold killB; rw [if_pos (.inl h1)]
    have hd1 : ((i : Int) == (O.length : Int)) = true := by simp; omega
    clear h1 hrow
    go_enter Tryz.func291, Tryz.ntmps291
    go_wp2
    go_ret
    exact ⟨by rw [HK.out]; rfl, hb0 _⟩
  · have hd1 : ((i : Int) == (O.length : Int)) = false := by rw [beq_eq_false_iff_ne]; omega
    have hd2 : (i : Int) < (O.length : Int) := by omega
    by_cases h2 : j = N.length
    · have HK : Hid (killB O N i j = decide (i < O.length)) := by show _ = _; unfold killB; rw [if_pos (.inr h2)]
      have hd4 : decide (i < O.length) = true := by simp; omega
      have hd3 : ((j : Int) == (N.length : Int)) = true := by simp; omega
      clear h1 h2 hrow
      go_enter Tryz.func291, Tryz.ntmps291
      go_wp2
      go_ret
      exact ⟨by rw [HK.out, hd4]; rfl, hb0 _⟩
    · have hd3 : ((j : Int) == (N.length : Int)) = false := by rw [beq_eq_false_iff_ne]; omega
      have HK : Hid (killB O N i j = decide (CC O N i (j + 1) ≤ CC O N (i + 1) j)) := by show _ = _; unfold killB; rw [if_neg (by omega)]
      have hj2 : (j : Int) < (N.length : Int) := by omega
      obtain ⟨w1, hw1⟩ : ∃ w1, w1 = w.alloc (.cells #[.slice oa O.length oc, .slice na N.length nc, .slice (some ⟨b, o, none⟩) (O.length + 1) cap] 349) := ⟨_, rfl⟩
      have hb1 : Below w.heap.size w w1 := by rw [hw1]; exact hb0 _
      have hk1 : w1.heap[w.heap.size]? = some (.cells #[.slice oa O.length oc, .slice na N.length nc, .slice (some ⟨b, o, none⟩) (O.length + 1) cap] 349 (0, 0)) := by rw [hw1]; exact (MapKept.heap_alloc w (.cells #[.slice oa O.length oc, .slice na N.length nc, .slice (some ⟨b, o, none⟩) (O.length + 1) cap] 349)).1
      obtain ⟨_, _, _, e1, _, hr1⟩ := HT.out.below hb1 (Nat.le_refl _)
      cases e1
      obtain ⟨g, q, c, r1, r2, r3⟩ := hr1 i (by omega)
      obtain ⟨g', q', c', s1, s2, s3⟩ := hr1 (i + 1) (by omega)
      have r4 := r3 (j + 1) (by omega)
      have s4 := s3 j (by omega)
      obtain ⟨d0, d1, d2⟩ := cells3_at hk1
      have x1 := CC_le O N (i + 1) j
      have x2 := CC_le O N i (j + 1)
      generalize CC O N (i + 1) j = A at *
      generalize CC O N i (j + 1) = D at *
      have wi : IntKind.i64.wrap ((i : Int) + 1) = (i : Int) + 1 := by simp [IntKind.wrap, IntKind.signed, IntKind.bits]; omega
      have wj : IntKind.i64.wrap ((j : Int) + 1) = (j : Int) + 1 := by simp [IntKind.wrap, IntKind.signed, IntKind.bits]; omega
      have bi0 : (0 : Int) ≤ (i : Int) + 1 := by omega
      have bi1 : (i : Int) + 1 < ((O.length + 1 : Nat) : Int) := by omega
      have bi2 : (i : Int) < ((O.length + 1 : Nat) : Int) := by omega
      have bj0 : (0 : Int) ≤ (j : Int) + 1 := by omega
      have bj1 : (j : Int) + 1 < ((N.length + 1 : Nat) : Int) := by omega
      have bj2 : (j : Int) < ((N.length + 1 : Nat) : Int) := by omega
      have ti : ((i : Int) + 1).toNat = i + 1 := by omega
      have tj : ((j : Int) + 1).toNat = j + 1 := by omega
      clear hr1 r3 s3 hrow h1 h2 hk1
      go_enter Tryz.func291, Tryz.ntmps291
      go_wp2_with fail
      rw [← hw1]
      clear hw1
      go_quiet (fail)
      go_wp2
      go_ret
      exact ⟨by rw [HK.out]; rfl, below_drewN hb1 _⟩
end Go.Proofs.YtgdfipmdmgkidaaGreatDoor
/- On to the next line that goes on living. -/
namespace Go.Proofs.YtgdfipmdmgkidaaGreatDoor
open Go.RowKit
def meets (O N : List ByteArray) (i j : Nat) : Prop := i < O.length ∧ j < N.length ∧ O.getD i ByteArray.empty = N.getD j ByteArray.empty
instance (O N : List ByteArray) (i j : Nat) : Decidable (meets O N i j) := by unfold meets; infer_instance
def nxtF (O N : List ByteArray) : Nat → Nat → Nat → Nat × Nat
  | 0, i, j => (i, j)
  | k + 1, i, j => if meets O N i j then (i, j) else if killB O N i j = true then nxtF O N k (i + 1) j else nxtF O N k i (j + 1)
def nxt (O N : List ByteArray) (i j : Nat) : Nat × Nat := nxtF O N ((O.length - i) + (N.length - j)) i j
theorem nxt_stop {O N : List ByteArray} {i j : Nat} (h : meets O N i j) : nxt O N i j = (i, j) := by
  unfold nxt
  have h1 := h.1
  obtain ⟨k, hk⟩ : ∃ k, (O.length - i) + (N.length - j) = k + 1 := ⟨(O.length - i) + (N.length - j) - 1, by omega⟩
  rw [hk, nxtF, if_pos h]
theorem nxt_end {O N : List ByteArray} {i j : Nat} (hi : O.length ≤ i) (hj : N.length ≤ j) : nxt O N i j = (i, j) := by
  unfold nxt
  rw [show (O.length - i) + (N.length - j) = 0 by omega, nxtF]
theorem kill_lt {O N : List ByteArray} {i j : Nat} (hi : i ≤ O.length) (hk : killB O N i j = true) : i < O.length := by
  unfold killB at hk
  split at hk
  · simpa using hk
  · omega
theorem nokill_lt {O N : List ByteArray} {i j : Nat} (hi : i ≤ O.length) (hj : j ≤ N.length) (h : i < O.length ∨ j < N.length) (hk : killB O N i j = false) : j < N.length := by
  unfold killB at hk
  split at hk
  · simp at hk; omega
  · omega
theorem nxt_kill {O N : List ByteArray} {i j : Nat} (hi : i ≤ O.length) (h : ¬ meets O N i j) (hk : killB O N i j = true) : nxt O N i j = nxt O N (i + 1) j := by
  have h1 := kill_lt hi hk
  unfold nxt
  obtain ⟨k, hk'⟩ : ∃ k, (O.length - i) + (N.length - j) = k + 1 := ⟨(O.length - i) + (N.length - j) - 1, by omega⟩
  rw [hk', nxtF, if_neg h, if_pos hk]
  congr 1
  omega
theorem nxt_come {O N : List ByteArray} {i j : Nat} (hi : i ≤ O.length) (hj : j ≤ N.length) (h : ¬ meets O N i j) (h2 : i < O.length ∨ j < N.length) (hk : killB O N i j = false) : nxt O N i j = nxt O N i (j + 1) := by
  have h1 := nokill_lt hi hj h2 hk
  unfold nxt
  obtain ⟨k, hk'⟩ : ∃ k, (O.length - i) + (N.length - j) = k + 1 := ⟨(O.length - i) + (N.length - j) - 1, by omega⟩
  rw [hk', nxtF, if_neg h, if_neg (by rw [hk]; simp)]
  congr 1
  omega
theorem eq_bytes' (t s : ByteArray) : (t.toList == s.toList) = decide (t = s) := by
  by_cases h : t = s
  · subst h; simp
  · rw [word_ne h]; simp [h]
theorem next198_any (O N : List ByteArray) (i j : Nat) (hi : i ≤ O.length) (hj : j ≤ N.length) (hO : O.length ≤ 100000) (hN : N.length ≤ 100000) (oa na : Option Addr) (oc nc : Nat) (cv : Value) (w : World) (ht : TV w cv O.length N.length (CC O N)) (hvo : View w oa O) (hvn : View w na N) :
    Calls Tryz.prog 270 #[.agg #[.slice oa O.length oc, .slice na N.length nc, cv], .int .i64 i, .int .i64 j] w fun e w' => e = .returned (.tuple #[.int .i64 ((nxt O N i j).1 : Nat), .int .i64 ((nxt O N i j).2 : Nat)]) ∧ Below w.heap.size w w' := by
  have HT := hid ht
  obtain ⟨b, o, cap, rfl, hbl, hrow⟩ := ht
  clear hrow
  obtain ⟨w1, hw1⟩ : ∃ w1, w1 = w.alloc (.cells #[.slice oa O.length oc, .slice na N.length nc, .slice (some ⟨b, o, none⟩) (O.length + 1) cap] 349) := ⟨_, rfl⟩
  have hb1 : Below w.heap.size w w1 := by rw [hw1]; exact (Below.refl _ _).alloc (Nat.le_refl _) _
  have hk1 : w1.heap[w.heap.size]? = some (.cells #[.slice oa O.length oc, .slice na N.length nc, .slice (some ⟨b, o, none⟩) (O.length + 1) cap] 349 (0, 0)) := by rw [hw1]; exact (MapKept.heap_alloc w (.cells #[.slice oa O.length oc, .slice na N.length nc, .slice (some ⟨b, o, none⟩) (O.length + 1) cap] 349)).1
  have hs1 : w.heap.size < w1.heap.size := by rw [hw1]; simp
  obtain ⟨R, hR⟩ : ∃ R, nxt O N i j = R := ⟨_, rfl⟩
  rw [hR]
  go_enter Tryz.func270, Tryz.ntmps270
  go_wp2_with fail
  rw [← hw1]
  clear hw1
  go_loopw [1, 2] (fun x y wr => ∃ i j : Nat, i ≤ O.length ∧ j ≤ N.length ∧ x = .int .i64 i ∧ y = .int .i64 j ∧ Hid (nxt O N i j = R) ∧ Below w1.heap.size w1 wr) (fun x y _ => (O.length - (intOf x).toNat) + (N.length - (intOf y).toNat))
  case atStart => exact ⟨i, j, hi, hj, rfl, rfl, hR, Below.refl _ _⟩
  case round =>
    clear hR
    obtain ⟨i, j, hi, hj, rfl, rfl, HR, hbw⟩ := hrel
    have hbw0 : Below w.heap.size w wr := hb1.trans (hbw.mono (Nat.le_of_lt hs1))
    have hkr := (hbw.block _ hs1).trans hk1
    obtain ⟨d0, d1, d2⟩ := cells3_at hkr
    have HK : Hid (∀ q, Calls Tryz.prog 291 #[.agg #[.slice oa O.length oc, .slice na N.length nc, .slice (some ⟨b, o, none⟩) (O.length + 1) cap], .int .i64 i, .int .i64 j] (wr.drewN q) fun e w' => e = .returned (.bool (killB O N i j)) ∧ Below wr.heap.size wr w') := fun q => by
      refine (kills214_any O N i j hi hj hO hN oa na oc nc _ (wr.drewN q) (HT.out.below (below_drewN hbw0 q) (Nat.le_refl _))).mono ?_
      rintro e w' ⟨rfl, hb⟩
      exact ⟨rfl, (below_drewN (Below.refl _ wr) q).trans hb⟩
    by_cases h1 : i < O.length
    · have e1 : (i : Int) < (O.length : Int) := by omega
      have e1d : decide (i < O.length) = true := by simpa using h1
      by_cases h2 : j < N.length
      · have e2 : (j : Int) < (N.length : Int) := by omega
        have e2d : decide (j < N.length) = true := by simpa using h2
        rcases hvo.below hbw0 with h | ⟨ob, oo, rfl, hob, hoc⟩
        · omega
        rcases hvn.below hbw0 with h | ⟨nb, no, rfl, hnb, hnc⟩
        · omega
        have co := hoc i h1
        have cn := hnc j h2
        obtain ⟨x, hx⟩ : ∃ x, O.getD i ByteArray.empty = x := ⟨_, rfl⟩
        obtain ⟨y, hy⟩ : ∃ y, N.getD j ByteArray.empty = y := ⟨_, rfl⟩
        rw [hx] at co
        rw [hy] at cn
        clear hoc hnc
        cases he : decide (x = y)
        · have hb2 : (x.toList == y.toList) = false := by rw [eq_bytes']; exact he
          have hnm : ¬ meets O N i j := fun hm => by have := hm.2.2; rw [hx, hy] at this; simp [this] at he
          clear hx hy he
          cases hkl : killB O N i j
          · have HN2 : Hid (nxt O N i (j + 1) = R) := by show _ = _; rw [← nxt_come hi hj hnm (.inl h1) hkl]; exact HR.out
            have HKK := HK.out
            rw [hkl] at HKK
            have HK := hid HKK
            clear hkl hnm HR HKK
            go_wp2_with fail
            go_quiet (fail)
            go_wp2_with fail
            refine (HK.out _).mono ?_
            rintro e w2 ⟨rfl, hbe⟩
            have hbw2 : Below w1.heap.size w1 w2 := hbw.trans (hbe.mono hbw.size)
            clear HK hbe
            go_wp2
            go_roundw
            case rel => exact ⟨i, j + 1, by omega, by omega, by go_num, by go_num, HN2, hbw2⟩
            case measure => simp [intOf]; omega
          · have HN2 : Hid (nxt O N (i + 1) j = R) := by show _ = _; rw [← nxt_kill hi hnm hkl]; exact HR.out
            have HKK := HK.out
            rw [hkl] at HKK
            have HK := hid HKK
            clear hkl hnm HR HKK
            go_wp2_with fail
            go_quiet (fail)
            go_wp2_with fail
            refine (HK.out _).mono ?_
            rintro e w2 ⟨rfl, hbe⟩
            have hbw2 : Below w1.heap.size w1 w2 := hbw.trans (hbe.mono hbw.size)
            clear HK hbe
            go_wp2
            go_roundw
            case rel => exact ⟨i + 1, j, by omega, by omega, by go_num, by go_num, HN2, hbw2⟩
            case measure => simp [intOf]; omega
        · have hb2 : (x.toList == y.toList) = true := by rw [eq_bytes']; exact he
          have HE : Hid (nxt O N i j = (i, j)) := nxt_stop ⟨h1, h2, by rw [hx, hy]; simpa using he⟩
          clear hx hy he HK
          go_wp2_with fail
          go_quiet (fail)
          go_wp2
          go_ret2
          exact ⟨by rw [← HR.out, HE.out]; rfl, below_drewN hbw0 _⟩
      · have e2 : decide ((j : Int) < (N.length : Int)) = false := by simp; omega
        have e2d : decide (j < N.length) = false := by simpa using h2
        have hnm : ¬ meets O N i j := fun hm => by have := hm.1; have := hm.2.1; omega
        have hkl : killB O N i j = true := by unfold killB; rw [if_pos (by omega)]; simp; omega
        have HN2 : Hid (nxt O N (i + 1) (j) = R) := by show _ = _; rw [← nxt_kill hi hnm hkl]; exact HR.out
        have HKK := HK.out
        rw [hkl] at HKK
        have HK := hid HKK
        clear hkl hnm HR HKK
        go_wp2_with fail
        go_quiet (fail)
        go_wp2_with fail
        refine (HK.out _).mono ?_
        rintro e w2 ⟨rfl, hbe⟩
        have hbw2 : Below w1.heap.size w1 w2 := hbw.trans (hbe.mono hbw.size)
        clear HK hbe
        go_wp2
        go_roundw
        case rel => exact ⟨i + 1, j, by omega, by omega, by go_num, by go_num, HN2, hbw2⟩
        case measure => simp [intOf]; omega
    · have e1 : decide ((i : Int) < (O.length : Int)) = false := by simp; omega
      have e1d : decide (i < O.length) = false := by simpa using h1
      by_cases h2 : j < N.length
      · have e2 : (j : Int) < (N.length : Int) := by omega
        have e2d : decide (j < N.length) = true := by simpa using h2
        have hnm : ¬ meets O N i j := fun hm => by have := hm.1; have := hm.2.1; omega
        have hkl : killB O N i j = false := by unfold killB; rw [if_pos (by omega)]; simp; omega
        have HN2 : Hid (nxt O N (i) (j + 1) = R) := by show _ = _; rw [← nxt_come hi hj hnm (.inr h2) hkl]; exact HR.out
        have HKK := HK.out
        rw [hkl] at HKK
        have HK := hid HKK
        clear hkl hnm HR HKK
        go_wp2_with fail
        go_quiet (fail)
        go_wp2_with fail
        refine (HK.out _).mono ?_
        rintro e w2 ⟨rfl, hbe⟩
        have hbw2 : Below w1.heap.size w1 w2 := hbw.trans (hbe.mono hbw.size)
        clear HK hbe
        go_wp2
        go_roundw
        case rel => exact ⟨i, j + 1, by omega, by omega, by go_num, by go_num, HN2, hbw2⟩
        case measure => simp [intOf]; omega
      · have e2 : decide ((j : Int) < (N.length : Int)) = false := by simp; omega
        have e2d : decide (j < N.length) = false := by simpa using h2
        have HE : Hid (nxt O N i j = (i, j)) := nxt_end (by omega) (by omega)
        clear HK
        go_wp2
        go_ret2
        exact ⟨by rw [← HR.out, HE.out]; rfl, hbw0⟩
end Go.Proofs.YtgdfipmdmgkidaaGreatDoor
