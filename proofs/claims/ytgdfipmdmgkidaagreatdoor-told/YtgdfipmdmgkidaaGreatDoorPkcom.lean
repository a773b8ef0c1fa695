/- Told's own reckoning of what two lists of lines have in common. -/
import Derived.Test.YtgdfipmdmgkidaaGreatDoorPtab
import Derived.Test.YtgdfipmdmgkidaaGreatDoorPlcs
namespace Go.Proofs.YtgdfipmdmgkidaaGreatDoor
open Go.RowKit

/-- Two rows of the table: the one that is done and the next. -/
structure Two (w wr : World) (m a b : Nat) (f g : Nat → Nat) : Prop where
  la : w.heap.size ≤ a
  lb : a < b
  ls : b < wr.heap.size
  ra : wr.heap[a]? = some (.cells (fnA (m + 1) (fun j => .int .i64 (f j : Nat))) 3 (0, 0))
  rb : wr.heap[b]? = some (.cells (fnA (m + 1) (fun j => .int .i64 (g j : Nat))) 3 (0, 0))
  bel : Below w.heap.size w wr
structure One (w wr : World) (m a : Nat) (f : Nat → Nat) : Prop where
  la : w.heap.size ≤ a
  ls : a < wr.heap.size
  ra : wr.heap[a]? = some (.cells (fnA (m + 1) (fun j => .int .i64 (f j : Nat))) 3 (0, 0))
  bel : Below w.heap.size w wr
theorem fn_cell {wr : World} {m b j : Nat} {f : Nat → Nat} (h : wr.heap[b]? = some (.cells (fnA (m + 1) (fun j => .int .i64 (f j : Nat))) 3 (0, 0))) (hj : j ≤ m) : wr.cell? ⟨b, j, none⟩ = some (.int .i64 (f j : Nat)) := by
  have e := fnA_get (m + 1) (fun j => Value.int .i64 (f j : Nat)) j (by omega)
  unfold World.cell?
  rw [h]
  simp [e]
theorem fn_free {wr : World} {m b : Nat} {f : Nat → Nat} (j : Nat) (h : wr.heap[b]? = some (.cells (fnA (m + 1) (fun j => .int .i64 (f j : Nat))) 3 (0, 0))) : wr.frozen? ⟨b, j, none⟩ = false := by
  unfold World.frozen?
  rw [h]
  simp
theorem Two.put {w wr : World} {m a b : Nat} {f g g' : Nat → Nat} (h : Two w wr m a b f g) (j v : Nat) (hj : j ≤ m) (hg : ∀ c, c ≤ m → g' c = if c = j then v else g c) (u : Int) (hu : u = (v : Int)) : Two w (wr.setCell ⟨b, j, none⟩ (.int .i64 u)) m a b f g' := by
  subst hu
  have hla := h.la
  have hlb := h.lb
  refine ⟨hla, hlb, by simpa [World.setCell] using h.ls, (Below.heap_setCell _ _ _ _ (by simp; omega)).trans h.ra, ?_, h.bel.setCell (p := ⟨b, j, none⟩) (by simp; omega) _⟩
  rw [heap_setCell_same wr b j _ 3 _ h.rb, fnA_set (m + 1) _ (fun j => .int .i64 (g' j : Nat)) j _ (by omega) (fun c hc => by
    rw [hg c (by omega)]
    by_cases e : c = j <;> simp [e])]
theorem Two.drew {w wr : World} {m a b : Nat} {f g : Nat → Nat} (h : Two w wr m a b f g) : Two w wr.drew m a b f g := ⟨h.la, h.lb, h.ls, h.ra, h.rb, h.bel.drew⟩
theorem Two.drewN {w wr : World} {m a b : Nat} {f g : Nat → Nat} (h : Two w wr m a b f g) (q : Nat) : Two w (wr.drewN q) m a b f g := ⟨h.la, h.lb, h.ls, h.ra, h.rb, below_drewN h.bel q⟩
theorem One.start {w : World} {m : Nat} : One w (w.alloc (.cells (fnA (m + 1) (fun _ => .int .i64 0)) 3)) m w.heap.size (fun _ => 0) :=
  ⟨Nat.le_refl _, by simp, by rw [(MapKept.heap_alloc w _).1]; rfl, (Below.refl _ _).alloc (Nat.le_refl _) _⟩
theorem One.more {w wr : World} {m a : Nat} {f : Nat → Nat} (h : One w wr m a f) : Two w (wr.alloc (.cells (fnA (m + 1) (fun _ => .int .i64 0)) 3)) m a wr.heap.size f (fun _ => 0) :=
  ⟨h.la, h.ls, by simp, (Below.heap_alloc wr _ _ h.ls).trans h.ra, by rw [(MapKept.heap_alloc wr _).1]; rfl, h.bel.alloc (by have := h.la; have := h.ls; omega) _⟩
theorem Two.one {w wr : World} {m a b : Nat} {f g f' : Nat → Nat} (h : Two w wr m a b f g) (hf : ∀ c, c ≤ m → g c = f' c) : One w wr m b f' :=
  ⟨by have := h.la; have := h.lb; omega, h.ls, by rw [h.rb]; congr 2; exact fnA_congr _ _ _ fun c hc => by rw [hf c (by omega)], h.bel⟩
theorem One.congr {w wr : World} {m a : Nat} {f f' : Nat → Nat} (h : One w wr m a f) (hf : ∀ c, c ≤ m → f c = f' c) : One w wr m a f' :=
  ⟨h.la, h.ls, by rw [h.ra]; congr 2; exact fnA_congr _ _ _ fun c hc => by rw [hf c (by omega)], h.bel⟩
theorem Two.congr {w wr : World} {m a b : Nat} {f g g' : Nat → Nat} (h : Two w wr m a b f g) (hf : ∀ c, c ≤ m → g c = g' c) : Two w wr m a b f g' :=
  ⟨h.la, h.lb, h.ls, h.ra, by rw [h.rb]; congr 2; exact fnA_congr _ _ _ fun c hc => by rw [hf c (by omega)], h.bel⟩
theorem PP_le (O N : List ByteArray) (i j : Nat) : PP O N i j ≤ O.length := by
  unfold PP
  have := LL_le (O.take i).reverse (N.take j).reverse
  simp at this
  omega

def rowTo (O N : List ByteArray) (x y c : Nat) : Nat := if c ≤ y then PP O N (x + 1) c else 0
def rowMid (O N : List ByteArray) (x y c : Nat) : Nat := if c = y + 1 then max (PP O N x (y + 1)) (PP O N (x + 1) y) else rowTo O N x y c

set_option maxRecDepth 100000 in
set_option maxHeartbeats 6400000 in
theorem common17_any (O N : List ByteArray) (hO : O.length ≤ 10000) (hN : N.length ≤ 10000) (oa na : Option Addr) (oc nc : Nat) (w : World) (hvo : View w oa O) (hvn : View w na N) :
    Calls Tryz.prog 22 #[.slice oa O.length oc, .slice na N.length nc] w fun e w' => e = .returned (.int .i64 (CC O N 0 0 : Nat)) ∧ Below w.heap.size w w' := by
  have hm2 := make_inner N.length hN
  have HVO : Hid (View w oa O) := hvo
  have HVN : Hid (View w na N) := hvn
  have T0 : Hid (One w (w.alloc (.cells (fnA (N.length + 1) (fun _ => .int .i64 0)) 3)) N.length w.heap.size (PP O N 0)) := (One.start (w := w) (m := N.length)).congr fun c _ => (PP_zero1 O N c).symm
  clear hvo hvn
  go_enter Tryz.func22, Tryz.ntmps22
  go_wp2
  obtain ⟨wa, hwa⟩ : ∃ wa, wa = w.alloc (.cells (fnA (N.length + 1) (fun _ => .int .i64 0)) 3) := ⟨_, rfl⟩
  rw [← hwa] at T0 ⊢
  clear hwa
  go_loopw [5, 6] (fun v x wr => ∃ k a : Nat, k ≤ O.length ∧ x = .int .i64 k ∧ v = .slice (some ⟨a, 0, none⟩) (N.length + 1) (N.length + 1) ∧ Hid (One w wr N.length a (PP O N k))) (fun _ x _ => O.length - (intOf x).toNat)
  case atStart => exact ⟨0, w.heap.size, Nat.zero_le _, rfl, rfl, T0⟩
  case round =>
    clear T0
    obtain ⟨x, a, hx0, rfl, rfl, HT⟩ := hrel
    by_cases hx : x < O.length
    · have hxl : (x : Int) < (O.length : Int) := by omega
      have HT2 : Hid (Two w (wr.alloc (.cells (fnA (N.length + 1) (fun _ => .int .i64 0)) 3)) N.length a wr.heap.size (PP O N x) (rowTo O N x 0)) := (One.more HT.out).congr fun c hc => by
        unfold rowTo
        by_cases h : c ≤ 0
        · obtain rfl : c = 0 := by omega
          simp [PP_zero2]
        · rw [if_neg h]
      clear HT
      go_wp2
      obtain ⟨wb, hwb⟩ : ∃ wb, wb = wr.alloc (.cells (fnA (N.length + 1) (fun _ => .int .i64 0)) 3) := ⟨_, rfl⟩
      obtain ⟨b, hb⟩ : ∃ b, b = wr.heap.size := ⟨_, rfl⟩
      rw [← hwb, ← hb] at HT2
      rw [← hwb, ← hb]
      clear hwb hb
      go_loopw [8] (fun y wr => ∃ j : Nat, j ≤ N.length ∧ y = .int .i64 j ∧ Hid (Two w wr N.length a b (PP O N x) (rowTo O N x j))) (fun y _ => N.length - (intOf y).toNat)
      case atStart => exact ⟨0, Nat.zero_le _, rfl, HT2⟩
      case round =>
        clear HT2
        obtain ⟨y, hy0, rfl, HT⟩ := hrel
        by_cases hy : y < N.length
        · have hyl : (y : Int) < (N.length : Int) := by omega
          rcases HVO.out.below HT.out.bel with h | ⟨ob, oo, rfl, hob, hoc⟩
          · omega
          rcases HVN.out.below HT.out.bel with h | ⟨nb, no, rfl, hnb, hnc⟩
          · omega
          clear hoc hnc hob hnb
          have c1 := fn_cell HT.out.ra (j := y + 1) (by omega)
          have c2 := fn_cell HT.out.rb (j := y) (by omega)
          have c3 := fn_cell HT.out.rb (j := y + 1) (by omega)
          have f3 := fn_free (y + 1) HT.out.rb
          have t2 : rowTo O N x y y = PP O N (x + 1) y := by unfold rowTo; rw [if_pos (Nat.le_refl _)]
          rw [t2] at c2
          have b1 := PP_le O N x (y + 1)
          have b2 := PP_le O N (x + 1) y
          have HP : Hid (∀ u : Int, u = ((max (PP O N x (y + 1)) (PP O N (x + 1) y) : Nat) : Int) → Two w (wr.setCell ⟨b, y + 1, none⟩ (.int .i64 u)).drew N.length a b (PP O N x) (rowMid O N x y)) := fun u hu => (HT.out.put (y + 1) _ (by omega) (fun c _ => rfl) u hu).drew
          have hyi : (y : Int) < ((N.length + 1 : Nat) : Int) := by omega
          have hyi2 : (y : Int) + 1 < ((N.length + 1 : Nat) : Int) := by omega
          have wy : IntKind.i64.wrap ((y : Int) + 1) = (y : Int) + 1 := by simp [IntKind.wrap, IntKind.signed, IntKind.bits]; omega
          have ty : ((y : Int) + 1).toNat = y + 1 := by omega
          have py : (0 : Int) ≤ (y : Int) + 1 := by omega
          clear HT t2
          obtain ⟨A, hA⟩ : ∃ A, PP O N x (y + 1) = A := ⟨_, rfl⟩
          obtain ⟨D, hD⟩ : ∃ D, PP O N (x + 1) y = D := ⟨_, rfl⟩
          obtain ⟨z0, hz0⟩ : ∃ z, rowTo O N x y (y + 1) = z := ⟨_, rfl⟩
          rw [hA] at c1 b1
          rw [hD] at c2 b2
          rw [hz0] at c3
          rw [hA, hD] at HP
          go_wp2_with fail
          go_region
          all_goals
            have HE : Hid (Two w (wr.setCell ⟨b, y + 1, none⟩ (.int .i64 (if A < D then (D : Int) else (A : Int)))).drew N.length a b (PP O N x) (rowMid O N x y)) := HP.out _ (by split <;> omega)
            clear HP c1 c2 c3 f3 hz0
            generalize (wr.setCell ⟨b, y + 1, none⟩ (.int .i64 (if A < D then (D : Int) else (A : Int)))).drew = w9 at *
            generalize (if A < D then (D : Int) else (A : Int)) = mv at *
            rcases HVO.out.below HE.out.bel with h | ⟨ob', oo', ho', hob, hoc⟩
            · omega
            rcases HVN.out.below HE.out.bel with h | ⟨nb', no', hn', hnb, hnc⟩
            · omega
            cases ho'
            cases hn'
            have co := hoc x hx
            have cn := hnc y hy
            obtain ⟨s, hs⟩ : ∃ s, O.getD x ByteArray.empty = s := ⟨_, rfl⟩
            obtain ⟨t, ht⟩ : ∃ t, N.getD y ByteArray.empty = t := ⟨_, rfl⟩
            rw [hs] at co
            rw [ht] at cn
            have gs : O[x] = s := by rw [← hs, List.getD_eq_getElem?_getD, List.getElem?_eq_getElem hx, Option.getD_some]
            have gt : N[y] = t := by rw [← ht, List.getD_eq_getElem?_getD, List.getElem?_eq_getElem hy, Option.getD_some]
            clear hoc hnc hs ht hob hnb
            have fill := PP_fill hx hy
            rw [hA, hD, gs, gt] at fill
            have d1 := fn_cell HE.out.ra (j := y) (by omega)
            have d2 := fn_cell HE.out.rb (j := y + 1) (by omega)
            have f2 := fn_free (y + 1) HE.out.rb
            have t2 : rowMid O N x y (y + 1) = max A D := by unfold rowMid; rw [if_pos rfl, hA, hD]
            rw [t2] at d2
            have b3 := PP_le O N x y
            obtain ⟨E, hE⟩ : ∃ E, PP O N x y = E := ⟨_, rfl⟩
            rw [hE] at d1 b3 fill
            obtain ⟨M, hM⟩ : ∃ M, max A D = M := ⟨_, rfl⟩
            rw [hM] at d2 t2 fill
            have b4 : M ≤ O.length := by omega
            clear gs gt hA hD hE hM b1 b2
            cases he : decide (s = t)
            · have hb2 : (s.toList == t.toList) = false := by rw [eq_bytes']; exact he
              rw [if_neg (by simpa using he)] at fill
              have HF : Hid (∀ q, Two w (w9.drewN q) N.length a b (PP O N x) (rowTo O N x (y + 1))) := fun q => (HE.out.congr fun c hc => by
                by_cases e : c = y + 1
                · subst e; rw [t2, ← fill]; unfold rowTo; rw [if_pos (Nat.le_refl _)]
                · unfold rowMid rowTo
                  rw [if_neg e]
                  by_cases e2 : c ≤ y
                  · rw [if_pos e2, if_pos (by omega)]
                  · rw [if_neg e2, if_neg (by omega)]).drewN q
              clear HE fill t2 d1 d2 f2 b3 b4
              go_wp2_with fail
              go_quiet (fail)
              go_wp2
              go_roundw
              case rel => exact ⟨y + 1, by omega, by go_num, HF.out _⟩
              case measure => simp [intOf] <;> omega
            · have hb2 : (s.toList == t.toList) = true := by rw [eq_bytes']; exact he
              rw [if_pos (by simpa using he)] at fill
              have HF : Hid (∀ (q : Nat) (u : Int), u = ((max M (E + 1) : Nat) : Int) → Two w ((w9.drewN q).setCell ⟨b, y + 1, none⟩ (.int .i64 u)) N.length a b (PP O N x) (rowTo O N x (y + 1))) := fun q u hu => (HE.out.drewN q).put (y + 1) _ (by omega) (fun c hc => by
                by_cases e : c = y + 1
                · subst e; rw [if_pos rfl, ← fill]; unfold rowTo; rw [if_pos (Nat.le_refl _)]
                · rw [if_neg e]
                  unfold rowMid rowTo
                  rw [if_neg e]
                  by_cases e2 : c ≤ y
                  · rw [if_pos e2, if_pos (by omega)]
                  · rw [if_neg e2, if_neg (by omega)]) u hu
              clear HE fill t2
              have we : IntKind.i64.wrap ((E : Int) + 1) = (E : Int) + 1 := by simp [IntKind.wrap, IntKind.signed, IntKind.bits]; omega
              go_wp2_with fail
              go_quiet (fail)
              go_wp2_with fail
              go_region
              all_goals
                have HE : Hid (Two w ((w9.drewN (nq + 1)).setCell ⟨b, y + 1, none⟩ (.int .i64 (if (M : Int) < (E : Int) + 1 then (E : Int) + 1 else (M : Int)))) N.length a b (PP O N x) (rowTo O N x (y + 1))) := HF.out (nq + 1) _ (by split <;> omega)
                clear HF co cn d1 d2 f2
                generalize (w9.drewN (nq + 1)).setCell ⟨b, y + 1, none⟩ (.int .i64 (if (M : Int) < (E : Int) + 1 then (E : Int) + 1 else (M : Int))) = w8 at *
                generalize (if (M : Int) < (E : Int) + 1 then (E : Int) + 1 else (M : Int)) = mw at *
                go_wp2
                go_roundw
                case rel => exact ⟨y + 1, by omega, by go_num, HE⟩
                case measure => simp [intOf] <;> omega
        · obtain rfl : y = N.length := by omega
          have HE : Hid (One w wr N.length b (PP O N (x + 1))) := HT.out.one fun c hc => by unfold rowTo; rw [if_pos hc]
          clear HT
          go_wp2
          go_roundw
          case rel => exact ⟨x + 1, b, by omega, by go_num, rfl, HE⟩
          case measure => simp [intOf] <;> omega
    · obtain rfl : x = O.length := by omega
      have hc := fn_cell HT.out.ra (j := N.length) (Nat.le_refl _)
      rw [PP_all] at hc
      have HB : Hid (Below w.heap.size w wr) := HT.out.bel
      have hli : ((N.length : Nat) : Int) < ((N.length + 1 : Nat) : Int) := by omega
      clear HT
      go_wp2
      go_ret
      exact ⟨rfl, HB.out⟩
end Go.Proofs.YtgdfipmdmgkidaaGreatDoor
