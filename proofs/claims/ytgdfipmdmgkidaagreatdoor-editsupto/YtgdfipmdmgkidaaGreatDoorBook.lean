/- The statement's book: the lists that came out, each written full of its mark; what stays true of it while other memory turns. -/
import Derived.Test.YtgdfipmdmgkidaaGreatDoorMarks
namespace Go.Proofs.YtgdfipmdmgkidaaGreatDoor
open Go.RowKit

theorem own_ne {w : World} {B B' e1 e2 s1 s2 n n' : Nat} {v v' : Value} {xs ys : List Value} (h : w.ownsRow B e1 s1 v n xs) (k : w.ownsRow B' e2 s2 v' n' ys) (he : e1 ≠ e2) : v.ownBlock = none ∨ v.ownBlock ≠ v'.ownBlock := by
  rcases h.2 with ⟨rfl, _⟩ | ⟨g, cap, cur, rfl, _, hg, _⟩
  · exact .inl rfl
  · right
    intro e
    rcases k.2 with ⟨rfl, _⟩ | ⟨g', cap', cur', rfl, _, hg', _⟩
    · simp [Value.ownBlock] at e
    · simp [Value.ownBlock] at e
      subst e
      rw [hg] at hg'
      simp only [Option.some.injEq, Obj.cells.injEq] at hg'
      exact he hg'.2.1

theorem own_set {w : World} {B e s n bb o t : Nat} {v u : Value} {xs : List Value} {c : Array Value} {f : Nat × Nat} (h : w.ownsRow B e s v n xs) (hb : w.heap[bb]? = some (.cells c t f)) (he : e ≠ t) : (w.setCell ⟨bb, o, none⟩ u).ownsRow B e s v n xs := by
  refine ⟨h.1, ?_⟩
  rcases h.2 with h2 | ⟨g, cap, cur, hv, hB, hg, r⟩
  · exact .inl h2
  · refine .inr ⟨g, cap, cur, hv, hB, ?_, r⟩
    rw [Below.heap_setCell]
    · exact hg
    · intro e1
      simp only at e1
      subst e1
      rw [hg] at hb
      simp only [Option.some.injEq, Obj.cells.injEq] at hb
      exact he hb.2.1

/-- On the blocks of S the world w' is as w was. -/
def Same (S : Nat → Prop) (w w' : World) : Prop := ∀ g, S g → w'.heap[g]? = w.heap[g]?
theorem Same.trans {S : Nat → Prop} {a b c : World} (h : Same S a b) (k : Same S b c) : Same S a c := fun g hg => (k g hg).trans (h g hg)
theorem Same.of_below {S : Nat → Prop} {B : Nat} {w w' : World} (h : Below B w w') (hS : ∀ g, S g → g < B) : Same S w w' := fun g hg => h.block g (hS g hg)
theorem Same.of_grown {S : Nat → Prop} {w w' : World} {row : Option Nat} (h : w.grownBy w' row) (hS : ∀ g, S g → g < w.heap.size) (hr : ∀ g, row = some g → ¬ S g) : Same S w w' :=
  fun g hg => h.block g (hS g hg) (fun e => hr g e.symm hg)

theorem own_under {w w1 : World} {B n size : Nat} {S : Nat → Prop} {e : TypeId} {v : Value} {xs : List Value} (h : w.ownsRow B e size v n xs) (hb : Same S w w1) (hN : ∀ g, v.ownBlock = some g → S g) : w1.ownsRow B e size v n xs := by
  refine ⟨h.1, ?_⟩
  rcases h.2 with h2 | ⟨g, cap, cur, rfl, b, c, d⟩
  · exact .inl h2
  · exact .inr ⟨g, cap, cur, rfl, b, by rw [hb g (hN g rfl)]; exact c, d⟩

theorem cell_of_two {w : World} {b : Nat} {u v : Value} {t : TypeId} (h : w.heap[b]? = some (.cells #[u, v] t (0, 0))) : w.cell? ⟨b, 0, none⟩ = some u ∧ w.cell? ⟨b, 1, none⟩ = some v := by simp [World.cell?, h]
theorem free_of_two {w : World} {b o : Nat} {u v : Value} {t : TypeId} (h : w.heap[b]? = some (.cells #[u, v] t (0, 0))) : w.frozen? ⟨b, o, none⟩ = false := by simp [World.frozen?, h]
theorem two_setCell {w : World} {b : Nat} {u v x : Value} {t : TypeId} (h : w.heap[b]? = some (.cells #[u, v] t (0, 0))) : (w.setCell ⟨b, 1, none⟩ x).heap[b]? = some (.cells #[u, x] t (0, 0)) := by
  have hlt := lt_of_block h
  have h' : w.heap[b] = .cells #[u, v] t (0, 0) := by simpa [Array.getElem?_eq_getElem hlt] using h
  show (w.heap.modify b _)[b]? = _
  rw [Array.getElem?_eq_getElem (by simpa using hlt), Array.getElem_modify_self, h']
  rfl
theorem two_setCell0 {w : World} {b : Nat} {u v x : Value} {t : TypeId} (h : w.heap[b]? = some (.cells #[u, v] t (0, 0))) : (w.setCell ⟨b, 0, none⟩ x).heap[b]? = some (.cells #[x, v] t (0, 0)) := by
  have hlt := lt_of_block h
  have h' : w.heap[b] = .cells #[u, v] t (0, 0) := by simpa [Array.getElem?_eq_getElem hlt] using h
  show (w.heap.modify b _)[b]? = _
  rw [Array.getElem?_eq_getElem (by simpa using hlt), Array.getElem_modify_self, h']
  rfl

structure Ent where
  l : Value
  g1 : Value
  g2 : Value
  g3 : Value
  n : Nat
  mark : ByteArray

def Ent.cells (e : Ent) : List Value := [e.l, e.g1, e.g2, e.g3, .int .i64 e.n, .string e.mark]

/-- A list shows its mark: n texts, each the mark, in a row of the call's own, one of the blocks of S. -/
def ShowsAt (w : World) (B : Nat) (S : Nat → Prop) (v : Value) (n : Nat) (m : ByteArray) : Prop := w.ownsRow B 9 1 v n (strs (marks n m)) ∧ ∀ g, v.ownBlock = some g → S g

structure Ent.ok (w : World) (B : Nat) (S : Nat → Prop) (e : Ent) : Prop where
  a : ShowsAt w B S e.l e.n e.mark
  b : ShowsAt w B S e.g1 (e.n + 1) e.mark
  c : ShowsAt w B S e.g2 (e.n + 2) e.mark
  d : ShowsAt w B S e.g3 (e.n + 3) e.mark
  few : e.n ≤ 1000000

structure BookAt (w : World) (B : Nat) (S : Nat → Prop) (bb : Nat) (K : List Ent) (lv kv : Value) : Prop where
  lo : B ≤ bb
  hi : S bb
  cell : w.heap[bb]? = some (.cells #[lv, kv] 73 (0, 0))
  row : w.ownsRow B 142 6 kv K.length (K.flatMap Ent.cells)
  rowHi : ∀ g, kv.ownBlock = some g → S g
  ents : ∀ e ∈ K, e.ok w B S
  few : K.length ≤ 10000000

theorem ShowsAt.same {w w1 : World} {B n : Nat} {S : Nat → Prop} {v : Value} {m : ByteArray} (h : ShowsAt w B S v n m) (hb : Same S w w1) : ShowsAt w1 B S v n m := ⟨own_under h.1 hb h.2, h.2⟩
theorem ShowsAt.mono {w : World} {B n : Nat} {S S' : Nat → Prop} {v : Value} {m : ByteArray} (h : ShowsAt w B S v n m) (hN : ∀ g, S g → S' g) : ShowsAt w B S' v n m := ⟨h.1, fun g hg => hN g (h.2 g hg)⟩
theorem Ent.ok.same {w w1 : World} {B : Nat} {S : Nat → Prop} {e : Ent} (h : e.ok w B S) (hb : Same S w w1) : e.ok w1 B S := ⟨h.a.same hb, h.b.same hb, h.c.same hb, h.d.same hb, h.few⟩
theorem Ent.ok.mono {w : World} {B : Nat} {S S' : Nat → Prop} {e : Ent} (h : e.ok w B S) (hN : ∀ g, S g → S' g) : e.ok w B S' := ⟨h.a.mono hN, h.b.mono hN, h.c.mono hN, h.d.mono hN, h.few⟩
theorem BookAt.same {w w1 : World} {B bb : Nat} {S : Nat → Prop} {K : List Ent} {lv kv : Value} (h : BookAt w B S bb K lv kv) (hb : Same S w w1) : BookAt w1 B S bb K lv kv :=
  ⟨h.lo, h.hi, by rw [hb bb h.hi]; exact h.cell, own_under h.row hb h.rowHi, h.rowHi, fun e he => (h.ents e he).same hb, h.few⟩
theorem BookAt.mono {w : World} {B bb : Nat} {S S' : Nat → Prop} {K : List Ent} {lv kv : Value} (h : BookAt w B S bb K lv kv) (hN : ∀ g, S g → S' g) : BookAt w B S' bb K lv kv :=
  ⟨h.lo, hN _ h.hi, h.cell, h.row, fun g hg => hN g (h.rowHi g hg), fun e he => (h.ents e he).mono hN, h.few⟩

/-- The blocks that there are. -/
def Old (w : World) (g : Nat) : Prop := g < w.heap.size

theorem cells_length (K : List Ent) : (K.flatMap Ent.cells).length = K.length * 6 := by
  induction K with
  | nil => rfl
  | cons a K ih => rw [List.flatMap_cons, List.length_append, ih]; simp [Ent.cells]; omega

/-- A mark's list stays while the book's row grows and its cell is written. -/
theorem ShowsAt.booked {w w6 : World} {o : Obj} {B B' n n' bb : Nat} {S : Nat → Prop} {v lv kv u : Value} {m : ByteArray} {ys : List Value} (h : ShowsAt w B S v n m) (hk : w.ownsRow B' 142 6 kv n' ys) (hg : (w.alloc o).grownBy w6 kv.ownBlock)
    (hb : w6.heap[bb]? = some (.cells #[lv, kv] 73 (0, 0))) : ShowsAt (w6.setCell ⟨bb, 1, none⟩ u) B S v n m :=
  ⟨own_set ((h.1.alloc o).kept hg (own_ne (h.1.alloc o) (hk.alloc o) (by decide))) hb (by decide), h.2⟩

theorem booked {w w5 w6 : World} {B bb n : Nat} {S : Nat → Prop} {K : List Ent} {lv kv kv' : Value} {e : Ent} {o : Obj} (hbk : BookAt w B S bb K lv kv) (hS : ∀ g, S g → g < w.heap.size) (hb5 : Same S w w5) (hw5 : Below B w w5)
    (hg : (w5.alloc o).grownBy w6 kv.ownBlock) (hrow : w6.ownsRow B 142 6 kv' (K.length + 1) (K.flatMap Ent.cells ++ e.cells)) (hn : K.length + 1 = n) (hfew : n ≤ 10000000)
    (he : e.ok w5 B (Old w5)) (hB : B ≤ w.heap.size) :
    w6.heap[bb]? = some (.cells #[lv, kv] 73 (0, 0)) ∧ BookAt (w6.setCell ⟨bb, 1, none⟩ kv') B (Old (w6.setCell ⟨bb, 1, none⟩ kv')) bb (K ++ [e]) lv kv' ∧ Below B w (w6.setCell ⟨bb, 1, none⟩ kv') ∧ (∀ g, g < w5.heap.size → g ≠ bb → some g ≠ kv.ownBlock → (w6.setCell ⟨bb, 1, none⟩ kv').heap[g]? = w5.heap[g]?) := by
  have hk5 := hbk.same hb5
  have hs5 := hw5.size
  have hs6 := hg.size
  have hlt5 : w5.heap.size ≤ w6.heap.size := by simp at hs6; omega
  have hbw : bb < w5.heap.size := by have := hS _ hbk.hi; omega
  have hbne : some bb ≠ kv.ownBlock := by
    intro e1
    rcases hk5.row.2 with ⟨rfl, _⟩ | ⟨g, cap, cur, rfl, _, hgg, _⟩
    · simp [Value.ownBlock] at e1
    · simp [Value.ownBlock] at e1
      subst e1
      rw [hk5.cell] at hgg
      simp at hgg
  have hbb : w6.heap[bb]? = some (.cells #[lv, kv] 73 (0, 0)) := by
    rw [hg.block bb (by simp; omega) hbne, Below.heap_alloc _ _ _ hbw]
    exact hk5.cell
  have hsz : (w6.setCell ⟨bb, 1, none⟩ kv').heap.size = w6.heap.size := by simp [World.setCell]
  have hst : Below B w6 (w6.setCell ⟨bb, 1, none⟩ kv') := (Below.refl B w6).setCell (p := ⟨bb, 1, none⟩) hbk.lo kv'
  have hmv : ∀ {S' : Nat → Prop} {n : Nat} {v : Value} {m : ByteArray}, ShowsAt w5 B S' v n m → (∀ g, S' g → g < w6.heap.size) → ShowsAt (w6.setCell ⟨bb, 1, none⟩ kv') B (Old (w6.setCell ⟨bb, 1, none⟩ kv')) v n m :=
    fun hh hN' => (hh.booked hk5.row hg hbb).mono (fun g h => by unfold Old; rw [hsz]; exact hN' g h)
  have hev : ∀ {S' : Nat → Prop} {x : Ent}, x.ok w5 B S' → (∀ g, S' g → g < w6.heap.size) → x.ok (w6.setCell ⟨bb, 1, none⟩ kv') B (Old (w6.setCell ⟨bb, 1, none⟩ kv')) :=
    fun hx hN' => ⟨hmv hx.a hN', hmv hx.b hN', hmv hx.c hN', hmv hx.d hN', hx.few⟩
  refine ⟨hbb, ⟨hbk.lo, by unfold Old; rw [hsz]; omega, ?_, ?_, ?_, ?_, by simp; omega⟩, ?_, ?_⟩
  · exact two_setCell hbb
  · have hr2 : w6.ownsRow B 142 6 kv' (K ++ [e]).length ((K ++ [e]).flatMap Ent.cells) := by
      rw [List.flatMap_append, List.length_append]; simpa using hrow
    exact own_set hr2 hbb (by decide)
  · intro g hgg
    unfold Old
    rw [hsz]
    exact (hrow.lt g hgg).2
  · intro x hx
    rcases List.mem_append.1 hx with hx | hx
    · exact hev (hk5.ents x hx) (fun g hg => by have := hS g hg; omega)
    · rw [List.mem_singleton.1 hx]
      exact hev he (fun g hg => by unfold Old at hg; omega)
  · exact Below.trans ((hw5.alloc (by omega) o).grown hg (by simp; omega) (fun g hgg => (hk5.row.lt g hgg).1)) hst
  · intro g h1 h2 h3
    rw [Below.heap_setCell _ _ _ _ (by simpa using h2), hg.block g (by simp; omega) h3, Below.heap_alloc _ _ _ h1]
end Go.Proofs.YtgdfipmdmgkidaaGreatDoor
