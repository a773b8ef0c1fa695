/- The change that a patch makes of one file: an addition, or an alteration. -/
import Derived.Test.YtgdfipmdmgkidaaGreatDoorPhunks
import Derived.Deep.RegionHeld3
import Derived.Maps.OwnSet
namespace Go.Proofs.YtgdfipmdmgkidaaGreatDoor
open Go.RowKit

theorem id_cells {w : World} {g : Nat} {k : Pid} {x y : Value} {t : TypeId} {f : Nat × Nat} (h : w.heap[g]? = some (.cells #[.int .u8 k.a, .int .u8 k.b, .int .u8 k.c, .int .u8 k.d, x, y] t f)) :
    w.cell? ⟨g, 0, none⟩ = some (.int .u8 k.a) ∧ w.cell? ⟨g, 1, none⟩ = some (.int .u8 k.b) ∧ w.cell? ⟨g, 2, none⟩ = some (.int .u8 k.c) ∧ w.cell? ⟨g, 3, none⟩ = some (.int .u8 k.d) ∧ w.cell? ⟨g, 4, none⟩ = some x ∧ w.cell? ⟨g, 5, none⟩ = some y := by
  simp [World.cell?, h]

theorem two_blocks' (w : World) {w3 : World} (x y : Obj) (h : w3 = (w.alloc x).alloc y) : Below w.heap.size w w3 ∧ w3.heap.size = w.heap.size + 2 ∧ w3.heap[w.heap.size]? = some x ∧ w3.heap[w.heap.size + 1]? = some y := by
  subst h
  have b1 : Below w.heap.size w (w.alloc x) := (Below.refl _ _).alloc (Nat.le_refl _) _
  have s1 : (w.alloc x).heap.size = w.heap.size + 1 := by simp
  refine ⟨b1.alloc (by omega) _, by simp, ?_, ?_⟩
  · rw [Below.heap_alloc _ _ _ (by omega)]
    exact (MapKept.heap_alloc w x).1
  · have := (MapKept.heap_alloc (w.alloc x) y).1
    rwa [s1] at this

set_option maxRecDepth 100000 in
set_option maxHeartbeats 6400000 in
theorem change138_add (i kb : Pid) (n : Int) (mb : Nat) (ka : Option Addr) (kn kc : Nat) (name text : ByteArray) (there : Bool) (w : World) (hm : MAt w mb i n) (ht : text.size ≤ 10000) (hL : (cutAll text).length ≤ 10000) (hn : 0 ≤ n) (hn2 : n ≤ 1000000) :
    Calls Tryz.prog 175 #[.pointer (some ⟨mb, 0, none⟩), .agg #[.int .u8 kb.a, .int .u8 kb.b, .int .u8 kb.c, .int .u8 kb.d, .bool false, .slice ka kn kc], .agg #[.string name, .bool there, .string text]] w fun e w' =>
      ∃ v, e = .returned (.iface 282 (.agg #[.int .u8 i.a, .int .u8 i.b, .int .u8 i.c, .int .u8 i.d, .int .u8 kb.a, .int .u8 kb.b, .int .u8 kb.c, .int .u8 kb.d, v])) ∧ w'.ownsRow w.heap.size 313 7 v (bring i n (cutAll text)).length (rowC (bring i n (cutAll text))) ∧ MAt w' mb i (n + (cutAll text).length) ∧ But w w' mb := by
  obtain ⟨w2, hw2⟩ : ∃ w2, w2 = (w.alloc (.cells #[.int .u8 kb.a, .int .u8 kb.b, .int .u8 kb.c, .int .u8 kb.d, .bool false, .slice ka kn kc] 185)).alloc (.cells #[.string name, .bool there, .string text] 118) := ⟨_, rfl⟩
  obtain ⟨hb2, hs2, hk2, hf2⟩ := two_blocks' w _ _ hw2
  have hmlt := hm.lt
  have hM2 : MAt w2 mb i n := hm.below hb2 hmlt
  obtain ⟨m0, m1, m2, m3, m4⟩ := hM2.cells
  obtain ⟨k0, k1, k2, k3, k4, k5⟩ := id_cells hk2
  obtain ⟨f0, f1, f2⟩ := cells3_at hf2
  obtain ⟨L, hLe⟩ : ∃ L, cutAll text = L := ⟨_, rfl⟩
  have HLE : Hid (cutAll text = L) := hLe
  rw [hLe] at hL
  have hs2' : w.heap.size + 1 < w2.heap.size := by omega
  clear hs2
  go_enter Tryz.func175, Tryz.ntmps175
  go_wp2_with fail
  rw [← hw2]
  clear hw2
  have HS0 : Hid (w2.cell? ⟨mb, 0, none⟩ = some (.int .u8 i.a) ∧ w2.cell? ⟨mb, 1, none⟩ = some (.int .u8 i.b) ∧ w2.cell? ⟨mb, 2, none⟩ = some (.int .u8 i.c) ∧ w2.cell? ⟨mb, 3, none⟩ = some (.int .u8 i.d) ∧ w2.cell? ⟨w.heap.size, 0, none⟩ = some (.int .u8 kb.a) ∧ w2.cell? ⟨w.heap.size, 1, none⟩ = some (.int .u8 kb.b) ∧ w2.cell? ⟨w.heap.size, 2, none⟩ = some (.int .u8 kb.c) ∧ w2.cell? ⟨w.heap.size, 3, none⟩ = some (.int .u8 kb.d) ∧ w2.cell? ⟨w.heap.size + 1, 2, none⟩ = some (.string text)) := ⟨m0, m1, m2, m3, k0, k1, k2, k3, f2⟩
  have HC1 : Hid (Calls Tryz.prog 103 #[.string text] w2.drew fun e w3 => ∃ la lc, e = .returned (.slice la L.length lc) ∧ (w3.ownsRow w2.heap.size 9 1 (.slice la L.length lc) L.length (strs L) ∧ Below w2.heap.size w2 w3 ∧ MAt w3 mb i n ∧ w3.cell? ⟨mb, 0, none⟩ = some (.int .u8 i.a) ∧ w3.cell? ⟨mb, 1, none⟩ = some (.int .u8 i.b) ∧ w3.cell? ⟨mb, 2, none⟩ = some (.int .u8 i.c) ∧ w3.cell? ⟨mb, 3, none⟩ = some (.int .u8 i.d) ∧ w3.cell? ⟨w.heap.size, 0, none⟩ = some (.int .u8 kb.a) ∧ w3.cell? ⟨w.heap.size, 1, none⟩ = some (.int .u8 kb.b) ∧ w3.cell? ⟨w.heap.size, 2, none⟩ = some (.int .u8 kb.c) ∧ w3.cell? ⟨w.heap.size, 3, none⟩ = some (.int .u8 kb.d) ∧ w3.cell? ⟨w.heap.size + 1, 2, none⟩ = some (.string text))) := by
    have HC := cut19_any text w2.drew (by omega)
    rw [hLe] at HC
    refine HC.mono ?_
    rintro e w3 ⟨lv, rfl, hlo, hb3⟩
    obtain ⟨la, lc, rfl⟩ := own_shape hlo
    have hb3' : Below w2.heap.size w2 w3 := (Below.refl _ w2).drew.trans hb3
    have hM3 : MAt w3 mb i n := hM2.below hb3' (by omega)
    obtain ⟨a0, a1, a2, a3, _⟩ := hM3.cells
    obtain ⟨b0, b1, b2, b3, _, _⟩ := id_cells ((hb3'.block w.heap.size (by omega)).trans hk2)
    obtain ⟨_, _, c2⟩ := cells3_at ((hb3'.block (w.heap.size + 1) (by omega)).trans hf2)
    exact ⟨la, lc, rfl, hlo, hb3', hM3, a0, a1, a2, a3, b0, b1, b2, b3, c2⟩
  have HC2 : Hid (∀ (w3 : World) la lc, w3.ownsRow w2.heap.size 9 1 (.slice la L.length lc) L.length (strs L) → Below w2.heap.size w2 w3 → MAt w3 mb i n → Calls Tryz.prog 216 #[.pointer (some ⟨mb, 0, none⟩), .slice la L.length lc] w3 fun e w4 => ∃ ba bl bc, e = .returned (.slice ba bl bc) ∧ (w4.ownsRow w.heap.size 313 7 (.slice ba bl bc) (bring i n L).length (rowC (bring i n L)) ∧ MAt w4 mb i (n + L.length) ∧ But w w4 mb ∧ w4.cell? ⟨mb, 0, none⟩ = some (.int .u8 i.a) ∧ w4.cell? ⟨mb, 1, none⟩ = some (.int .u8 i.b) ∧ w4.cell? ⟨mb, 2, none⟩ = some (.int .u8 i.c) ∧ w4.cell? ⟨mb, 3, none⟩ = some (.int .u8 i.d) ∧ w4.cell? ⟨w.heap.size, 0, none⟩ = some (.int .u8 kb.a) ∧ w4.cell? ⟨w.heap.size, 1, none⟩ = some (.int .u8 kb.b) ∧ w4.cell? ⟨w.heap.size, 2, none⟩ = some (.int .u8 kb.c) ∧ w4.cell? ⟨w.heap.size, 3, none⟩ = some (.int .u8 kb.d) ∧ w4.cell? ⟨w.heap.size + 1, 2, none⟩ = some (.string text))) := fun w3 la lc hlo hb3 hM3 => by
    refine (bring164_any i n L la lc mb w3 (View.own hlo) hM3 (by omega) hn (by omega)).mono ?_
    rintro e w4 ⟨bv, rfl, hbo, hM4, hbt⟩
    obtain ⟨ba, bc, hbe⟩ := own_shape hbo
    have hs3 := hb3.size
    have hbt0 : But w w4 mb := (But.of_below mb ((hb2.trans (hb3.mono (by omega))))).trans hbt
    obtain ⟨a0, a1, a2, a3, _⟩ := hM4.cells
    obtain ⟨b0, b1, b2, b3, _, _⟩ := id_cells ((hbt.block w.heap.size (by omega) (by omega)).trans ((hb3.block w.heap.size (by omega)).trans hk2))
    obtain ⟨_, _, c2⟩ := cells3_at ((hbt.block (w.heap.size + 1) (by omega) (by omega)).trans ((hb3.block (w.heap.size + 1) (by omega)).trans hf2))
    subst hbe
    exact ⟨ba, _, bc, rfl, ownsRow_mono hbo (by omega), hM4, hbt0, a0, a1, a2, a3, b0, b1, b2, b3, c2⟩
  clear k4 k5 f0 f1 m4 hk2 hf2 hM2 hLe
  go_region_held3 (fun w' => w'.cell? ⟨mb, 0, none⟩ = some (.int .u8 i.a) ∧ w'.cell? ⟨mb, 1, none⟩ = some (.int .u8 i.b) ∧ w'.cell? ⟨mb, 2, none⟩ = some (.int .u8 i.c) ∧ w'.cell? ⟨mb, 3, none⟩ = some (.int .u8 i.d) ∧ w'.cell? ⟨w.heap.size, 0, none⟩ = some (.int .u8 kb.a) ∧ w'.cell? ⟨w.heap.size, 1, none⟩ = some (.int .u8 kb.b) ∧ w'.cell? ⟨w.heap.size, 2, none⟩ = some (.int .u8 kb.c) ∧ w'.cell? ⟨w.heap.size, 3, none⟩ = some (.int .u8 kb.d) ∧ w'.cell? ⟨w.heap.size + 1, 2, none⟩ = some (.string text))
    (first | exact KP2.out | exact KP1.out | exact ⟨m0, m1, m2, m3, k0, k1, k2, k3, f2⟩ | go_keep)
    (first
      | (go_at_call 103; refine HC1.out.mono ?_; rintro e w3 ⟨la, lc, rfl, hlo, hb3, hM3, hSS⟩; have KP1 : Hid (w3.cell? ⟨mb, 0, none⟩ = some (.int .u8 i.a) ∧ w3.cell? ⟨mb, 1, none⟩ = some (.int .u8 i.b) ∧ w3.cell? ⟨mb, 2, none⟩ = some (.int .u8 i.c) ∧ w3.cell? ⟨mb, 3, none⟩ = some (.int .u8 i.d) ∧ w3.cell? ⟨w.heap.size, 0, none⟩ = some (.int .u8 kb.a) ∧ w3.cell? ⟨w.heap.size, 1, none⟩ = some (.int .u8 kb.b) ∧ w3.cell? ⟨w.heap.size, 2, none⟩ = some (.int .u8 kb.c) ∧ w3.cell? ⟨w.heap.size, 3, none⟩ = some (.int .u8 kb.d) ∧ w3.cell? ⟨w.heap.size + 1, 2, none⟩ = some (.string text)) := hSS; clear hSS)
      | (go_at_call 216; refine (HC2.out _ _ _ hlo hb3 hM3).mono ?_; rintro e w4 ⟨ba, bl, bc, rfl, hbo, hM4, hbt, hSS⟩; have KP2 : Hid (w4.cell? ⟨mb, 0, none⟩ = some (.int .u8 i.a) ∧ w4.cell? ⟨mb, 1, none⟩ = some (.int .u8 i.b) ∧ w4.cell? ⟨mb, 2, none⟩ = some (.int .u8 i.c) ∧ w4.cell? ⟨mb, 3, none⟩ = some (.int .u8 i.d) ∧ w4.cell? ⟨w.heap.size, 0, none⟩ = some (.int .u8 kb.a) ∧ w4.cell? ⟨w.heap.size, 1, none⟩ = some (.int .u8 kb.b) ∧ w4.cell? ⟨w.heap.size, 2, none⟩ = some (.int .u8 kb.c) ∧ w4.cell? ⟨w.heap.size, 3, none⟩ = some (.int .u8 kb.d) ∧ w4.cell? ⟨w.heap.size + 1, 2, none⟩ = some (.string text)) := hSS; clear hSS))
  all_goals
    have HO : Hid (w4.ownsRow w.heap.size 313 7 (.slice ba bl bc) (bring i n L).length (rowC (bring i n L))) := hbo
    clear hbo KP1 KP2 hlo hb3 hM3 m0 m1 m2 m3 k0 k1 k2 k3 f2
    go_wp2
    go_ret
    exact ⟨_, rfl, by rw [HLE.out]; exact HO.out, by rw [HLE.out]; exact hM4, hbt⟩
set_option maxRecDepth 100000 in
set_option maxHeartbeats 6400000 in
theorem change138_alter (i kb : Pid) (n : Int) (mb : Nat) (S : List Spot) (rv : Value) (name text : ByteArray) (w : World) (hm : MAt w mb i n) (hr : SV w rv S) (ht : text.size ≤ 10000) (hL : (cutAll text).length ≤ 9000) (hS : S.length ≤ 9000) (hn : 0 ≤ n) (hn2 : n ≤ 1000000)
    (hnum : ∀ Q, GapsR (rowLines S) (cutAll text) 0 0 Q → ∀ k, numTo n (cutAll text) (Q.take k) ≤ 10000000 ∧ 0 ≤ numTo n (cutAll text) (Q.take k)) :
    Calls Tryz.prog 175 #[.pointer (some ⟨mb, 0, none⟩), .agg #[.int .u8 kb.a, .int .u8 kb.b, .int .u8 kb.c, .int .u8 kb.d, .bool true, rv], .agg #[.string name, .bool true, .string text]] w fun e w' =>
      ∃ v, e = .returned (.iface 288 (.agg #[.int .u8 kb.a, .int .u8 kb.b, .int .u8 kb.c, .int .u8 kb.d, v])) ∧ HunksOut S (cutAll text) i n mb w w' v ∧ But w w' mb := by
  obtain ⟨ka, kc, rfl⟩ := hr.shape
  obtain ⟨w2, hw2⟩ : ∃ w2, w2 = (w.alloc (.cells #[.int .u8 kb.a, .int .u8 kb.b, .int .u8 kb.c, .int .u8 kb.d, .bool true, .slice ka S.length kc] 185)).alloc (.cells #[.string name, .bool true, .string text] 118) := ⟨_, rfl⟩
  obtain ⟨hb2, hs2, hk2, hf2⟩ := two_blocks' w _ _ hw2
  have hmlt := hm.lt
  have hM2 : MAt w2 mb i n := hm.below hb2 hmlt
  have hr2 := hr.below hb2 (Nat.le_refl _)
  obtain ⟨k0, k1, k2, k3, k4, k5⟩ := id_cells hk2
  obtain ⟨f0, f1, f2⟩ := cells3_at hf2
  obtain ⟨L, hLe⟩ : ∃ L, cutAll text = L := ⟨_, rfl⟩
  have HLE : Hid (cutAll text = L) := hLe
  rw [hLe] at hL hnum
  have hs2' : w.heap.size + 1 < w2.heap.size := by omega
  clear hs2
  go_enter Tryz.func175, Tryz.ntmps175
  go_wp2_with fail
  rw [← hw2]
  clear hw2
  have HC1 : Hid (Calls Tryz.prog 103 #[.string text] w2.drew fun e w3 => ∃ la lc, e = .returned (.slice la L.length lc) ∧ (w3.ownsRow w2.heap.size 9 1 (.slice la L.length lc) L.length (strs L) ∧ Below w2.heap.size w2 w3 ∧ MAt w3 mb i n ∧ w3.cell? ⟨w.heap.size, 0, none⟩ = some (.int .u8 kb.a) ∧ w3.cell? ⟨w.heap.size, 1, none⟩ = some (.int .u8 kb.b) ∧ w3.cell? ⟨w.heap.size, 2, none⟩ = some (.int .u8 kb.c) ∧ w3.cell? ⟨w.heap.size, 3, none⟩ = some (.int .u8 kb.d) ∧ w3.cell? ⟨w.heap.size, 5, none⟩ = some (.slice ka S.length kc) ∧ w3.cell? ⟨w.heap.size + 1, 2, none⟩ = some (.string text))) := by
    have HC := cut19_any text w2.drew (by omega)
    rw [hLe] at HC
    refine HC.mono ?_
    rintro e w3 ⟨lv, rfl, hlo, hb3⟩
    obtain ⟨la, lc, rfl⟩ := own_shape hlo
    have hb3' : Below w2.heap.size w2 w3 := (Below.refl _ w2).drew.trans hb3
    have hM3 : MAt w3 mb i n := hM2.below hb3' (by omega)
    obtain ⟨b0, b1, b2, b3, _, b5⟩ := id_cells ((hb3'.block w.heap.size (by omega)).trans hk2)
    obtain ⟨_, _, c2⟩ := cells3_at ((hb3'.block (w.heap.size + 1) (by omega)).trans hf2)
    exact ⟨la, lc, rfl, hlo, hb3', hM3, b0, b1, b2, b3, b5, c2⟩
  have HC2 : Hid (∀ (w3 : World) la lc, w3.ownsRow w2.heap.size 9 1 (.slice la L.length lc) L.length (strs L) → Below w2.heap.size w2 w3 → MAt w3 mb i n → Calls Tryz.prog 217 #[.pointer (some ⟨mb, 0, none⟩), .slice ka S.length kc, .slice la L.length lc] w3 fun e w4 => ∃ ba bl bc, e = .returned (.slice ba bl bc) ∧ (HunksOut S L i n mb w w4 (.slice ba bl bc) ∧ But w w4 mb ∧ w4.cell? ⟨w.heap.size, 0, none⟩ = some (.int .u8 kb.a) ∧ w4.cell? ⟨w.heap.size, 1, none⟩ = some (.int .u8 kb.b) ∧ w4.cell? ⟨w.heap.size, 2, none⟩ = some (.int .u8 kb.c) ∧ w4.cell? ⟨w.heap.size, 3, none⟩ = some (.int .u8 kb.d) ∧ w4.cell? ⟨w.heap.size, 5, none⟩ = some (.slice ka S.length kc) ∧ w4.cell? ⟨w.heap.size + 1, 2, none⟩ = some (.string text))) := fun w3 la lc hlo hb3 hM3 => by
    have hs3 := hb3.size
    refine (hunks165_any S L i n mb _ _ w3 (hr2.below hb3 (Nat.le_refl _)) (LV.own hlo) hM3 hS hL hn hn2 hnum).mono ?_
    rintro e w4 ⟨bv, rfl, hO, hbt⟩
    have hbt0 : But w w4 mb := (But.of_below mb ((hb2.trans (hb3.mono (by omega))))).trans hbt
    obtain ⟨b0, b1, b2, b3, _, b5⟩ := id_cells ((hbt.block w.heap.size (by omega) (by omega)).trans ((hb3.block w.heap.size (by omega)).trans hk2))
    obtain ⟨_, _, c2⟩ := cells3_at ((hbt.block (w.heap.size + 1) (by omega) (by omega)).trans ((hb3.block (w.heap.size + 1) (by omega)).trans hf2))
    obtain ⟨Hs, Q, h1, h2, h3, h4⟩ := hO
    obtain ⟨ba, bc, hbe⟩ := own_shape h1.row
    subst hbe
    exact ⟨ba, _, bc, rfl, ⟨Hs, Q, h1.mono (by omega), h2, h3, h4⟩, hbt0, b0, b1, b2, b3, b5, c2⟩
  clear k4 f0 f1 hk2 hf2 hM2 hLe hnum
  go_region_held3 (fun w' => w'.cell? ⟨w.heap.size, 0, none⟩ = some (.int .u8 kb.a) ∧ w'.cell? ⟨w.heap.size, 1, none⟩ = some (.int .u8 kb.b) ∧ w'.cell? ⟨w.heap.size, 2, none⟩ = some (.int .u8 kb.c) ∧ w'.cell? ⟨w.heap.size, 3, none⟩ = some (.int .u8 kb.d) ∧ w'.cell? ⟨w.heap.size, 5, none⟩ = some (.slice ka S.length kc) ∧ w'.cell? ⟨w.heap.size + 1, 2, none⟩ = some (.string text))
    (first | exact KP2.out | exact KP1.out | exact ⟨k0, k1, k2, k3, k5, f2⟩ | go_keep)
    (first
      | (go_at_call 103; refine HC1.out.mono ?_; rintro e w3 ⟨la, lc, rfl, hlo, hb3, hM3, hSS⟩; have KP1 : Hid (w3.cell? ⟨w.heap.size, 0, none⟩ = some (.int .u8 kb.a) ∧ w3.cell? ⟨w.heap.size, 1, none⟩ = some (.int .u8 kb.b) ∧ w3.cell? ⟨w.heap.size, 2, none⟩ = some (.int .u8 kb.c) ∧ w3.cell? ⟨w.heap.size, 3, none⟩ = some (.int .u8 kb.d) ∧ w3.cell? ⟨w.heap.size, 5, none⟩ = some (.slice ka S.length kc) ∧ w3.cell? ⟨w.heap.size + 1, 2, none⟩ = some (.string text)) := hSS; clear hSS)
      | (go_at_call 217; refine (HC2.out _ _ _ hlo hb3 hM3).mono ?_; rintro e w4 ⟨ba, bl, bc, rfl, hO, hbt, hSS⟩; have KP2 : Hid (w4.cell? ⟨w.heap.size, 0, none⟩ = some (.int .u8 kb.a) ∧ w4.cell? ⟨w.heap.size, 1, none⟩ = some (.int .u8 kb.b) ∧ w4.cell? ⟨w.heap.size, 2, none⟩ = some (.int .u8 kb.c) ∧ w4.cell? ⟨w.heap.size, 3, none⟩ = some (.int .u8 kb.d) ∧ w4.cell? ⟨w.heap.size, 5, none⟩ = some (.slice ka S.length kc) ∧ w4.cell? ⟨w.heap.size + 1, 2, none⟩ = some (.string text)) := hSS; clear hSS))
  all_goals
    have HO : Hid (HunksOut S L i n mb w w4 (.slice ba bl bc)) := hO
    clear hO KP1 KP2 hlo hb3 hM3 k0 k1 k2 k3 k5 f2
    go_wp2
    go_ret
    exact ⟨_, rfl, by rw [HLE.out]; exact HO.out, hbt⟩
end Go.Proofs.YtgdfipmdmgkidaaGreatDoor

/- What some patches have made: the map of the last files by name. -/
namespace Go.Proofs.YtgdfipmdmgkidaaGreatDoor
open Go.RowKit
open Go.ChangeMaps Go.MapKept

/-- The last file of a name. -/
structure Lat where
  by_ : Pid
  alive : Bool
  rv : Value
  S : List Spot
def latV (l : Lat) : Value := .agg #[.int .u8 l.by_.a, .int .u8 l.by_.b, .int .u8 l.by_.c, .int .u8 l.by_.d, .bool l.alive, l.rv]
def lat0 : Lat := ⟨⟨0, 0, 0, 0⟩, false, .slice none 0 0, []⟩
def latElem : Value → Option (DataW Value × List MemPlace)
  | .agg cs => some (.held (.agg cs), [])
  | _ => none
theorem latElem_mk (l : Lat) : latElem (latV l) = some (.held (latV l), []) := rfl
theorem latElem_inv {v u : Value} {ps : List MemPlace} (h : latElem v = some (.held u, ps)) : v = u := by
  unfold latElem at h
  split at h
  · simp at h; exact h.1
  · cases h

theorem bytes_inj {s t : ByteArray} (h : s.data.toList = t.data.toList) : s = t := ByteArray.ext (Array.toList_inj.1 h)
def kl (s : ByteArray) : Lit := .string s.data.toList
theorem kl_inj {s t : ByteArray} (h : kl s = kl t) : s = t := by
  unfold kl at h
  injection h with h
  exact bytes_inj h
theorem kl_key (s : ByteArray) : WideAt.IsKeyLit (kl s) := trivial
theorem kl_of {s : ByteArray} (hs : s.size ≤ maxLen) : keyOf Tryz.prog 9 (.string s) = some (kl s) := WideMaps.keyOf_string_mk Tryz.underlying9 hs
theorem zero147 (w : World) : (zeroValue 185).run Tryz.prog w = .ok (latV lat0) w := Tryz.zeroValue185 w

/-- Block mb is a map: of each name its last file, where there is one. -/
def KAt (w : World) (mb : Nat) (f : ByteArray → Lat) (has : ByteArray → Bool) : Prop := ∃ (n : Nat) (D : DataW Value), n ≤ 1000000 ∧ w.ownsMap Tryz.prog 9 latElem mb n D ∧ (∀ x, D.atKey (kl x) (.held (latV lat0)) = .held (latV (f x))) ∧ (∀ x, Maps.has D (kl x) = has x) ∧ (∀ x, has x = false → f x = lat0)

theorem KAt.lt {w : World} {mb : Nat} {f : ByteArray → Lat} {has : ByteArray → Bool} (h : KAt w mb f has) : mb < w.heap.size := by
  obtain ⟨n, D, _, h1, _⟩ := h
  exact h1.lt
theorem KAt.look {w : World} {mb : Nat} {f : ByteArray → Lat} {has : ByteArray → Bool} (h : KAt w mb f has) (x : ByteArray) (hx : x.size ≤ 1000000) : (Instr.lookup 119 (.map (some mb)) (.string x) false).run Tryz.prog w = .ok (latV (f x)) w := by
  obtain ⟨n, D, _, h1, h2, _⟩ := h
  obtain ⟨v, ps, hr, hv⟩ := h1.lookup (Maps.string_keyed Tryz.underlying9) Tryz.underlying119 (zero147 w) (latElem_mk lat0) (kl_of (s := x) (by unfold maxLen; omega))
  rw [h2 x] at hv
  rw [hr, latElem_inv hv]
theorem KAt.made (w : World) : KAt (w.alloc (.map #[] 0)) w.heap.size (fun _ => lat0) (fun _ => false) :=
  ⟨0, .map [], by omega, World.ownsMap_made w _ _ _, fun x => rfl, fun x => rfl, fun _ _ => rfl⟩
/-- The map with one name's file written. -/
theorem KAt.put {w : World} {mb : Nat} {f : ByteArray → Lat} {has : ByteArray → Bool} (n : Nat) (D : DataW Value) (hn : n + 1 ≤ 1000000) (h1 : w.ownsMap Tryz.prog 9 latElem mb n D) (h2 : ∀ x, D.atKey (kl x) (.held (latV lat0)) = .held (latV (f x))) (h3 : ∀ x, Maps.has D (kl x) = has x) (h4 : ∀ x, has x = false → f x = lat0) (a : ByteArray) (l : Lat) (ha : a.size ≤ 1000000) :
    ∃ w', (Instr.mapUpdate 119 (.map (some mb)) (.string a) (latV l)).run Tryz.prog w = .ok () w' ∧ w'.ownsMap Tryz.prog 9 latElem mb (n + 1) (D.put (kl a) (.held (latV l))) ∧ KAt w' mb (fun x => if x = a then l else f x) (fun x => decide (x = a) || has x) ∧ w.grownBy w' (some mb) := by
  obtain ⟨w', hr, ho, hg⟩ := h1.update (Maps.string_keyed Tryz.underlying9) Tryz.underlying119 (by unfold maxLen; omega) (kl_of (s := a) (by unfold maxLen; omega)) (latElem_mk l)
  refine ⟨w', hr, ho, ⟨n + 1, _, hn, ho, fun x => ?_, fun x => ?_, fun x hx => ?_⟩, hg⟩
  · show _ = DataW.held (latV (if x = a then l else f x))
    by_cases e : x = a
    · subst e
      rw [Maps.atKey_put_same h1.isMap (kl_key x), if_pos rfl]
    · rw [Maps.atKey_put_other (fun q => e (kl_inj q)), h2, if_neg e]
  · by_cases e : x = a
    · subst e
      rw [Maps.has_put_same h1.isMap (kl_key x)]; simp
    · rw [Maps.has_put_other (fun q => e (kl_inj q)), h3]; simp [e]
  · have e : x ≠ a := fun e => by simp [e] at hx
    show (if x = a then l else f x) = lat0
    rw [if_neg e]
    exact h4 x (by simpa [e] using hx)
theorem KAt.kept {w w' : World} {mb : Nat} {f : ByteArray → Lat} {has : ByteArray → Bool} {row : Option Nat} (h : KAt w mb f has) (hg : w.grownBy w' row) (hne : some mb ≠ row) : KAt w' mb f has := by
  obtain ⟨n, D, hn, h1, h2⟩ := h
  exact ⟨n, D, hn, h1.kept hg hne, h2⟩
theorem KAt.same {w w' : World} {mb : Nat} {f : ByteArray → Lat} {has : ByteArray → Bool} (h : KAt w mb f has) (hb : w'.heap[mb]? = w.heap[mb]?) : KAt w' mb f has := by
  obtain ⟨n, D, hn, ⟨es, clock, he, hr⟩, h2⟩ := h
  exact ⟨n, D, hn, ⟨es, clock, hb.trans he, hr⟩, h2⟩

theorem lat0_row (w : World) : SV w lat0.rv lat0.S := .inl ⟨rfl, rfl⟩

def fileV (name : ByteArray) (there : Bool) (text : ByteArray) : Value := .agg #[.string name, .bool there, .string text]
def keptFile (f : ByteArray → Lat) (x : ByteArray) : Value := if (f x).alive = true then fileV x true (rowText (f x).S) else fileV x false ⟨#[]⟩

theorem free3 {w : World} {g : Nat} {c : Array Value} {t : TypeId} (h : w.heap[g]? = some (.cells c t (0, 0))) (o : Nat) : w.frozen? ⟨g, o, none⟩ = false := by
  simp [World.frozen?, h]
theorem cells3_set (w w1 w2 w3 w9 : World) (g : Nat) (t : TypeId) (c : Array Value) (hc : c.size = 3) (x0 x1 x2 : Value) (hg : w.heap[g]? = some (.cells c t (0, 0)))
    (e1 : w1 = w.setCell ⟨g, 0, none⟩ x0) (e2 : w2 = w1.setCell ⟨g, 1, none⟩ x1) (e3 : w3 = w2.setCell ⟨g, 2, none⟩ x2) (e9 : w9 = w3) :
    w9.heap[g]? = some (.cells #[x0, x1, x2] t (0, 0)) ∧ Over g w w9 := by
  have g1 := heap_setCell_same w g 0 _ t x0 hg
  have o1 := Over.set w g 0 x0
  rw [← e1] at g1 o1
  have g2 := heap_setCell_same w1 g 1 _ t x1 g1
  have o2 := o1.trans (Over.set w1 g 1 x1)
  rw [← e2] at g2 o2
  have g3 := heap_setCell_same w2 g 2 _ t x2 g2
  have o3 := o2.trans (Over.set w2 g 2 x2)
  rw [← e3] at g3 o3
  have ha : ((c.setIfInBounds 0 x0).setIfInBounds 1 x1).setIfInBounds 2 x2 = #[x0, x1, x2] := by
    obtain ⟨l⟩ := c
    match l, hc with
    | [y0, y1, y2], _ => simp
  rw [ha] at g3
  rw [e9]
  exact ⟨g3, o3⟩

set_option maxRecDepth 100000 in
set_option maxHeartbeats 3200000 in
theorem file55_dead (f : ByteArray → Lat) (has : ByteArray → Bool) (mb : Nat) (x : ByteArray) (hx : x.size ≤ 1000000) (w : World) (h : KAt w mb f has) (hr : SV w (f x).rv (f x).S) (ha : (f x).alive = false) :
    Calls Tryz.prog 78 #[.agg #[.map (some mb)], .string x] w fun e w' => e = .returned (keptFile f x) ∧ Below w.heap.size w w' := by
  have HK : Hid (keptFile f x = fileV x false ⟨#[]⟩) := by show _ = _; unfold keptFile; rw [if_neg (by rw [ha]; simp)]
  have hmb := h.lt
  obtain ⟨l, hl⟩ : ∃ l, f x = l := ⟨_, rfl⟩
  rw [hl] at hr ha
  obtain ⟨ra, rc, hre⟩ := hr.shape
  obtain ⟨⟨ba, bb, bc, bd⟩, al, rv, S⟩ := l
  simp only at ha hre hr
  subst ha hre
  obtain ⟨w2, hw2⟩ : ∃ w2, w2 = (w.alloc (.cells #[.map (some mb)] 121)).alloc (.cells #[.string ⟨#[]⟩, .bool false, .string ⟨#[]⟩] 118) := ⟨_, rfl⟩
  obtain ⟨hb2, hs2, hk2, hf2⟩ := two_blocks' w _ _ hw2
  have hlk := (h.same (hb2.block mb hmb)).look x hx
  rw [hl] at hlk
  unfold latV at hlk
  simp only at hlk
  go_enter Tryz.func78, Tryz.ntmps78
  go_wp2
  rw [← hw2, hlk]
  clear hlk hw2
  have hs2' : w.heap.size + 1 < w2.heap.size := by omega
  clear hs2
  obtain ⟨r0, r1, r2⟩ := cells3_at hf2
  have z0 := free3 hf2 0
  have z1 := free3 hf2 1
  have z2 := free3 hf2 2
  have hne : w.heap.size + 1 ≠ w2.heap.size := by omega
  go_wp2
  obtain ⟨w5, hw5⟩ : ∃ w5, w5 = ((w2.setCell ⟨w.heap.size + 1, 0, none⟩ (.string x)).setCell ⟨w.heap.size + 1, 1, none⟩ (.bool false)).setCell ⟨w.heap.size + 1, 2, none⟩ (.string ⟨#[]⟩) := ⟨_, rfl⟩
  obtain ⟨s1, s2⟩ := cells3_set w2 _ _ _ w5 (w.heap.size + 1) 118 _ rfl _ _ _ hf2 rfl rfl rfl hw5
  rw [← hw5]
  have hs5 : w.heap.size + 1 < w5.heap.size := by rw [s2.size]; exact hs2'
  have hb5 : Below w.heap.size w w5 := ⟨s2.os.trans hb2.os, s2.tape.trans hb2.tape, s2.output.trans hb2.output, by rw [s2.size]; exact hb2.size, fun k hk => (s2.block k (by omega)).trans (hb2.block k hk)⟩
  have s9 : (w5.alloc (.cells #[.int .u8 ba, .int .u8 bb, .int .u8 bc, .int .u8 bd, .bool false, .slice ra S.length rc] 185)).heap[w.heap.size + 1]? = _ := (Below.heap_alloc w5 _ _ hs5).trans s1
  refine bodyPost_ret (results_cell_row (p := 4) (ty := 118) (by kernel_rfl) _ _ (w.heap.size + 1) 118 _ (0, 0) _ rfl s9 Tryz.underlying118 rfl (by kernel_rfl)) rfl ?_
  exact ⟨by rw [HK.out]; rfl, hb5.alloc (by omega) _⟩

set_option maxRecDepth 100000 in
set_option maxHeartbeats 3200000 in
theorem file55_alive (f : ByteArray → Lat) (has : ByteArray → Bool) (mb : Nat) (x : ByteArray) (hx : x.size ≤ 1000000) (w : World) (h : KAt w mb f has) (hr : SV w (f x).rv (f x).S) (ha : (f x).alive = true) (hS : (f x).S.length ≤ 1000000) (hT : (rowText (f x).S).size ≤ 1000000000) :
    Calls Tryz.prog 78 #[.agg #[.map (some mb)], .string x] w fun e w' => e = .returned (keptFile f x) ∧ Below w.heap.size w w' := by
  have HK : Hid (keptFile f x = fileV x true (rowText (f x).S)) := by show _ = _; unfold keptFile; rw [if_pos ha]
  have hmb := h.lt
  obtain ⟨l, hl⟩ : ∃ l, f x = l := ⟨_, rfl⟩
  rw [hl] at hr ha hS hT HK
  obtain ⟨ra, rc, hre⟩ := hr.shape
  obtain ⟨⟨ba, bb, bc, bd⟩, al, rv, S⟩ := l
  simp only at ha hre hr hS hT HK
  subst ha hre
  obtain ⟨w2, hw2⟩ : ∃ w2, w2 = (w.alloc (.cells #[.map (some mb)] 121)).alloc (.cells #[.string ⟨#[]⟩, .bool false, .string ⟨#[]⟩] 118) := ⟨_, rfl⟩
  obtain ⟨hb2, hs2, hk2, hf2⟩ := two_blocks' w _ _ hw2
  have hlk := (h.same (hb2.block mb hmb)).look x hx
  rw [hl] at hlk
  unfold latV at hlk
  simp only at hlk
  obtain ⟨T, hTe⟩ : ∃ T, rowText S = T := ⟨_, rfl⟩
  have HTE : Hid (rowText S = T) := hTe
  go_enter Tryz.func78, Tryz.ntmps78
  go_wp2
  rw [← hw2, hlk]
  clear hlk hw2
  have hs2' : w.heap.size + 1 < w2.heap.size := by omega
  clear hs2
  obtain ⟨w3, hw3⟩ : ∃ w3, w3 = w2.alloc (.cells #[.int .u8 ba, .int .u8 bb, .int .u8 bc, .int .u8 bd, .bool true, .slice ra S.length rc] 185) := ⟨_, rfl⟩
  have hb3 : Below w2.heap.size w2 w3 := by rw [hw3]; exact (Below.refl _ _).alloc (Nat.le_refl _) _
  have HX : Hid (Calls Tryz.prog 135 #[.slice ra S.length rc] w3 fun e w' => e = .returned (.string T) ∧ Below w3.heap.size w3 w') := by
    have := text98_any S _ w3 ((hr.below hb2 (Nat.le_refl _)).below hb3 (Nat.le_refl _)) hS hT
    rw [hTe] at this
    exact this
  clear hTe hT
  go_wp2_with fail
  rw [← hw3]
  clear hw3
  refine HX.out.mono ?_
  rintro e w4 ⟨rfl, hb4⟩
  clear HX
  have hs3 := hb3.size
  have hs4 := hb4.size
  have hb04 : Below w.heap.size w w4 := (hb2.trans (hb3.mono (by omega))).trans (hb4.mono (by omega))
  have hf4 : w4.heap[w.heap.size + 1]? = some (.cells #[.string ⟨#[]⟩, .bool false, .string ⟨#[]⟩] 118 (0, 0)) := (hb4.block _ (by omega)).trans ((hb3.block _ hs2').trans hf2)
  obtain ⟨r0, r1, r2⟩ := cells3_at hf4
  have z0 := free3 hf4 0
  have z1 := free3 hf4 1
  have z2 := free3 hf4 2
  clear hb3 hb4 hf2 hk2 hb2
  go_wp2
  obtain ⟨w5, hw5⟩ : ∃ w5, w5 = ((w4.setCell ⟨w.heap.size + 1, 0, none⟩ (.string x)).setCell ⟨w.heap.size + 1, 1, none⟩ (.bool true)).setCell ⟨w.heap.size + 1, 2, none⟩ (.string T) := ⟨_, rfl⟩
  obtain ⟨s1, s2⟩ := cells3_set w4 _ _ _ w5 (w.heap.size + 1) 118 _ rfl _ _ _ hf4 rfl rfl rfl hw5
  rw [← hw5]
  have hb5 : Below w.heap.size w w5 := ⟨s2.os.trans hb04.os, s2.tape.trans hb04.tape, s2.output.trans hb04.output, by rw [s2.size]; exact hb04.size, fun k hk => (s2.block k (by omega)).trans (hb04.block k hk)⟩
  refine bodyPost_ret (results_cell_row (p := 4) (ty := 118) (by kernel_rfl) _ _ (w.heap.size + 1) 118 _ (0, 0) _ rfl s1 Tryz.underlying118 rfl (by kernel_rfl)) rfl ?_
  exact ⟨by rw [HK.out, HTE.out]; rfl, hb5⟩
end Go.Proofs.YtgdfipmdmgkidaaGreatDoor
