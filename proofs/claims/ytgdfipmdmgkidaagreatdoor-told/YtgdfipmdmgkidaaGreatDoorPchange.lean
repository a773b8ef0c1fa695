/- The change that a patch makes of one file: an addition, or an alteration. -/
import Derived.Test.YtgdfipmdmgkidaaGreatDoorPhunks
import Derived.Deep.RegionHeld3
namespace Go.Proofs.YtgdfipmdmgkidaaGreatDoor
open Go.RowKit

theorem id_cells {w : World} {g : Nat} {k : Pid} {x y : Value} {t : TypeId} {f : Nat × Nat} (h : w.heap[g]? = some (.cells #[.int .u8 k.a, .int .u8 k.b, .int .u8 k.c, .int .u8 k.d, x, y] t f)) :
    w.cell? ⟨g, 0, none⟩ = some (.int .u8 k.a) ∧ w.cell? ⟨g, 1, none⟩ = some (.int .u8 k.b) ∧ w.cell? ⟨g, 2, none⟩ = some (.int .u8 k.c) ∧ w.cell? ⟨g, 3, none⟩ = some (.int .u8 k.d) ∧ w.cell? ⟨g, 4, none⟩ = some x ∧ w.cell? ⟨g, 5, none⟩ = some y := by
  simp [World.cell?, h]

theorem two_blocks' (w : World) {w3 : World} (x y : Obj) (h : w3 = (w.alloc x).alloc y) : Below w.heap.size w w3 ∧ w3.heap.size = w.heap.size + 2 ∧ w3.heap[w.heap.size]? = some x ∧ w3.heap[w.heap.size + 1]? = some y := by
  subst h
  have b1 : Below w.heap.size w (w.alloc x) := (Below.refl _ _).alloc (Nat.le_refl _) _
  have s1 : (w.alloc x).heap.size = w.heap.size + 1 := by simp
  refine ⟨b1.alloc (by omega) _, by simp, ?_, ?_⟩
  · rw [Below.heap_alloc _ _ _ (by omega)]
    exact (MapKept.heap_alloc w x).1
  · have := (MapKept.heap_alloc (w.alloc x) y).1
    rwa [s1] at this

set_option maxRecDepth 100000 in
set_option maxHeartbeats 6400000 in
theorem change138_add (i kb : Pid) (n : Int) (mb : Nat) (ka : Option Addr) (kn kc : Nat) (name text : ByteArray) (there : Bool) (w : World) (hm : MAt w mb i n) (ht : text.size ≤ 10000) (hL : (cutAll text).length ≤ 10000) (hn : 0 ≤ n) (hn2 : n ≤ 1000000) :
    Calls Tryz.prog 175 #[.pointer (some ⟨mb, 0, none⟩), .agg #[.int .u8 kb.a, .int .u8 kb.b, .int .u8 kb.c, .int .u8 kb.d, .bool false, .slice ka kn kc], .agg #[.string name, .bool there, .string text]] w fun e w' =>
      ∃ v, e = .returned (.iface 282 (.agg #[.int .u8 i.a, .int .u8 i.b, .int .u8 i.c, .int .u8 i.d, .int .u8 kb.a, .int .u8 kb.b, .int .u8 kb.c, .int .u8 kb.d, v])) ∧ w'.ownsRow w.heap.size 313 7 v (bring i n (cutAll text)).length (rowC (bring i n (cutAll text))) ∧ MAt w' mb i (n + (cutAll text).length) ∧ But w w' mb := by
  obtain ⟨w2, hw2⟩ : ∃ w2, w2 = (w.alloc (.cells #[.int .u8 kb.a, .int .u8 kb.b, .int .u8 kb.c, .int .u8 kb.d, .bool false, .slice ka kn kc] 185)).alloc (.cells #[.string name, .bool there, .string text] 118) := ⟨_, rfl⟩
  obtain ⟨hb2, hs2, hk2, hf2⟩ := two_blocks' w _ _ hw2
  have hmlt := hm.lt
  have hM2 : MAt w2 mb i n := hm.below hb2 hmlt
  obtain ⟨m0, m1, m2, m3, m4⟩ := hM2.cells
  obtain ⟨k0, k1, k2, k3, k4, k5⟩ := id_cells hk2
  obtain ⟨f0, f1, f2⟩ := cells3_at hf2
  obtain ⟨L, hLe⟩ : ∃ L, cutAll text = L := ⟨_, rfl⟩
  have HLE : Hid (cutAll text = L) := hLe
  rw [hLe] at hL
  have hs2' : w.heap.size + 1 < w2.heap.size := by omega
  clear hs2
  go_enter Tryz.func175, Tryz.ntmps175
  go_wp2_with fail
  rw [← hw2]
  clear hw2
  have HS0 : Hid (w2.cell? ⟨mb, 0, none⟩ = some (.int .u8 i.a) ∧ w2.cell? ⟨mb, 1, none⟩ = some (.int .u8 i.b) ∧ w2.cell? ⟨mb, 2, none⟩ = some (.int .u8 i.c) ∧ w2.cell? ⟨mb, 3, none⟩ = some (.int .u8 i.d) ∧ w2.cell? ⟨w.heap.size, 0, none⟩ = some (.int .u8 kb.a) ∧ w2.cell? ⟨w.heap.size, 1, none⟩ = some (.int .u8 kb.b) ∧ w2.cell? ⟨w.heap.size, 2, none⟩ = some (.int .u8 kb.c) ∧ w2.cell? ⟨w.heap.size, 3, none⟩ = some (.int .u8 kb.d) ∧ w2.cell? ⟨w.heap.size + 1, 2, none⟩ = some (.string text)) := ⟨m0, m1, m2, m3, k0, k1, k2, k3, f2⟩
  have HC1 : Hid (Calls Tryz.prog 103 #[.string text] w2.drew fun e w3 => ∃ la lc, e = .returned (.slice la L.length lc) ∧ (w3.ownsRow w2.heap.size 9 1 (.slice la L.length lc) L.length (strs L) ∧ Below w2.heap.size w2 w3 ∧ MAt w3 mb i n ∧ w3.cell? ⟨mb, 0, none⟩ = some (.int .u8 i.a) ∧ w3.cell? ⟨mb, 1, none⟩ = some (.int .u8 i.b) ∧ w3.cell? ⟨mb, 2, none⟩ = some (.int .u8 i.c) ∧ w3.cell? ⟨mb, 3, none⟩ = some (.int .u8 i.d) ∧ w3.cell? ⟨w.heap.size, 0, none⟩ = some (.int .u8 kb.a) ∧ w3.cell? ⟨w.heap.size, 1, none⟩ = some (.int .u8 kb.b) ∧ w3.cell? ⟨w.heap.size, 2, none⟩ = some (.int .u8 kb.c) ∧ w3.cell? ⟨w.heap.size, 3, none⟩ = some (.int .u8 kb.d) ∧ w3.cell? ⟨w.heap.size + 1, 2, none⟩ = some (.string text))) := by
    have HC := cut19_any text w2.drew (by omega)
    rw [hLe] at HC
    refine HC.mono ?_
    rintro e w3 ⟨lv, rfl, hlo, hb3⟩
    obtain ⟨la, lc, rfl⟩ := own_shape hlo
    have hb3' : Below w2.heap.size w2 w3 := (Below.refl _ w2).drew.trans hb3
    have hM3 : MAt w3 mb i n := hM2.below hb3' (by omega)
    obtain ⟨a0, a1, a2, a3, _⟩ := hM3.cells
    obtain ⟨b0, b1, b2, b3, _, _⟩ := id_cells ((hb3'.block w.heap.size (by omega)).trans hk2)
    obtain ⟨_, _, c2⟩ := cells3_at ((hb3'.block (w.heap.size + 1) (by omega)).trans hf2)
    exact ⟨la, lc, rfl, hlo, hb3', hM3, a0, a1, a2, a3, b0, b1, b2, b3, c2⟩
  have HC2 : Hid (∀ (w3 : World) la lc, w3.ownsRow w2.heap.size 9 1 (.slice la L.length lc) L.length (strs L) → Below w2.heap.size w2 w3 → MAt w3 mb i n → Calls Tryz.prog 216 #[.pointer (some ⟨mb, 0, none⟩), .slice la L.length lc] w3 fun e w4 => ∃ ba bl bc, e = .returned (.slice ba bl bc) ∧ (w4.ownsRow w.heap.size 313 7 (.slice ba bl bc) (bring i n L).length (rowC (bring i n L)) ∧ MAt w4 mb i (n + L.length) ∧ But w w4 mb ∧ w4.cell? ⟨mb, 0, none⟩ = some (.int .u8 i.a) ∧ w4.cell? ⟨mb, 1, none⟩ = some (.int .u8 i.b) ∧ w4.cell? ⟨mb, 2, none⟩ = some (.int .u8 i.c) ∧ w4.cell? ⟨mb, 3, none⟩ = some (.int .u8 i.d) ∧ w4.cell? ⟨w.heap.size, 0, none⟩ = some (.int .u8 kb.a) ∧ w4.cell? ⟨w.heap.size, 1, none⟩ = some (.int .u8 kb.b) ∧ w4.cell? ⟨w.heap.size, 2, none⟩ = some (.int .u8 kb.c) ∧ w4.cell? ⟨w.heap.size, 3, none⟩ = some (.int .u8 kb.d) ∧ w4.cell? ⟨w.heap.size + 1, 2, none⟩ = some (.string text))) := fun w3 la lc hlo hb3 hM3 => by
    refine (bring164_any i n L la lc mb w3 (View.own hlo) hM3 (by omega) hn (by omega)).mono ?_
    rintro e w4 ⟨bv, rfl, hbo, hM4, hbt⟩
    obtain ⟨ba, bc, hbe⟩ := own_shape hbo
    have hs3 := hb3.size
    have hbt0 : But w w4 mb := (But.of_below mb ((hb2.trans (hb3.mono (by omega))))).trans hbt
    obtain ⟨a0, a1, a2, a3, _⟩ := hM4.cells
    obtain ⟨b0, b1, b2, b3, _, _⟩ := id_cells ((hbt.block w.heap.size (by omega) (by omega)).trans ((hb3.block w.heap.size (by omega)).trans hk2))
    obtain ⟨_, _, c2⟩ := cells3_at ((hbt.block (w.heap.size + 1) (by omega) (by omega)).trans ((hb3.block (w.heap.size + 1) (by omega)).trans hf2))
    subst hbe
    exact ⟨ba, _, bc, rfl, ownsRow_mono hbo (by omega), hM4, hbt0, a0, a1, a2, a3, b0, b1, b2, b3, c2⟩
  clear k4 k5 f0 f1 m4 hk2 hf2 hM2 hLe
  go_region_held3 (fun w' => w'.cell? ⟨mb, 0, none⟩ = some (.int .u8 i.a) ∧ w'.cell? ⟨mb, 1, none⟩ = some (.int .u8 i.b) ∧ w'.cell? ⟨mb, 2, none⟩ = some (.int .u8 i.c) ∧ w'.cell? ⟨mb, 3, none⟩ = some (.int .u8 i.d) ∧ w'.cell? ⟨w.heap.size, 0, none⟩ = some (.int .u8 kb.a) ∧ w'.cell? ⟨w.heap.size, 1, none⟩ = some (.int .u8 kb.b) ∧ w'.cell? ⟨w.heap.size, 2, none⟩ = some (.int .u8 kb.c) ∧ w'.cell? ⟨w.heap.size, 3, none⟩ = some (.int .u8 kb.d) ∧ w'.cell? ⟨w.heap.size + 1, 2, none⟩ = some (.string text))
    (first | exact KP2.out | exact KP1.out | exact ⟨m0, m1, m2, m3, k0, k1, k2, k3, f2⟩ | go_keep)
    (first
      | (go_at_call 103; refine HC1.out.mono ?_; rintro e w3 ⟨la, lc, rfl, hlo, hb3, hM3, hSS⟩; have KP1 : Hid (w3.cell? ⟨mb, 0, none⟩ = some (.int .u8 i.a) ∧ w3.cell? ⟨mb, 1, none⟩ = some (.int .u8 i.b) ∧ w3.cell? ⟨mb, 2, none⟩ = some (.int .u8 i.c) ∧ w3.cell? ⟨mb, 3, none⟩ = some (.int .u8 i.d) ∧ w3.cell? ⟨w.heap.size, 0, none⟩ = some (.int .u8 kb.a) ∧ w3.cell? ⟨w.heap.size, 1, none⟩ = some (.int .u8 kb.b) ∧ w3.cell? ⟨w.heap.size, 2, none⟩ = some (.int .u8 kb.c) ∧ w3.cell? ⟨w.heap.size, 3, none⟩ = some (.int .u8 kb.d) ∧ w3.cell? ⟨w.heap.size + 1, 2, none⟩ = some (.string text)) := hSS; clear hSS)
      | (go_at_call 216; refine (HC2.out _ _ _ hlo hb3 hM3).mono ?_; rintro e w4 ⟨ba, bl, bc, rfl, hbo, hM4, hbt, hSS⟩; have KP2 : Hid (w4.cell? ⟨mb, 0, none⟩ = some (.int .u8 i.a) ∧ w4.cell? ⟨mb, 1, none⟩ = some (.int .u8 i.b) ∧ w4.cell? ⟨mb, 2, none⟩ = some (.int .u8 i.c) ∧ w4.cell? ⟨mb, 3, none⟩ = some (.int .u8 i.d) ∧ w4.cell? ⟨w.heap.size, 0, none⟩ = some (.int .u8 kb.a) ∧ w4.cell? ⟨w.heap.size, 1, none⟩ = some (.int .u8 kb.b) ∧ w4.cell? ⟨w.heap.size, 2, none⟩ = some (.int .u8 kb.c) ∧ w4.cell? ⟨w.heap.size, 3, none⟩ = some (.int .u8 kb.d) ∧ w4.cell? ⟨w.heap.size + 1, 2, none⟩ = some (.string text)) := hSS; clear hSS))
  all_goals
    have HO : Hid (w4.ownsRow w.heap.size 313 7 (.slice ba bl bc) (bring i n L).length (rowC (bring i n L))) := hbo
    clear hbo KP1 KP2 hlo hb3 hM3 m0 m1 m2 m3 k0 k1 k2 k3 f2
    go_wp2
    go_ret
    exact ⟨_, rfl, by rw [HLE.out]; exact HO.out, by rw [HLE.out]; exact hM4, hbt⟩
set_option maxRecDepth 100000 in
set_option maxHeartbeats 6400000 in
theorem change138_alter (i kb : Pid) (n : Int) (mb : Nat) (S : List Spot) (rv : Value) (name text : ByteArray) (w : World) (hm : MAt w mb i n) (hr : SV w rv S) (ht : text.size ≤ 10000) (hL : (cutAll text).length ≤ 9000) (hS : S.length ≤ 9000) (hn : 0 ≤ n) (hn2 : n ≤ 1000000)
    (hnum : ∀ Q, GapsR (rowLines S) (cutAll text) 0 0 Q → ∀ k, numTo n (cutAll text) (Q.take k) ≤ 10000000 ∧ 0 ≤ numTo n (cutAll text) (Q.take k)) :
    Calls Tryz.prog 175 #[.pointer (some ⟨mb, 0, none⟩), .agg #[.int .u8 kb.a, .int .u8 kb.b, .int .u8 kb.c, .int .u8 kb.d, .bool true, rv], .agg #[.string name, .bool true, .string text]] w fun e w' =>
      ∃ v, e = .returned (.iface 288 (.agg #[.int .u8 kb.a, .int .u8 kb.b, .int .u8 kb.c, .int .u8 kb.d, v])) ∧ HunksOut S (cutAll text) i n mb w w' v ∧ But w w' mb := by
  obtain ⟨ka, kc, rfl⟩ := hr.shape
  obtain ⟨w2, hw2⟩ : ∃ w2, w2 = (w.alloc (.cells #[.int .u8 kb.a, .int .u8 kb.b, .int .u8 kb.c, .int .u8 kb.d, .bool true, .slice ka S.length kc] 185)).alloc (.cells #[.string name, .bool true, .string text] 118) := ⟨_, rfl⟩
  obtain ⟨hb2, hs2, hk2, hf2⟩ := two_blocks' w _ _ hw2
  have hmlt := hm.lt
  have hM2 : MAt w2 mb i n := hm.below hb2 hmlt
  have hr2 := hr.below hb2 (Nat.le_refl _)
  obtain ⟨k0, k1, k2, k3, k4, k5⟩ := id_cells hk2
  obtain ⟨f0, f1, f2⟩ := cells3_at hf2
  obtain ⟨L, hLe⟩ : ∃ L, cutAll text = L := ⟨_, rfl⟩
  have HLE : Hid (cutAll text = L) := hLe
  rw [hLe] at hL hnum
  have hs2' : w.heap.size + 1 < w2.heap.size := by omega
  clear hs2
  go_enter Tryz.func175, Tryz.ntmps175
  go_wp2_with fail
  rw [← hw2]
  clear hw2
  have HC1 : Hid (Calls Tryz.prog 103 #[.string text] w2.drew fun e w3 => ∃ la lc, e = .returned (.slice la L.length lc) ∧ (w3.ownsRow w2.heap.size 9 1 (.slice la L.length lc) L.length (strs L) ∧ Below w2.heap.size w2 w3 ∧ MAt w3 mb i n ∧ w3.cell? ⟨w.heap.size, 0, none⟩ = some (.int .u8 kb.a) ∧ w3.cell? ⟨w.heap.size, 1, none⟩ = some (.int .u8 kb.b) ∧ w3.cell? ⟨w.heap.size, 2, none⟩ = some (.int .u8 kb.c) ∧ w3.cell? ⟨w.heap.size, 3, none⟩ = some (.int .u8 kb.d) ∧ w3.cell? ⟨w.heap.size, 5, none⟩ = some (.slice ka S.length kc) ∧ w3.cell? ⟨w.heap.size + 1, 2, none⟩ = some (.string text))) := by
    have HC := cut19_any text w2.drew (by omega)
    rw [hLe] at HC
    refine HC.mono ?_
    rintro e w3 ⟨lv, rfl, hlo, hb3⟩
    obtain ⟨la, lc, rfl⟩ := own_shape hlo
    have hb3' : Below w2.heap.size w2 w3 := (Below.refl _ w2).drew.trans hb3
    have hM3 : MAt w3 mb i n := hM2.below hb3' (by omega)
    obtain ⟨b0, b1, b2, b3, _, b5⟩ := id_cells ((hb3'.block w.heap.size (by omega)).trans hk2)
    obtain ⟨_, _, c2⟩ := cells3_at ((hb3'.block (w.heap.size + 1) (by omega)).trans hf2)
    exact ⟨la, lc, rfl, hlo, hb3', hM3, b0, b1, b2, b3, b5, c2⟩
  have HC2 : Hid (∀ (w3 : World) la lc, w3.ownsRow w2.heap.size 9 1 (.slice la L.length lc) L.length (strs L) → Below w2.heap.size w2 w3 → MAt w3 mb i n → Calls Tryz.prog 217 #[.pointer (some ⟨mb, 0, none⟩), .slice ka S.length kc, .slice la L.length lc] w3 fun e w4 => ∃ ba bl bc, e = .returned (.slice ba bl bc) ∧ (HunksOut S L i n mb w w4 (.slice ba bl bc) ∧ But w w4 mb ∧ w4.cell? ⟨w.heap.size, 0, none⟩ = some (.int .u8 kb.a) ∧ w4.cell? ⟨w.heap.size, 1, none⟩ = some (.int .u8 kb.b) ∧ w4.cell? ⟨w.heap.size, 2, none⟩ = some (.int .u8 kb.c) ∧ w4.cell? ⟨w.heap.size, 3, none⟩ = some (.int .u8 kb.d) ∧ w4.cell? ⟨w.heap.size, 5, none⟩ = some (.slice ka S.length kc) ∧ w4.cell? ⟨w.heap.size + 1, 2, none⟩ = some (.string text))) := fun w3 la lc hlo hb3 hM3 => by
    have hs3 := hb3.size
    refine (hunks165_any S L i n mb _ _ w3 (hr2.below hb3 (Nat.le_refl _)) (LV.own hlo) hM3 hS hL hn hn2 hnum).mono ?_
    rintro e w4 ⟨bv, rfl, hO, hbt⟩
    have hbt0 : But w w4 mb := (But.of_below mb ((hb2.trans (hb3.mono (by omega))))).trans hbt
    obtain ⟨b0, b1, b2, b3, _, b5⟩ := id_cells ((hbt.block w.heap.size (by omega) (by omega)).trans ((hb3.block w.heap.size (by omega)).trans hk2))
    obtain ⟨_, _, c2⟩ := cells3_at ((hbt.block (w.heap.size + 1) (by omega) (by omega)).trans ((hb3.block (w.heap.size + 1) (by omega)).trans hf2))
    obtain ⟨Hs, Q, h1, h2, h3, h4⟩ := hO
    obtain ⟨ba, bc, hbe⟩ := own_shape h1.row
    subst hbe
    exact ⟨ba, _, bc, rfl, ⟨Hs, Q, h1.mono (by omega), h2, h3, h4⟩, hbt0, b0, b1, b2, b3, b5, c2⟩
  clear k4 f0 f1 hk2 hf2 hM2 hLe hnum
  go_region_held3 (fun w' => w'.cell? ⟨w.heap.size, 0, none⟩ = some (.int .u8 kb.a) ∧ w'.cell? ⟨w.heap.size, 1, none⟩ = some (.int .u8 kb.b) ∧ w'.cell? ⟨w.heap.size, 2, none⟩ = some (.int .u8 kb.c) ∧ w'.cell? ⟨w.heap.size, 3, none⟩ = some (.int .u8 kb.d) ∧ w'.cell? ⟨w.heap.size, 5, none⟩ = some (.slice ka S.length kc) ∧ w'.cell? ⟨w.heap.size + 1, 2, none⟩ = some (.string text))
    (first | exact KP2.out | exact KP1.out | exact ⟨k0, k1, k2, k3, k5, f2⟩ | go_keep)
    (first
      | (go_at_call 103; refine HC1.out.mono ?_; rintro e w3 ⟨la, lc, rfl, hlo, hb3, hM3, hSS⟩; have KP1 : Hid (w3.cell? ⟨w.heap.size, 0, none⟩ = some (.int .u8 kb.a) ∧ w3.cell? ⟨w.heap.size, 1, none⟩ = some (.int .u8 kb.b) ∧ w3.cell? ⟨w.heap.size, 2, none⟩ = some (.int .u8 kb.c) ∧ w3.cell? ⟨w.heap.size, 3, none⟩ = some (.int .u8 kb.d) ∧ w3.cell? ⟨w.heap.size, 5, none⟩ = some (.slice ka S.length kc) ∧ w3.cell? ⟨w.heap.size + 1, 2, none⟩ = some (.string text)) := hSS; clear hSS)
      | (go_at_call 217; refine (HC2.out _ _ _ hlo hb3 hM3).mono ?_; rintro e w4 ⟨ba, bl, bc, rfl, hO, hbt, hSS⟩; have KP2 : Hid (w4.cell? ⟨w.heap.size, 0, none⟩ = some (.int .u8 kb.a) ∧ w4.cell? ⟨w.heap.size, 1, none⟩ = some (.int .u8 kb.b) ∧ w4.cell? ⟨w.heap.size, 2, none⟩ = some (.int .u8 kb.c) ∧ w4.cell? ⟨w.heap.size, 3, none⟩ = some (.int .u8 kb.d) ∧ w4.cell? ⟨w.heap.size, 5, none⟩ = some (.slice ka S.length kc) ∧ w4.cell? ⟨w.heap.size + 1, 2, none⟩ = some (.string text)) := hSS; clear hSS))
  all_goals
    have HO : Hid (HunksOut S L i n mb w w4 (.slice ba bl bc)) := hO
    clear hO KP1 KP2 hlo hb3 hM3 k0 k1 k2 k3 k5 f2
    go_wp2
    go_ret
    exact ⟨_, rfl, by rw [HLE.out]; exact HO.out, hbt⟩
end Go.Proofs.YtgdfipmdmgkidaaGreatDoor
