import Derived.Shelf.SlIter.Nil
import Derived.Shelf.SortM.Plain
import Derived.Shelf.SortM.SortNone
import Derived.Ground.GgzProg
import Derived.Ground.SlgmProg
import Derived.Test.YtgdfipmdmgkidaaGreatDoorProg
set_option linter.all false
set_option maxHeartbeats 1000000
namespace Go.Proofs
open Go.RowKit Go.Maps Go.Sort Go.Shelf
-- maps.Keys[map[string]stitch/stitch.file,string,stitch/stitch.file] (function 214; its iterator 246) · slices.Sorted[string] (177) · slices.Sort[[]string,string] (219) · the map's type 85, the keys' 9
def Tryz.keys214_ren : Go.Shelf.Ren := ⟨fun | 7 => 214 | 10 => 246 | n => n, fun | 23 => 85 | 26 => 9 | 3 => 105 | 28 => 229 | 0 => 0 | 27 => 228 | 33 => 39 | 4 => 4 | n => n, fun | n => n⟩
theorem Tryz.keys214 : Go.Proofs.SlLaysZ.n7 Tryz.prog Tryz.keys214_ren := {
  mixed := by kernel_rfl
  f7 := ⟨Tryz.f214.name, by decide, Tryz.func214.trans (congrArg some (by kernel_rfl))⟩
  f10 := ⟨Tryz.f246.name, by decide, Tryz.func246.trans (congrArg some (by kernel_rfl))⟩
  t0 := Tryz.underlying0
  a0 := Tryz.isAgg0
  z0 := Tryz.sizeOf0
  v0 := Tryz.zeroValue0
  t4 := Tryz.underlying4
  a4 := Tryz.isAgg4
  z4 := Tryz.sizeOf4
  v4 := Tryz.zeroValue4
  t23 := Tryz.underlying85
  a23 := Tryz.isAgg85
  z23 := Tryz.sizeOf85
  v23 := Tryz.zeroValue85
  t26 := Tryz.underlying9
  a26 := Tryz.isAgg9
  z26 := Tryz.sizeOf9
  v26 := Tryz.zeroValue9
  t27 := Tryz.underlying228
  a27 := Tryz.isAgg228
  z27 := Tryz.sizeOf228
  v27 := Tryz.zeroValue228
  t28 := Tryz.underlying229
  a28 := Tryz.isAgg229
  z28 := Tryz.sizeOf229
  v28 := Tryz.zeroValue229
  t33 := Tryz.underlying39
  a33 := Tryz.isAgg39
  z33 := Tryz.sizeOf39
  v33 := Tryz.zeroValue39 }
def Tryz.sorted177_ren : Go.Shelf.Ren := ⟨fun | 6 => 177 | 8 => 218 | 9 => 219 | 11 => 251 | 13 => 253 | 12 => 252 | 23 => 281 | 24 => 282 | 14 => 272 | 15 => 273 | 16 => 274 | 17 => 275 | 18 => 276 | 19 => 277 | 20 => 278 | 21 => 279 | 22 => 280 | 25 => 292 | 26 => 293 | 27 => 294 | 28 => 295 | 29 => 296 | 30 => 297 | 31 => 299 | n => n, fun | 26 => 9 | 28 => 229 | 24 => 35 | 0 => 0 | 3 => 3 | 37 => 331 | 48 => 361 | 50 => 335 | 4 => 4 | 40 => 354 | 39 => 353 | 45 => 358 | 5 => 5 | 9 => 9 | 51 => 372 | 55 => 376 | 57 => 379 | 58 => 350 | 33 => 39 | n => n, fun | n => n⟩
theorem Tryz.sorted177 : Go.Proofs.SlLaysZ.n6 Tryz.prog Tryz.sorted177_ren := {
  mixed := by kernel_rfl
  f6 := ⟨Tryz.f177.name, by decide, Tryz.func177.trans (congrArg some (by kernel_rfl))⟩
  f8 := ⟨Tryz.f218.name, by decide, Tryz.func218.trans (congrArg some (by kernel_rfl))⟩
  f11 := ⟨Tryz.f251.name, by decide, Tryz.func251.trans (congrArg some (by kernel_rfl))⟩
  t0 := Tryz.underlying0
  a0 := Tryz.isAgg0
  z0 := Tryz.sizeOf0
  v0 := Tryz.zeroValue0
  t24 := Tryz.underlying35
  a24 := Tryz.isAgg35
  z24 := Tryz.sizeOf35
  v24 := Tryz.zeroValue35
  t26 := Tryz.underlying9
  a26 := Tryz.isAgg9
  z26 := Tryz.sizeOf9
  v26 := Tryz.zeroValue9
  t28 := Tryz.underlying229
  a28 := Tryz.isAgg229
  z28 := Tryz.sizeOf229
  v28 := Tryz.zeroValue229
  i26 := by kernel_rfl }
def Tryz.sort219_ren : Go.Shelf.Ren := ⟨fun | 6 => 219 | 8 => 253 | 9 => 252 | 19 => 281 | 20 => 282 | 21 => 272 | 22 => 273 | 23 => 274 | 24 => 275 | 25 => 276 | 26 => 277 | 27 => 278 | 28 => 279 | 29 => 280 | 36 => 292 | 31 => 293 | 32 => 294 | 37 => 295 | 38 => 296 | 39 => 297 | 41 => 299 | n => n, fun | 27 => 35 | 29 => 9 | 3 => 3 | 32 => 331 | 26 => 35 | 0 => 0 | 44 => 361 | 46 => 335 | 4 => 4 | 36 => 354 | 35 => 353 | 41 => 358 | 5 => 5 | 9 => 9 | 53 => 372 | 57 => 376 | 63 => 379 | 64 => 350 | n => n, fun | n => n⟩
theorem Tryz.sort219 : Go.Proofs.SlLaysM.n6 Tryz.prog Tryz.sort219_ren := {
  mixed := by kernel_rfl
  f6 := ⟨Tryz.f219.name, by decide, Tryz.func219.trans (congrArg some (by kernel_rfl))⟩
  f8 := Tryz.func253.trans (congrArg some (by kernel_rfl))
  f9 := ⟨Tryz.f252.name, by decide, Tryz.func252.trans (congrArg some (by kernel_rfl))⟩
  f19 := Tryz.func281.trans (congrArg some (by kernel_rfl))
  f20 := Tryz.func282.trans (congrArg some (by kernel_rfl))
  f21 := ⟨Tryz.f272.name, by decide, Tryz.func272.trans (congrArg some (by kernel_rfl))⟩
  f22 := ⟨Tryz.f273.name, by decide, Tryz.func273.trans (congrArg some (by kernel_rfl))⟩
  f23 := ⟨Tryz.f274.name, by decide, Tryz.func274.trans (congrArg some (by kernel_rfl))⟩
  f24 := ⟨Tryz.f275.name, by decide, Tryz.func275.trans (congrArg some (by kernel_rfl))⟩
  f25 := ⟨Tryz.f276.name, by decide, Tryz.func276.trans (congrArg some (by kernel_rfl))⟩
  f26 := ⟨Tryz.f277.name, by decide, Tryz.func277.trans (congrArg some (by kernel_rfl))⟩
  f27 := ⟨Tryz.f278.name, by decide, Tryz.func278.trans (congrArg some (by kernel_rfl))⟩
  f28 := ⟨Tryz.f279.name, by decide, Tryz.func279.trans (congrArg some (by kernel_rfl))⟩
  f29 := ⟨Tryz.f280.name, by decide, Tryz.func280.trans (congrArg some (by kernel_rfl))⟩
  f31 := Tryz.func293.trans (congrArg some (by kernel_rfl))
  f32 := Tryz.func294.trans (congrArg some (by kernel_rfl))
  f36 := ⟨Tryz.f292.name, by decide, Tryz.func292.trans (congrArg some (by kernel_rfl))⟩
  f37 := ⟨Tryz.f295.name, by decide, Tryz.func295.trans (congrArg some (by kernel_rfl))⟩
  f38 := ⟨Tryz.f296.name, by decide, Tryz.func296.trans (congrArg some (by kernel_rfl))⟩
  f39 := ⟨Tryz.f297.name, by decide, Tryz.func297.trans (congrArg some (by kernel_rfl))⟩
  f41 := ⟨Tryz.f299.name, by decide, Tryz.func299.trans (congrArg some (by kernel_rfl))⟩
  t0 := Tryz.underlying0
  a0 := Tryz.isAgg0
  z0 := Tryz.sizeOf0
  v0 := Tryz.zeroValue0
  t3 := Tryz.underlying3
  a3 := Tryz.isAgg3
  z3 := Tryz.sizeOf3
  v3 := Tryz.zeroValue3
  t4 := Tryz.underlying4
  a4 := Tryz.isAgg4
  z4 := Tryz.sizeOf4
  v4 := Tryz.zeroValue4
  t5 := Tryz.underlying5
  a5 := Tryz.isAgg5
  z5 := Tryz.sizeOf5
  v5 := Tryz.zeroValue5
  t9 := Tryz.underlying9
  a9 := Tryz.isAgg9
  z9 := Tryz.sizeOf9
  v9 := Tryz.zeroValue9
  t26 := Tryz.underlying35
  a26 := Tryz.isAgg35
  z26 := Tryz.sizeOf35
  v26 := Tryz.zeroValue35
  t27 := Tryz.underlying35
  a27 := Tryz.isAgg35
  z27 := Tryz.sizeOf35
  v27 := Tryz.zeroValue35
  t29 := Tryz.underlying9
  a29 := Tryz.isAgg9
  z29 := Tryz.sizeOf9
  v29 := Tryz.zeroValue9
  t32 := Tryz.underlying331
  a32 := Tryz.isAgg331
  z32 := Tryz.sizeOf331
  v32 := Tryz.zeroValue331
  t35 := Tryz.underlying353
  a35 := Tryz.isAgg353
  z35 := Tryz.sizeOf353
  v35 := Tryz.zeroValue353
  t36 := Tryz.underlying354
  a36 := Tryz.isAgg354
  z36 := Tryz.sizeOf354
  v36 := Tryz.zeroValue354
  t41 := Tryz.underlying358
  a41 := Tryz.isAgg358
  z41 := Tryz.sizeOf358
  v41 := Tryz.zeroValue358
  t44 := Tryz.underlying361
  a44 := Tryz.isAgg361
  z44 := Tryz.sizeOf361
  v44 := Tryz.zeroValue361
  t46 := Tryz.underlying335
  a46 := Tryz.isAgg335
  z46 := Tryz.sizeOf335
  v46 := Tryz.zeroValue335
  t53 := Tryz.underlying372
  a53 := Tryz.isAgg372
  z53 := Tryz.sizeOf372
  v53 := Tryz.zeroValue372
  t57 := Tryz.underlying376
  a57 := Tryz.isAgg376
  z57 := Tryz.sizeOf376
  v57 := Tryz.zeroValue376
  t63 := Tryz.underlying379
  a63 := Tryz.isAgg379
  z63 := Tryz.sizeOf379
  v63 := Tryz.zeroValue379
  t64 := Tryz.underlying350
  a64 := Tryz.isAgg350
  z64 := Tryz.sizeOf350
  v64 := Tryz.zeroValue350 }
theorem Tryz.sorts177 (m : Nat) : AnyZ.SortsIn Tryz.prog Tryz.sorted177_ren Fence.wide m :=
  ⟨fun blk off cap ss W hH hblk hsz => callsIn_wide.2 (AnyM.slices_Sort_string Tryz.sort219 blk off cap ss W hH hblk hsz),
   fun p cap W => callsIn_wide.2 (AnyM.slices_Sort_string_none Tryz.sort219 p cap W)⟩
theorem Tryz.maps_Keys_214 (mb : Option Nat) (W : World) : CallsIn Fence.wide 5 Tryz.prog 214 #[.map mb] W fun e w' => e = .returned (.func (.func 246) #[] #[.pointer (some ⟨W.heap.size, 0, none⟩)]) ∧ w' = W.alloc (.cells #[.map mb] 85) :=
  AnyZ.keys_in Tryz.keys214 Fence.wide 5 trivial rfl mb W
theorem Tryz.slices_Sorted_keys_177_214 {H : Type} (b nn : Nat) (D0 : DataW H) (R : Value → Option (DataW H × List MemPlace)) (w : World) (hown : w.ownsMap Tryz.prog 9 R b nn D0) (hmax : Maps.size D0 ≤ maxLen) (hbytes : Maps.size D0 * 16 ≤ 140737488355328) :
    CallsIn Fence.wide 5 Tryz.prog 177 #[.func (.func 246) #[] #[.pointer (some ⟨w.heap.size, 0, none⟩)]] (w.alloc (.cells #[.map (some b)] 85)) fun e w' => ∃ (v : Value) (ss : List (List UInt8)), e = .returned v ∧ ss.Perm (strKeys D0) ∧
      w'.ownsRow (w.alloc (.cells #[.map (some b)] 85)).heap.size 9 1 v ss.length ((ss.mergeSort (fun x y => decide (x ≤ y))).map encStr) ∧ (v = .slice none 0 0 ↔ ss = []) ∧ Below (w.alloc (.cells #[.map (some b)] 85)).heap.size (w.alloc (.cells #[.map (some b)] 85)) w' := by
  have hbl := hown.lt
  have hseq : SeqGives Fence.wide 2 Tryz.prog 246 #[.pointer (some ⟨w.heap.size, 0, none⟩)] encStr (fun ss => ss.Perm (strKeys D0)) (Maps.size D0) (w.alloc (.cells #[.map (some b)] 85)) :=
    AnyZ.keys_gives (ρ := Tryz.keys214_ren) { Tryz.keys214 with } Fence.wide _ trivial rfl (by omega) w.heap.size b nn D0 _ (by simp) (by simp) (by
      obtain ⟨es, clock, hb, Ft, hs, hD⟩ := hown
      exact ⟨es, clock, (Below.heap_alloc _ _ b hbl).trans hb, Ft, hs, hD⟩)
  exact AnyZ.sorted_in Tryz.sorted177 Fence.wide 5 trivial trivial trivial trivial rfl (by omega) (Tryz.sorts177 _) (enters_of Tryz.func219 (by kernel_rfl) rfl) 246 #[.pointer (some ⟨w.heap.size, 0, none⟩)] trivial (enters_of Tryz.func246 (by kernel_rfl) rfl) _ _ hmax hbytes _ hseq
theorem Tryz.slices_Sorted_keys_nil_177_214 (w : World) :
    CallsIn Fence.wide 5 Tryz.prog 177 #[.func (.func 246) #[] #[.pointer (some ⟨w.heap.size, 0, none⟩)]] (w.alloc (.cells #[.map none] 85)) fun e w' => ∃ (v : Value) (ss : List (List UInt8)), e = .returned v ∧ ss = [] ∧
      w'.ownsRow (w.alloc (.cells #[.map none] 85)).heap.size 9 1 v ss.length ((ss.mergeSort (fun x y => decide (x ≤ y))).map encStr) ∧ (v = .slice none 0 0 ↔ ss = []) ∧ Below (w.alloc (.cells #[.map none] 85)).heap.size (w.alloc (.cells #[.map none] 85)) w' := by
  have hseq : SeqGives Fence.wide 2 Tryz.prog 246 #[.pointer (some ⟨w.heap.size, 0, none⟩)] encStr (fun ss : List (List UInt8) => ss = []) 0 (w.alloc (.cells #[.map none] 85)) :=
    AnyZ.keys_gives_nil (ρ := Tryz.keys214_ren) { Tryz.keys214 with } Fence.wide _ trivial rfl w.heap.size _ (by simp) (by simp)
  exact AnyZ.sorted_in Tryz.sorted177 Fence.wide 5 trivial trivial trivial trivial rfl (by omega) (Tryz.sorts177 _) (enters_of Tryz.func219 (by kernel_rfl) rfl) 246 #[.pointer (some ⟨w.heap.size, 0, none⟩)] trivial (enters_of Tryz.func246 (by kernel_rfl) rfl) _ 0 (Nat.zero_le _) (by omega) _ hseq
-- THE CALLER's WALK over 'slices.Sorted(maps.Keys(m))' (inside '(callsIn_wide (n := 6)).1'; 'have hfK : Fence.wide.fn 214 := trivial', 'have hfS : Fence.wide.fn 177 := trivial' ahead): THE TWO ARMS TO PASTE:
--   gi_wp2_with (first
--     | (gi_at_call 214; refine (Tryz.maps_Keys_214 _ _).mono ?_; rintro e w' ⟨rfl, rfl⟩)
--     | (gi_at_call 177; refine (Tryz.slices_Sorted_keys_177_214 b nn D0 R w hown hmax hbytes).mono ?_; rintro e w' ⟨v, ss, rfl, hS, hrow, hnil, hb⟩))
-- maps.Keys[map[string]stitch/patch.latest,string,stitch/patch.latest] (function 221; its iterator 254) · slices.Sorted[string] (177) · slices.Sort[[]string,string] (219) · the map's type 119, the keys' 9
def Tryz.keys221_ren : Go.Shelf.Ren := ⟨fun | 7 => 221 | 10 => 254 | n => n, fun | 23 => 119 | 26 => 9 | 3 => 185 | 28 => 229 | 0 => 0 | 27 => 228 | 33 => 39 | 4 => 4 | n => n, fun | n => n⟩
theorem Tryz.keys221 : Go.Proofs.SlLaysZ.n7 Tryz.prog Tryz.keys221_ren := {
  mixed := by kernel_rfl
  f7 := ⟨Tryz.f221.name, by decide, Tryz.func221.trans (congrArg some (by kernel_rfl))⟩
  f10 := ⟨Tryz.f254.name, by decide, Tryz.func254.trans (congrArg some (by kernel_rfl))⟩
  t0 := Tryz.underlying0
  a0 := Tryz.isAgg0
  z0 := Tryz.sizeOf0
  v0 := Tryz.zeroValue0
  t4 := Tryz.underlying4
  a4 := Tryz.isAgg4
  z4 := Tryz.sizeOf4
  v4 := Tryz.zeroValue4
  t23 := Tryz.underlying119
  a23 := Tryz.isAgg119
  z23 := Tryz.sizeOf119
  v23 := Tryz.zeroValue119
  t26 := Tryz.underlying9
  a26 := Tryz.isAgg9
  z26 := Tryz.sizeOf9
  v26 := Tryz.zeroValue9
  t27 := Tryz.underlying228
  a27 := Tryz.isAgg228
  z27 := Tryz.sizeOf228
  v27 := Tryz.zeroValue228
  t28 := Tryz.underlying229
  a28 := Tryz.isAgg229
  z28 := Tryz.sizeOf229
  v28 := Tryz.zeroValue229
  t33 := Tryz.underlying39
  a33 := Tryz.isAgg39
  z33 := Tryz.sizeOf39
  v33 := Tryz.zeroValue39 }
theorem Tryz.maps_Keys_221 (mb : Option Nat) (W : World) : CallsIn Fence.wide 5 Tryz.prog 221 #[.map mb] W fun e w' => e = .returned (.func (.func 254) #[] #[.pointer (some ⟨W.heap.size, 0, none⟩)]) ∧ w' = W.alloc (.cells #[.map mb] 119) :=
  AnyZ.keys_in Tryz.keys221 Fence.wide 5 trivial rfl mb W
theorem Tryz.slices_Sorted_keys_177_221 {H : Type} (b nn : Nat) (D0 : DataW H) (R : Value → Option (DataW H × List MemPlace)) (w : World) (hown : w.ownsMap Tryz.prog 9 R b nn D0) (hmax : Maps.size D0 ≤ maxLen) (hbytes : Maps.size D0 * 16 ≤ 140737488355328) :
    CallsIn Fence.wide 5 Tryz.prog 177 #[.func (.func 254) #[] #[.pointer (some ⟨w.heap.size, 0, none⟩)]] (w.alloc (.cells #[.map (some b)] 119)) fun e w' => ∃ (v : Value) (ss : List (List UInt8)), e = .returned v ∧ ss.Perm (strKeys D0) ∧
      w'.ownsRow (w.alloc (.cells #[.map (some b)] 119)).heap.size 9 1 v ss.length ((ss.mergeSort (fun x y => decide (x ≤ y))).map encStr) ∧ (v = .slice none 0 0 ↔ ss = []) ∧ Below (w.alloc (.cells #[.map (some b)] 119)).heap.size (w.alloc (.cells #[.map (some b)] 119)) w' := by
  have hbl := hown.lt
  have hseq : SeqGives Fence.wide 2 Tryz.prog 254 #[.pointer (some ⟨w.heap.size, 0, none⟩)] encStr (fun ss => ss.Perm (strKeys D0)) (Maps.size D0) (w.alloc (.cells #[.map (some b)] 119)) :=
    AnyZ.keys_gives (ρ := Tryz.keys221_ren) { Tryz.keys221 with } Fence.wide _ trivial rfl (by omega) w.heap.size b nn D0 _ (by simp) (by simp) (by
      obtain ⟨es, clock, hb, Ft, hs, hD⟩ := hown
      exact ⟨es, clock, (Below.heap_alloc _ _ b hbl).trans hb, Ft, hs, hD⟩)
  exact AnyZ.sorted_in Tryz.sorted177 Fence.wide 5 trivial trivial trivial trivial rfl (by omega) (Tryz.sorts177 _) (enters_of Tryz.func219 (by kernel_rfl) rfl) 254 #[.pointer (some ⟨w.heap.size, 0, none⟩)] trivial (enters_of Tryz.func254 (by kernel_rfl) rfl) _ _ hmax hbytes _ hseq
theorem Tryz.slices_Sorted_keys_nil_177_221 (w : World) :
    CallsIn Fence.wide 5 Tryz.prog 177 #[.func (.func 254) #[] #[.pointer (some ⟨w.heap.size, 0, none⟩)]] (w.alloc (.cells #[.map none] 119)) fun e w' => ∃ (v : Value) (ss : List (List UInt8)), e = .returned v ∧ ss = [] ∧
      w'.ownsRow (w.alloc (.cells #[.map none] 119)).heap.size 9 1 v ss.length ((ss.mergeSort (fun x y => decide (x ≤ y))).map encStr) ∧ (v = .slice none 0 0 ↔ ss = []) ∧ Below (w.alloc (.cells #[.map none] 119)).heap.size (w.alloc (.cells #[.map none] 119)) w' := by
  have hseq : SeqGives Fence.wide 2 Tryz.prog 254 #[.pointer (some ⟨w.heap.size, 0, none⟩)] encStr (fun ss : List (List UInt8) => ss = []) 0 (w.alloc (.cells #[.map none] 119)) :=
    AnyZ.keys_gives_nil (ρ := Tryz.keys221_ren) { Tryz.keys221 with } Fence.wide _ trivial rfl w.heap.size _ (by simp) (by simp)
  exact AnyZ.sorted_in Tryz.sorted177 Fence.wide 5 trivial trivial trivial trivial rfl (by omega) (Tryz.sorts177 _) (enters_of Tryz.func219 (by kernel_rfl) rfl) 254 #[.pointer (some ⟨w.heap.size, 0, none⟩)] trivial (enters_of Tryz.func254 (by kernel_rfl) rfl) _ 0 (Nat.zero_le _) (by omega) _ hseq
-- THE CALLER's WALK over 'slices.Sorted(maps.Keys(m))' (inside '(callsIn_wide (n := 6)).1'; 'have hfK : Fence.wide.fn 221 := trivial', 'have hfS : Fence.wide.fn 177 := trivial' ahead): THE TWO ARMS TO PASTE:
--   gi_wp2_with (first
--     | (gi_at_call 221; refine (Tryz.maps_Keys_221 _ _).mono ?_; rintro e w' ⟨rfl, rfl⟩)
--     | (gi_at_call 177; refine (Tryz.slices_Sorted_keys_177_221 b nn D0 R w hown hmax hbytes).mono ?_; rintro e w' ⟨v, ss, rfl, hS, hrow, hnil, hb⟩))
end Go.Proofs
