/- slices.IndexFunc and ContainsFunc on rows, changes and patches, with any function that answers. -/
import Derived.Test.YtgdfipmdmgkidaaGreatDoorPstand
namespace Go.Proofs.YtgdfipmdmgkidaaGreatDoor
open Go.RowKit

theorem find_hit {α : Type} {L : List α} {p : α → Bool} {k : Nat} (hk : k < L.length) (h : p L[k] = true) (hno : ∀ i (hi : i < L.length), i < k → p L[i] = false) : L.findIdx? p = some k := by
  rw [List.findIdx?_eq_some_iff_getElem]
  exact ⟨hk, h, fun j hj => by rw [hno j (by omega) hj]; simp⟩
theorem find_miss {α : Type} {L : List α} {p : α → Bool} (hno : ∀ i (hi : i < L.length), p L[i] = false) : L.findIdx? p = none := by
  rw [List.findIdx?_eq_none_iff]
  intro x hx
  obtain ⟨i, hi, rfl⟩ := List.getElem_of_mem hx
  exact hno i hi

theorem idx_any {α : Type} (L : List α) (p : α → Bool) : decide (idxInt (L.findIdx? p) ≥ 0) = L.any p := by
  cases h : L.findIdx? p with
  | none =>
    rw [List.findIdx?_eq_none_iff] at h
    have : L.any p = false := by rw [List.any_eq_false]; intro x hx; rw [h x hx]; simp
    rw [this]
    rfl
  | some k =>
    rw [List.findIdx?_eq_some_iff_getElem] at h
    obtain ⟨h1, h2, _⟩ := h
    have : L.any p = true := List.any_eq_true.2 ⟨_, List.getElem_mem h1, h2⟩
    rw [this]
    simp [idxInt]
/-- A change of a name, a patch, as values. -/
def ncV (c : ByteArray × ChM) : Value := .agg #[.string c.1, chV c.2]
def pmV (P : PM) : Value := .agg #[.int .u8 P.id.a, .int .u8 P.id.b, .int .u8 P.id.c, .int .u8 P.id.d, P.cv]

set_option maxRecDepth 100000 in
set_option maxHeartbeats 3200000 in
theorem idxf283_any (S : List Spot) (p : Spot → Bool) (g : FuncId) (lb : Array Value) (eg : ∀ args w, (callFunc g args).run Tryz.prog w = .ok (.enter g args) w) (v0 : Value) (w : World) (hv : SV w v0 S) (hlen : S.length ≤ 1000000)
    (hp : ∀ s ∈ S, ∀ u, Below w.heap.size w u → Calls Tryz.prog g (#[spV s] ++ lb) u fun e w' => e = .returned (.bool (p s)) ∧ Below u.heap.size u w') :
    Calls Tryz.prog 283 #[v0, .func (.func g) #[] lb] w fun e w' => e = .returned (.int .i64 (idxInt (S.findIdx? p))) ∧ Below w.heap.size w w' := by
  have HV : Hid (SV w v0 S) := hv
  obtain ⟨ao, cap, rfl⟩ := hv.shape
  have HP : Hid (∀ s ∈ S, ∀ u, Below w.heap.size w u → Calls Tryz.prog g (#[spV s] ++ lb) u fun e w' => e = .returned (.bool (p s)) ∧ Below u.heap.size u w') := hp
  clear hp hv
  go_enter Tryz.func283, Tryz.ntmps283
  go_wp2
  go_loopw [5, 8] (fun _ i wr => ∃ k : Nat, k ≤ S.length ∧ i = .int .i64 k ∧ Hid (∀ i (hi : i < S.length), i < k → p S[i] = false) ∧ Below w.heap.size w wr) (fun _ i _ => S.length - (intOf i).toNat)
  case atStart => exact ⟨0, Nat.zero_le _, rfl, (fun i _ h => by omega), Below.refl _ _⟩
  case round =>
    obtain ⟨k, hk, rfl, HN, hbw⟩ := hrel
    by_cases hlt : k < S.length
    · have hs : S[k]? = some S[k] := List.getElem?_eq_getElem hlt
      obtain ⟨b, o, rfl, hb, c0, c1, c2, c3, c4, c5, c6⟩ := (HV.out.below hbw (Nat.le_refl _)).at hs
      obtain ⟨s, hss⟩ : ∃ s, S[k] = s := ⟨_, rfl⟩
      have hcall := HP.out S[k] (List.getElem_mem hlt) wr hbw
      rw [hss] at c0 c1 c2 c3 c4 c5 c6 hcall
      have HT : Hid (S[k] = s) := hss
      clear hss hs
      unfold spV at hcall
      cases hq : p s with
      | true =>
        rw [hq] at hcall
        go_wp2_with (go_at_fn g; refine hcall.mono ?_; rintro e w' ⟨rfl, hb'⟩)
        go_ret
        exact ⟨ret_int (by rw [find_hit hlt (by rw [HT.out]; exact hq) HN.out]; rfl), hbw.trans (hb'.mono hbw.size)⟩
      | false =>
        rw [hq] at hcall
        go_wp2_with (go_at_fn g; refine hcall.mono ?_; rintro e w' ⟨rfl, hb'⟩)
        go_roundw
        case rel =>
          refine ⟨k + 1, by omega, by go_num, fun i hi h => ?_, hbw.trans (hb'.mono hbw.size)⟩
          by_cases e : i = k
          · subst e; rw [HT.out]; exact hq
          · exact HN.out i hi (by omega)
        case measure => simp [intOf]; omega
    · obtain rfl : k = S.length := by omega
      go_wp2
      go_ret
      exact ⟨ret_int (by rw [find_miss (fun i hi => HN.out i hi hi)]; rfl), hbw⟩
set_option maxRecDepth 100000 in
set_option maxHeartbeats 3200000 in
theorem idxf225_any (S : List (ByteArray × ChM)) (p : (ByteArray × ChM) → Bool) (g : FuncId) (lb : Array Value) (eg : ∀ args w, (callFunc g args).run Tryz.prog w = .ok (.enter g args) w) (v0 : Value) (w : World) (hv : CV w v0 S) (hlen : S.length ≤ 1000000)
    (hp : ∀ s ∈ S, ∀ u, Below w.heap.size w u → Calls Tryz.prog g (#[ncV s] ++ lb) u fun e w' => e = .returned (.bool (p s)) ∧ Below u.heap.size u w') :
    Calls Tryz.prog 225 #[v0, .func (.func g) #[] lb] w fun e w' => e = .returned (.int .i64 (idxInt (S.findIdx? p))) ∧ Below w.heap.size w w' := by
  have HV : Hid (CV w v0 S) := hv
  obtain ⟨ao, cap, rfl, _⟩ := hv
  have HP : Hid (∀ s ∈ S, ∀ u, Below w.heap.size w u → Calls Tryz.prog g (#[ncV s] ++ lb) u fun e w' => e = .returned (.bool (p s)) ∧ Below u.heap.size u w') := hp
  clear hp
  go_enter Tryz.func225, Tryz.ntmps225
  go_wp2
  go_loopw [5, 8] (fun _ i wr => ∃ k : Nat, k ≤ S.length ∧ i = .int .i64 k ∧ Hid (∀ i (hi : i < S.length), i < k → p S[i] = false) ∧ Below w.heap.size w wr) (fun _ i _ => S.length - (intOf i).toNat)
  case atStart => exact ⟨0, Nat.zero_le _, rfl, (fun i _ h => by omega), Below.refl _ _⟩
  case round =>
    obtain ⟨k, hk, rfl, HN, hbw⟩ := hrel
    by_cases hlt : k < S.length
    · have hs : S[k]? = some S[k] := List.getElem?_eq_getElem hlt
      obtain ⟨_, _, e1, hcc⟩ := HV.out.below hbw (Nat.le_refl _)
      cases e1
      obtain ⟨b, o, rfl, hb, c0, c1, _⟩ := hcc k _ hs
      clear hcc
      obtain ⟨s, hss⟩ : ∃ s, S[k] = s := ⟨_, rfl⟩
      have hcall := HP.out S[k] (List.getElem_mem hlt) wr hbw
      rw [hss] at c0 c1 hcall
      have HT : Hid (S[k] = s) := hss
      clear hss hs
      unfold ncV at hcall
      cases hq : p s with
      | true =>
        rw [hq] at hcall
        go_wp2_with (go_at_fn g; refine hcall.mono ?_; rintro e w' ⟨rfl, hb'⟩)
        go_ret
        exact ⟨ret_int (by rw [find_hit hlt (by rw [HT.out]; exact hq) HN.out]; rfl), hbw.trans (hb'.mono hbw.size)⟩
      | false =>
        rw [hq] at hcall
        go_wp2_with (go_at_fn g; refine hcall.mono ?_; rintro e w' ⟨rfl, hb'⟩)
        go_roundw
        case rel =>
          refine ⟨k + 1, by omega, by go_num, fun i hi h => ?_, hbw.trans (hb'.mono hbw.size)⟩
          by_cases e : i = k
          · subst e; rw [HT.out]; exact hq
          · exact HN.out i hi (by omega)
        case measure => simp [intOf]; omega
    · obtain rfl : k = S.length := by omega
      go_wp2
      go_ret
      exact ⟨ret_int (by rw [find_miss (fun i hi => HN.out i hi hi)]; rfl), hbw⟩
set_option maxRecDepth 100000 in
set_option maxHeartbeats 3200000 in
theorem idxf187_any (S : List PM) (p : PM → Bool) (g : FuncId) (lb : Array Value) (eg : ∀ args w, (callFunc g args).run Tryz.prog w = .ok (.enter g args) w) (v0 : Value) (w : World) (hv : PV w v0 S) (hlen : S.length ≤ 1000000)
    (hp : ∀ s ∈ S, ∀ u, Below w.heap.size w u → Calls Tryz.prog g (#[pmV s] ++ lb) u fun e w' => e = .returned (.bool (p s)) ∧ Below u.heap.size u w') :
    Calls Tryz.prog 187 #[v0, .func (.func g) #[] lb] w fun e w' => e = .returned (.int .i64 (idxInt (S.findIdx? p))) ∧ Below w.heap.size w w' := by
  have HV : Hid (PV w v0 S) := hv
  obtain ⟨ao, cap, rfl, _⟩ := hv
  have HP : Hid (∀ s ∈ S, ∀ u, Below w.heap.size w u → Calls Tryz.prog g (#[pmV s] ++ lb) u fun e w' => e = .returned (.bool (p s)) ∧ Below u.heap.size u w') := hp
  clear hp
  go_enter Tryz.func187, Tryz.ntmps187
  go_wp2
  go_loopw [5, 8] (fun _ i wr => ∃ k : Nat, k ≤ S.length ∧ i = .int .i64 k ∧ Hid (∀ i (hi : i < S.length), i < k → p S[i] = false) ∧ Below w.heap.size w wr) (fun _ i _ => S.length - (intOf i).toNat)
  case atStart => exact ⟨0, Nat.zero_le _, rfl, (fun i _ h => by omega), Below.refl _ _⟩
  case round =>
    obtain ⟨k, hk, rfl, HN, hbw⟩ := hrel
    by_cases hlt : k < S.length
    · have hs : S[k]? = some S[k] := List.getElem?_eq_getElem hlt
      obtain ⟨_, _, e1, hcc⟩ := HV.out.below hbw (Nat.le_refl _)
      cases e1
      obtain ⟨b, o, rfl, hb, c0, c1, c2, c3, c4, _⟩ := hcc k _ hs
      clear hcc
      obtain ⟨s, hss⟩ : ∃ s, S[k] = s := ⟨_, rfl⟩
      have hcall := HP.out S[k] (List.getElem_mem hlt) wr hbw
      rw [hss] at c0 c1 c2 c3 c4 hcall
      have HT : Hid (S[k] = s) := hss
      clear hss hs
      unfold pmV at hcall
      cases hq : p s with
      | true =>
        rw [hq] at hcall
        go_wp2_with (go_at_fn g; refine hcall.mono ?_; rintro e w' ⟨rfl, hb'⟩)
        go_ret
        exact ⟨ret_int (by rw [find_hit hlt (by rw [HT.out]; exact hq) HN.out]; rfl), hbw.trans (hb'.mono hbw.size)⟩
      | false =>
        rw [hq] at hcall
        go_wp2_with (go_at_fn g; refine hcall.mono ?_; rintro e w' ⟨rfl, hb'⟩)
        go_roundw
        case rel =>
          refine ⟨k + 1, by omega, by go_num, fun i hi h => ?_, hbw.trans (hb'.mono hbw.size)⟩
          by_cases e : i = k
          · subst e; rw [HT.out]; exact hq
          · exact HN.out i hi (by omega)
        case measure => simp [intOf]; omega
    · obtain rfl : k = S.length := by omega
      go_wp2
      go_ret
      exact ⟨ret_int (by rw [find_miss (fun i hi => HN.out i hi hi)]; rfl), hbw⟩

set_option maxRecDepth 100000 in
theorem anyf255_any (S : List Spot) (p : Spot → Bool) (g : FuncId) (lb : Array Value) (eg : ∀ args w, (callFunc g args).run Tryz.prog w = .ok (.enter g args) w) (v0 : Value) (w : World) (hv : SV w v0 S) (hlen : S.length ≤ 1000000)
    (hp : ∀ s ∈ S, ∀ u, Below w.heap.size w u → Calls Tryz.prog g (#[spV s] ++ lb) u fun e w' => e = .returned (.bool (p s)) ∧ Below u.heap.size u w') :
    Calls Tryz.prog 255 #[v0, .func (.func g) #[] lb] w fun e w' => e = .returned (.bool (S.any p)) ∧ Below w.heap.size w w' := by
  have HC : Hid (Calls Tryz.prog 283 #[v0, .func (.func g) #[] lb] w fun e w' => e = .returned (.int .i64 (idxInt (S.findIdx? p))) ∧ Below w.heap.size w w') := idxf283_any S p g lb eg v0 w hv hlen hp
  have HD : Hid (decide (idxInt (S.findIdx? p) ≥ 0) = S.any p) := idx_any S p
  obtain ⟨n, hn⟩ : ∃ n, idxInt (S.findIdx? p) = n := ⟨_, rfl⟩
  rw [hn] at HC HD
  clear hp eg hv hn
  go_enter Tryz.func255, Tryz.ntmps255
  go_wp2_with fail
  refine HC.out.mono ?_
  rintro e w' ⟨rfl, hb⟩
  clear HC
  go_wp2
  go_ret
  exact ⟨by rw [← HD.out]; rfl, hb⟩

set_option maxRecDepth 100000 in
theorem anyf184_any (S : List (ByteArray × ChM)) (p : (ByteArray × ChM) → Bool) (g : FuncId) (lb : Array Value) (eg : ∀ args w, (callFunc g args).run Tryz.prog w = .ok (.enter g args) w) (v0 : Value) (w : World) (hv : CV w v0 S) (hlen : S.length ≤ 1000000)
    (hp : ∀ s ∈ S, ∀ u, Below w.heap.size w u → Calls Tryz.prog g (#[ncV s] ++ lb) u fun e w' => e = .returned (.bool (p s)) ∧ Below u.heap.size u w') :
    Calls Tryz.prog 184 #[v0, .func (.func g) #[] lb] w fun e w' => e = .returned (.bool (S.any p)) ∧ Below w.heap.size w w' := by
  have HC : Hid (Calls Tryz.prog 225 #[v0, .func (.func g) #[] lb] w fun e w' => e = .returned (.int .i64 (idxInt (S.findIdx? p))) ∧ Below w.heap.size w w') := idxf225_any S p g lb eg v0 w hv hlen hp
  have HD : Hid (decide (idxInt (S.findIdx? p) ≥ 0) = S.any p) := idx_any S p
  obtain ⟨n, hn⟩ : ∃ n, idxInt (S.findIdx? p) = n := ⟨_, rfl⟩
  rw [hn] at HC HD
  clear hp eg hv hn
  go_enter Tryz.func184, Tryz.ntmps184
  go_wp2_with fail
  refine HC.out.mono ?_
  rintro e w' ⟨rfl, hb⟩
  clear HC
  go_wp2
  go_ret
  exact ⟨by rw [← HD.out]; rfl, hb⟩
end Go.Proofs.YtgdfipmdmgkidaaGreatDoor
