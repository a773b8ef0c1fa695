/- The command pull. -/
import Derived.Test.YtgdfipmdmgkidaaGreatDoorUfk
import Derived.Test.YtgdfipmdmgkidaaGreatDoorMbring
import Derived.Test.YtgdfipmdmgkidaaGreatDoorMoff
import Derived.Test.YtgdfipmdmgkidaaGreatDoorUwr
import Derived.Test.YtgdfipmdmgkidaaGreatDoorUdo2
import Derived.Test.YtgdfipmdmgkidaaGreatDoorUkf
import Derived.Deep.QuietTactic
import Derived.BigQuiet
set_option maxHeartbeats 3200000
set_option maxRecDepth 100000
namespace Go.Proofs.YtgdfipmdmgkidaaGreatDoor
open Go.RowKit
abbrev wdPull : ByteArray := ⟨#[112, 117, 108, 108]⟩
theorem carry45_pull2 (pb rg ro wb wo wc : Nat) (b : UInt8) (w : World) (Q : ByteArray → Int → World → Prop) (hw : w.cell? ⟨wb, wo, none⟩ = some (.string wdPull)) (hw1 : w.cell? ⟨wb, wo + 1, none⟩ = some (.string ⟨#[b]⟩)) (hwb : TB w wb 9) (hwc : 2 ≤ wc)
    (hN : ∀ u na nc, Below w.heap.size w u → Calls Tryz.prog 76 #[.pointer (some ⟨pb, 0, none⟩), .pointer (some ⟨rg, ro, none⟩), .string ⟨#[b]⟩, .slice na 0 nc] u fun e w' => ∃ x cd, e = .returned (.tuple #[.string x, .int .i64 cd]) ∧ Q x cd w' ∧ HeldT (· = 9) u w') :
    Calls Tryz.prog 45 #[.pointer (some ⟨pb, 0, none⟩), .pointer (some ⟨rg, ro, none⟩), .slice (some ⟨wb, wo, none⟩) 2 wc] w fun e w' => ∃ x cd, e = .returned (.tuple #[.string x, .int .i64 cd]) ∧ Q x cd w' := by
  have HN := hid hN
  have HS0 := hid hw1
  clear hN
  have j1 : (2 : Int) ≤ (wc : Int) := by omega
  have j2 : (wc : Int) ≤ (wc : Int) := Int.le_refl _
  have hb1 : Below w.heap.size w w.drew := (Below.refl _ w).drew
  go_enter Tryz.func45, Tryz.ntmps45
  go_wp2_with fail
  refine wp_region_Z (fun w' => w'.cell? ⟨wb, wo + 1, none⟩ = some (.string ⟨#[b]⟩)) 99 (by kernel_rfl) ?_
  refine zt 0 (v := ?v0) HS0.out (fun w0 hS0 => ?hy) ?_
  case hy =>
    go_simp
    with_reducible rfl
  simp only [Act.put, List.setIfInBounds_toArray]
  refine zt 1 (v := ?v1) HS0.out (fun w0 hS0 => ?hy) ?_
  case hy =>
    go_simp
    with_reducible rfl
  simp only [Act.put]
  refine zt 2 (v := ?v2) HS0.out (fun w0 hS0 => ?hy) ?_
  case hy =>
    go_simp
    with_reducible rfl
  simp only [Act.put]
  refine zt 3 (v := ?v3) HS0.out (fun w0 hS0 => ?hy) ?_
  case hy =>
    go_simp
    with_reducible rfl
  simp only [Act.put]
  refine zt 4 (v := ?v4) HS0.out (fun w0 hS0 => ?hy) ?_
  case hy =>
    go_simp
    with_reducible rfl
  simp only [Act.put]
  refine zt 5 (v := ?v5) HS0.out (fun w0 hS0 => ?hy) ?_
  case hy =>
    go_simp
    with_reducible rfl
  simp only [Act.put]
  refine zt 6 (v := ?v6) HS0.out (fun w0 hS0 => ?hy) ?_
  case hy =>
    go_simp
    with_reducible rfl
  simp only [Act.put]
  refine wpZ_one 7 _ rfl (by kernel_rfl) (fun KK hK => ?_)
  go_simp
  refine (HN.out _ _ _ hb1).mono ?_
  rintro e w2 ⟨x, cd, rfl, hq, hh⟩
  clear HN
  have c2 : w2.cell? ⟨wb, wo + 1, none⟩ = some (.string ⟨#[b]⟩) := (cell_same (hh.keep wb 9 (hwb.below hb1 (Nat.le_refl _)) rfl) _).trans hw1
  dsimp only
  refine hK.out _ _ (fun _ => c2) ?_
  clear hK
  refine zt 8 (v := ?v8) c2 (fun w0 hS0 => ?hy) ?_
  case hy =>
    go_simp
    with_reducible rfl
  simp only [Act.put, List.setIfInBounds_toArray]
  refine zt 9 (v := ?v9) c2 (fun w0 hS0 => ?hy) ?_
  case hy =>
    go_simp
    with_reducible rfl
  simp only [Act.put]
  refine zt 10 (v := ?v10) c2 (fun w0 hS0 => ?hy) ?_
  case hy =>
    go_simp
    with_reducible rfl
  simp only [Act.put]
  refine wpZ_one 11 _ rfl (by kernel_rfl) (fun KK hK => ?_)
  go_simp
  refine hK.out _ _ (fun _ => c2) ?_
  clear hK
  refine wpZ_done (by kernel_rfl) ?_ _
  go_wp2
  all_goals
    go_ret2
    exact ⟨x, cd, rfl, hq⟩
theorem carry45_pull3 (pb rg ro wb wo wc : Nat) (b : UInt8) (w : World) (Q : ByteArray → Int → World → Prop) (hw : w.cell? ⟨wb, wo, none⟩ = some (.string wdPull)) (hw1 : w.cell? ⟨wb, wo + 1, none⟩ = some (.string ⟨#[b]⟩)) (hwb : TB w wb 9) (hwc : 3 ≤ wc)
    (hN : ∀ u, Below w.heap.size w u → Calls Tryz.prog 76 #[.pointer (some ⟨pb, 0, none⟩), .pointer (some ⟨rg, ro, none⟩), .string ⟨#[b]⟩, .slice (some ⟨wb, wo + 2, none⟩) 1 (wc - 2)] u fun e w' => ∃ x cd, e = .returned (.tuple #[.string x, .int .i64 cd]) ∧ Q x cd w' ∧ HeldT (· = 9) u w') :
    Calls Tryz.prog 45 #[.pointer (some ⟨pb, 0, none⟩), .pointer (some ⟨rg, ro, none⟩), .slice (some ⟨wb, wo, none⟩) 3 wc] w fun e w' => ∃ x cd, e = .returned (.tuple #[.string x, .int .i64 cd]) ∧ Q x cd w' := by
  have HN := hid hN
  have HS0 := hid hw1
  clear hN
  have j1 : (3 : Int) ≤ (wc : Int) := by omega
  have j3 : ¬ wc = 2 := by omega
  have j2 : (wc : Int) ≤ (wc : Int) := Int.le_refl _
  have hb1 : Below w.heap.size w w.drew := (Below.refl _ w).drew
  go_enter Tryz.func45, Tryz.ntmps45
  go_wp2_with fail
  refine wp_region_Z (fun w' => w'.cell? ⟨wb, wo + 1, none⟩ = some (.string ⟨#[b]⟩)) 99 (by kernel_rfl) ?_
  refine zt 0 (v := ?v0) HS0.out (fun w0 hS0 => ?hy) ?_
  case hy =>
    go_simp
    with_reducible rfl
  simp only [Act.put, List.setIfInBounds_toArray]
  refine zt 1 (v := ?v1) HS0.out (fun w0 hS0 => ?hy) ?_
  case hy =>
    go_simp
    with_reducible rfl
  simp only [Act.put]
  refine zt 2 (v := ?v2) HS0.out (fun w0 hS0 => ?hy) ?_
  case hy =>
    go_simp
    with_reducible rfl
  simp only [Act.put]
  refine zt 3 (v := ?v3) HS0.out (fun w0 hS0 => ?hy) ?_
  case hy =>
    go_simp
    with_reducible rfl
  simp only [Act.put]
  refine zt 4 (v := ?v4) HS0.out (fun w0 hS0 => ?hy) ?_
  case hy =>
    go_simp
    with_reducible rfl
  simp only [Act.put]
  refine zt 5 (v := ?v5) HS0.out (fun w0 hS0 => ?hy) ?_
  case hy =>
    go_simp
    with_reducible rfl
  simp only [Act.put]
  refine zt 6 (v := ?v6) HS0.out (fun w0 hS0 => ?hy) ?_
  case hy =>
    go_simp
    with_reducible rfl
  simp only [Act.put]
  refine wpZ_one 7 _ rfl (by kernel_rfl) (fun KK hK => ?_)
  go_simp
  refine (HN.out _ hb1).mono ?_
  rintro e w2 ⟨x, cd, rfl, hq, hh⟩
  clear HN
  have c2 : w2.cell? ⟨wb, wo + 1, none⟩ = some (.string ⟨#[b]⟩) := (cell_same (hh.keep wb 9 (hwb.below hb1 (Nat.le_refl _)) rfl) _).trans hw1
  dsimp only
  refine hK.out _ _ (fun _ => c2) ?_
  clear hK
  refine zt 8 (v := ?v8) c2 (fun w0 hS0 => ?hy) ?_
  case hy =>
    go_simp
    with_reducible rfl
  simp only [Act.put, List.setIfInBounds_toArray]
  refine zt 9 (v := ?v9) c2 (fun w0 hS0 => ?hy) ?_
  case hy =>
    go_simp
    with_reducible rfl
  simp only [Act.put]
  refine zt 10 (v := ?v10) c2 (fun w0 hS0 => ?hy) ?_
  case hy =>
    go_simp
    with_reducible rfl
  simp only [Act.put]
  refine wpZ_one 11 _ rfl (by kernel_rfl) (fun KK hK => ?_)
  go_simp
  refine hK.out _ _ (fun _ => c2) ?_
  clear hK
  refine wpZ_done (by kernel_rfl) ?_ _
  go_wp2
  all_goals
    go_ret2
    exact ⟨x, cd, rfl, hq⟩
end Go.Proofs.YtgdfipmdmgkidaaGreatDoor

/- The command pull on a world of some repositories, where the files are what is kept. -/
namespace Go.Proofs.YtgdfipmdmgkidaaGreatDoor
open Go.RowKit
theorem keptO_clean (t : ByteArray → PL) (x : ByteArray) : differs (keptO t) t x = false := by
  unfold differs flOf keptFl keptO
  by_cases h : (t x).alive = true
  · simp [h]
  · simp [h]
theorem took_files {Q C : List PM} {t t' : ByteArray → PL} (h : HWt Q t) (hC : HWt (Q ++ C) t') : keepF (keptO t) t' (namesL C) = keptO t' := by
  funext x
  unfold keepF
  split
  · rfl
  · rename_i hx
    obtain ⟨t0, h1, h2⟩ := hC.hist.pre
    have e := h.uniq (h.of h1 (fun P hP => hP))
    subst e
    have e2 := chain_other h2 x (fun P hP c hc e => hx (List.mem_flatMap.2 ⟨P, hP, List.mem_map.2 ⟨c, hc, e⟩⟩))
    unfold keptO
    rw [e2]
section
variable {w : World} {B pb rg : Nat} {cap : Cfg} {gb fb : Nat} {Q : List PM} {t : ByteArray → PL} {G : List Pid}
theorem UH.take (h : UH w B pb rg cap gb fb Q (keptO t) t G) {C : List PM} {t' : ByteArray → PL} (hC : HWt (Q ++ C) t') {u : World} (hu : Below w.heap.size w u) {v : Value} (hv : u.ownsRow w.heap.size 149 5 v C.length (pmCells C)) (hcv : ∀ P ∈ C, CV u P.cv P.Cs) :
    Calls Tryz.prog 133 #[.pointer (some ⟨rg, cap.r * 2, none⟩), v] u fun e w' => e = .returned (.tuple #[.string ⟨(logL (C.map (·.id))).toArray⟩, .int .i64 0]) ∧ UH w' B pb rg cap gb fb (Q ++ C) (keptO t') t' G ∧ Below B u w' ∧ HeldT kin u w' := by
  obtain ⟨pv, h1⟩ := h.one
  obtain ⟨st, cnt, hS, hse, _, hrow⟩ := hC.stands2
  have hl := hC.len
  rw [List.length_append] at hl
  have e0 : st Q.length 0 = t := by
    have k := hC.at_ hS Q.length (by simp)
    rw [List.take_left] at k
    exact h.hw.uniq k
  have hnl : ∀ x ∈ namesL C, x ∈ names3 := fun x hx => by
    obtain ⟨P, hP, hx⟩ := List.mem_flatMap.1 hx
    obtain ⟨c, hc, rfl⟩ := List.mem_map.1 hx
    exact hC.pnm P (List.mem_append.2 (.inr hP)) c hc
  refine (take133_ok (h1.below hu) (Nat.le_trans h.lo hu.size) C v w.heap.size hv hcv (fun g hg e => ?_) hS (by omega) (by omega) (fun P hP => ?_) (fun p x => by have := hrow p x; omega) (hC.fits hS) (fun x => ?_) (fun x hx => ?_) names3 (by decide) h.fnm hnl).mono ?_
  · have k1 := (hv.lt g hg).1
    have k2 := (h1.own.lt g e).2
    omega
  · have hm := List.mem_append.2 (.inr hP : P ∈ Q ∨ P ∈ C)
    exact ⟨hC.sm.few P hm, hC.sm.small P hm, hC.sm.names P hm⟩
  · rw [e0, hse]
    have k1 := h.hw.text x
    have k2 := hC.text x
    exact ⟨by omega, by omega⟩
  · rw [e0]
    exact keptO_clean t x
  · rintro e w' ⟨rfl, ⟨pv', h2⟩, h3, h4⟩
    rw [hse, took_files h.hw hC] at h2
    refine ⟨rfl, ⟨hC, fun x hx => ?_, pv', h2⟩, h3, h4⟩
    unfold keptO at hx
    split at hx
    · rename_i ha
      exact hC.alive ha
    · cases hx
end
def pullHead (d : Nat) : ByteArray := ⟨#[112, 117, 108, 108, 32, UInt8.ofNat (48 + d)]⟩
def pullSp (d : Nat) : ByteArray := ⟨#[112, 117, 108, 108, 32, UInt8.ofNat (48 + d), 32]⟩
theorem pull_words : ∀ d ∈ List.range 3, wordsOk (pullHead d) = true ∧ splitAll (pullHead d) = [wdPull, ⟨#[UInt8.ofNat (48 + d)]⟩] ∧ (UInt8.ofNat (48 + d)).toNat = 48 + d ∧ ∀ n ∈ List.range 42, wordsOk (pullSp d ++ idW n) = true ∧ splitAll (pullSp d ++ idW n) = [wdPull, ⟨#[UInt8.ofNat (48 + d)]⟩, idW n] := by decide +kernel
section
variable {w : World} {B pb rg : Nat} {cap : Cfg} {gb fb : Nat} {Q : List PM} {t : ByteArray → PL} {G : List Pid}
theorem UH.other (h : UH w B pb rg cap gb fb Q (keptO t) t G) {d : Nat} (hd : cap.oth d) : w.cell? ⟨rg, d * 2, none⟩ = some (cap.rep d).pv ∧ rg < w.heap.size ∧ w.ownsRow B 149 5 (cap.rep d).pv (cap.rep d).Ps.length (pmCells (cap.rep d).Ps) ∧ ∀ P ∈ (cap.rep d).Ps, CV w P.cv P.Cs := by
  obtain ⟨pv, h1⟩ := h.one
  obtain ⟨A, hA, _, _, ho⟩ := h1.row
  have hR := h1.oths d hd
  exact ⟨by simp [World.cell?, hA, (ho d hd).1], h1.lts.2.1, hR.own, hR.chs⟩
theorem UH.pull_all (h : UH w B pb rg cap gb fb Q (keptO t) t G) {d : Nat} (hd : cap.oth d) (hd3 : d < 3) {t' : ByteArray → PL} (hC : HWt (Q ++ missP Q (cap.rep d).Ps) t') (hol : (cap.rep d).Ps.length ≤ 40) :
    Calls Tryz.prog 17 #[.pointer (some ⟨pb, 0, none⟩), .int .i64 cap.r, .string (pullHead d)] w fun e w' => ∃ T, e = .returned (.tuple #[.string T, .int .i64 0]) ∧ UH w' B pb rg cap gb fb (Q ++ missP Q (cap.rep d).Ps) (keptO t') t' G ∧ Below B w w' ∧ HeldT kin w w' := by
  obtain ⟨pv, h1⟩ := h.one
  obtain ⟨w1, w2, w3, _⟩ := pull_words d (List.mem_range.2 hd3)
  have hl := h.hw.len
  refine (do12_any h1 (pullHead d) w1 (fun x c w' => c = 0 ∧ UH w' B pb rg cap gb fb (Q ++ missP Q (cap.rep d).Ps) (keptO t') t' G ∧ Below B w w' ∧ HeldT kin w w') (fun u va vc hu ho => ?_)).mono ?_
  · rw [w2] at ho ⊢
    obtain ⟨wb, rfl, htb, hcap, hcl⟩ := words_at ho (by simp)
    refine (carry45_pull2 pb rg (cap.r * 2) wb 0 vc _ u _ (hcl 0 (by simp)) (hcl 1 (by simp)) htb hcap (fun u' na nc hu' => ?_)).mono (fun e w' ⟨x, cd, k1, k2⟩ => ⟨x, cd, k1, k2⟩)
    have hb' : Below w.heap.size w u' := hu.trans (hu'.mono hu.size)
    have hU := h.below hb'
    obtain ⟨o1, o2, o3, o4⟩ := hU.other hd
    refine pull76_any (h1.below hb') (by omega) d hd.1 (by omega) _ w3 na 0 nc (cap.rep d).Ps (by omega) (fun x c w' => (c = 0 ∧ UH w' B pb rg cap gb fb (Q ++ missP Q (cap.rep d).Ps) (keptO t') t' G ∧ Below B w w' ∧ HeldT kin w w') ∧ HeldT (· = 9) u' w') (fun u2 hu2 => ?_) (fun u2 v hu2 hv hcv => ?_) |>.mono (fun e w' ⟨x, cd, k1, k2, k3⟩ => ⟨x, cd, k1, k2, k3⟩)
    · obtain ⟨ao, cc, hsh⟩ := own_shape o3
      refine (offered132_all (cap.rep d).pv rg (d * 2) na nc u2 ⟨_, _, _, hsh⟩ ((hu2.cell (p := ⟨rg, d * 2, none⟩) o2).trans o1)).mono ?_
      rintro e w' ⟨rfl, hb⟩
      have hb3 := hu2.trans (hb.mono hu2.size)
      exact ⟨_, rfl, (pm_view o3 o4).below hb3 (Nat.le_refl _), hb⟩
    · refine (hU.take hC hu2 hv (fun P hP => hcv P (List.mem_filter.1 hP).1)).mono ?_
      rintro e w' ⟨rfl, k1, k2, k3⟩
      have hb3 : Below w.heap.size w u2 := hb'.trans (hu2.mono hb'.size)
      exact ⟨_, _, rfl, ⟨rfl, k1, (hb3.mono h.lo).trans k2, (HeldT.of_below hb3).trans k3⟩, kin9 ((HeldT.of_below hu2).trans k3)⟩
  · rintro e w' ⟨x, c, rfl, rfl, k⟩
    exact ⟨x, rfl, k⟩
theorem UH.pull_one (h : UH w B pb rg cap gb fb Q (keptO t) t G) {d : Nat} (hd : cap.oth d) (hd3 : d < 3) {n k : Nat} (hn : n < 42) (hk : ((cap.rep d).Ps.findIdx? fun P => decide (P.id = idN n)) = some k) {t' : ByteArray → PL} (hC : HWt (Q ++ missP Q (lastWith ((cap.rep d).Ps.take (k + 1)))) t') (hol : (cap.rep d).Ps.length ≤ 40) (hsm : SmallP (cap.rep d).Ps) :
    Calls Tryz.prog 17 #[.pointer (some ⟨pb, 0, none⟩), .int .i64 cap.r, .string (pullSp d ++ idW n)] w fun e w' => ∃ T, e = .returned (.tuple #[.string T, .int .i64 0]) ∧ UH w' B pb rg cap gb fb (Q ++ missP Q (lastWith ((cap.rep d).Ps.take (k + 1)))) (keptO t') t' G ∧ Below B w w' ∧ HeldT kin w w' := by
  obtain ⟨pv, h1⟩ := h.one
  obtain ⟨_, _, w3, wn⟩ := pull_words d (List.mem_range.2 hd3)
  obtain ⟨w1, w2⟩ := wn n (List.mem_range.2 hn)
  obtain ⟨i1, _⟩ := ids_words n (List.mem_range.2 hn)
  have hl := h.hw.len
  have hll : (lastWith ((cap.rep d).Ps.take (k + 1))).length ≤ 40 := by
    have k1 := (lastWith_sub ((cap.rep d).Ps.take (k + 1))).length_le
    rw [List.length_take] at k1
    omega
  refine (do12_any h1 (pullSp d ++ idW n) w1 (fun x c w' => c = 0 ∧ UH w' B pb rg cap gb fb (Q ++ missP Q (lastWith ((cap.rep d).Ps.take (k + 1)))) (keptO t') t' G ∧ Below B w w' ∧ HeldT kin w w') (fun u va vc hu ho => ?_)).mono ?_
  · rw [w2, i1] at ho ⊢
    obtain ⟨wb, rfl, htb, hcap, hcl⟩ := words_at ho (by simp)
    have hc2 := hcl 2 (by simp)
    refine (carry45_pull3 pb rg (cap.r * 2) wb 0 vc _ u _ (hcl 0 (by simp)) (hcl 1 (by simp)) htb hcap (fun u' hu' => ?_)).mono (fun e w' ⟨x, cd, k1, k2⟩ => ⟨x, cd, k1, k2⟩)
    have hb' : Below w.heap.size w u' := hu.trans (hu'.mono hu.size)
    have hU := h.below hb'
    obtain ⟨o1, o2, o3, o4⟩ := hU.other hd
    have hc3 : u'.cell? ⟨wb, 2, none⟩ = some (.string ⟨#[uc n 0, uc n 1, uc n 2, uc n 3]⟩) := (hu'.cell (p := ⟨wb, 2, none⟩) htb.lt).trans hc2
    have hwl : wb < u'.heap.size := Nat.lt_of_lt_of_le htb.lt hu'.size
    refine pull76_any (h1.below hb') (by omega) d hd.1 (by omega) _ w3 (some ⟨wb, 2, none⟩) 1 (vc - 2) (lastWith ((cap.rep d).Ps.take (k + 1))) (by omega) (fun x c w' => (c = 0 ∧ UH w' B pb rg cap gb fb (Q ++ missP Q (lastWith ((cap.rep d).Ps.take (k + 1)))) (keptO t') t' G ∧ Below B w w' ∧ HeldT kin w w') ∧ HeldT (· = 9) u' w') (fun u2 hu2 => ?_) (fun u2 v hu2 hv hcv => ?_) |>.mono (fun e w' ⟨x, cd, k1, k2, k3⟩ => ⟨x, cd, k1, k2, k3⟩)
    · have o4' : ∀ P ∈ (cap.rep d).Ps, CV u2 P.cv P.Cs := fun P hP => (o4 P hP).below hu2 (Nat.le_refl _)
      refine (offered132_one (cap.rep d).Ps (cap.rep d).pv B rg (d * 2) wb 2 (vc - 2) _ _ _ _ k u2 (own_below o3 hu2 (Nat.le_refl _)) o4' (by omega) (fun P hP => ⟨hsm.small P hP, by have := hsm.few P hP; omega⟩) ((hu2.cell (p := ⟨rg, d * 2, none⟩) o2).trans o1) (Nat.lt_of_lt_of_le o2 hu2.size) ((hu2.cell (p := ⟨wb, 2, none⟩) hwl).trans hc3) hk).mono ?_
      rintro e w' ⟨v, rfl, hown, hb⟩
      exact ⟨v, rfl, pm_view hown (fun P hP => (o4' P (List.mem_of_mem_take ((lastWith_sub _).subset hP))).below hb (Nat.le_refl _)), hb⟩
    · refine (hU.take hC hu2 hv (fun P hP => hcv P (List.mem_filter.1 hP).1)).mono ?_
      rintro e w' ⟨rfl, k1, k2, k3⟩
      have hb3 : Below w.heap.size w u2 := hb'.trans (hu2.mono hb'.size)
      exact ⟨_, _, rfl, ⟨rfl, k1, (hb3.mono h.lo).trans k2, (HeldT.of_below hb3).trans k3⟩, kin9 ((HeldT.of_below hu2).trans k3)⟩
  · rintro e w' ⟨x, c, rfl, rfl, k⟩
    exact ⟨x, rfl, k⟩
end
end Go.Proofs.YtgdfipmdmgkidaaGreatDoor

/- Texts of ids; where a text stands; alike. -/
namespace Go.Proofs.YtgdfipmdmgkidaaGreatDoor
open Go.RowKit
theorem idText_nth : ∀ n ∈ List.range 42, idText (idN n) = idW n := by decide +kernel
theorem same21_any {Z : List ByteArray} {k : Nat} (hz : Z.length = k) {ao bo : Option Addr} {ca cb A B : Nat} {w : World} (ha : w.ownsRow A 9 1 (.slice ao k ca) k (strs Z)) (hb : w.ownsRow B 9 1 (.slice bo k cb) k (strs Z)) (hl : k ≤ 1000000) :
    Calls Tryz.prog 21 #[.slice ao k ca, .slice bo k cb] w fun e w' => e = .returned (.bool true) ∧ Below w.heap.size w w' := by
  subst hz
  refine (ksame16_any Z ao bo ca cb A B w ha hb hl).mono ?_
  rintro e w' ⟨rfl, q, rfl⟩
  exact ⟨rfl, below_drewN (Below.refl _ _) q⟩
def texts (X : List PM) : List ByteArray := (X.map (·.id)).map idText
theorem texts_len (X : List PM) : (texts X).length = X.length := by simp [texts]
theorem texts_at {X : List PM} {k : Nat} {P : PM} (h : X[k]? = some P) : (texts X)[k]? = some (idText P.id) := by
  unfold texts
  rw [List.getElem?_map, List.getElem?_map, h]
  rfl
theorem texts_cell {w : World} {BL g c m : Nat} {X : List PM} (h : w.ownsRow BL 9 1 (.slice (some ⟨g, 0, none⟩) m c) m (strs (texts X))) {k : Nat} {P : PM} (hP : X[k]? = some P) (hk : k < m) : w.cell? ⟨g, k, none⟩ = some (.string (idText P.id)) := by
  rw [h.cellAt k (by omega)]
  unfold strs
  rw [List.getElem?_map, texts_at hP]
  rfl
theorem ids_in {n : Nat} {i : Pid} (h : i ∈ idsTo n) : ∃ m, m < n ∧ i = idN m := by
  unfold idsTo at h
  obtain ⟨m, hm, e⟩ := List.mem_map.1 h
  rw [List.mem_range'] at hm
  obtain ⟨i, hi, rfl⟩ := hm
  exact ⟨_, by omega, e.symm⟩
set_option maxRecDepth 100000 in
set_option maxHeartbeats 3200000 in
theorem place32_any (L : List ByteArray) (b o c k : Nat) (x : ByteArray) (w : World) (hc : ∀ j y, L[j]? = some y → w.cell? ⟨b, o + j, none⟩ = some (.string y)) (hl : L.length ≤ 1000) (hk : L[k]? = some x) (hf : ∀ j, j < k → L[j]? ≠ some x) :
    Calls Tryz.prog 32 #[.slice (some ⟨b, o, none⟩) L.length c, .string x] w fun e w' => e = .returned (.int .i64 k) ∧ w' = w := by
  have HC := hid hc
  have HK := hid hk
  have HF := hid hf
  have hkl : k < L.length := (List.getElem?_eq_some_iff.1 hk).1
  clear hc hk hf
  go_enter Tryz.func32, Tryz.ntmps32
  go_wp2
  go_loopw [5] (fun i wr => ∃ j : Nat, j ≤ k ∧ i = .int .i64 j ∧ Hid (wr = w)) (fun i _ => k + 1 - (intOf i).toNat)
  case atStart => exact ⟨0, Nat.zero_le _, rfl, rfl⟩
  case round =>
    obtain ⟨j, hj, rfl, hwr⟩ := hrel
    have hwr2 := hwr.out.symm
    subst hwr2
    clear hwr
    have hjl : j < L.length := by omega
    have hj1 : (j : Int) < (L.length : Int) := by omega
    obtain ⟨y, hy⟩ : ∃ y, L[j]? = some y := ⟨_, List.getElem?_eq_getElem hjl⟩
    have c0 := HC.out j y hy
    by_cases hjk : j = k
    · subst hjk
      have e : y = x := by
        have := hy.symm.trans HK.out
        simpa using this
      subst e
      clear hy
      go_wp2
      go_ret
      exact ⟨rfl, rfl⟩
    · have hyx : ¬ y = x := fun e => HF.out j (by omega) (by rw [hy, e])
      have hyb : (y.toList == x.toList) = false := by rw [eq_bytes]; simp [hyx]
      clear hy
      go_wp2
      go_roundw
      case rel => exact ⟨j + 1, by omega, by go_num, trivial⟩
      case measure => simp [intOf]; omega
end Go.Proofs.YtgdfipmdmgkidaaGreatDoor

/- alike: two repositories have the same patches, and keep the same. -/
namespace Go.Proofs.YtgdfipmdmgkidaaGreatDoor
open Go.RowKit
theorem RG.lg {w : World} {B rb pb rg : Nat} {cap : Cfg} {gb fb n : Nat} {Ps : List PM} {f : ByteArray → Option ByteArray} {s : ByteArray → PL} {G : List Pid} (h : RG w B rb pb rg cap gb fb n Ps f s G) :
    Calls Tryz.prog 27 #[.pointer (some ⟨rb, 0, none⟩), .int .i64 cap.r, .string wdLog] w fun e w' => ∃ ao c, e = .returned (.tuple #[.slice ao Ps.length c, .bool true]) ∧ w'.ownsRow w.heap.size 9 1 (.slice ao Ps.length c) Ps.length (strs (texts Ps)) ∧ Below w.heap.size w w' := by
  have hl := h.uw.hw.len
  have := run_ids h wdLog (Ps.map (·.id)) (by rw [List.length_map]; omega) h.uw.log
  refine this.mono ?_
  rintro e w' ⟨v, rfl, hown, hb⟩
  have e1 : ((Ps.map (·.id)).map idText).length = Ps.length := by simp
  rw [e1] at hown
  obtain ⟨ao, c, rfl⟩ := own_shape hown
  exact ⟨ao, c, rfl, hown, hb⟩
theorem texts_find {Qs : List PM} {i : Pid} (h : i ∈ Qs.map (·.id)) : ∃ k, k < Qs.length ∧ (texts Qs)[k]? = some (idText i) ∧ ∀ j, j < k → (texts Qs)[j]? ≠ some (idText i) := by
  have hm : idText i ∈ texts Qs := List.mem_map.2 ⟨i, h, rfl⟩
  obtain ⟨k, hk⟩ : ∃ k, (texts Qs).findIdx? (fun y => decide (y = idText i)) = some k := by
    cases hf : (texts Qs).findIdx? (fun y => decide (y = idText i)) with
    | none =>
      rw [List.findIdx?_eq_none_iff] at hf
      have := hf _ hm
      simp at this
    | some k => exact ⟨k, rfl⟩
  rw [List.findIdx?_eq_some_iff_getElem] at hk
  obtain ⟨h1, h2, h3⟩ := hk
  refine ⟨k, by rwa [texts_len] at h1, by rw [List.getElem?_eq_getElem h1]; simpa using h2, fun j hj e => ?_⟩
  have h4 := h3 j hj
  rw [List.getElem?_eq_getElem (by omega)] at e
  simp at e
  simp [e] at h4
set_option maxRecDepth 100000 in
set_option maxHeartbeats 6400000 in
theorem alike33_true {w : World} {B rb pb rg : Nat} {c c' : Cfg} {gb fb fb' n : Nat} {Ps Qs : List PM} {f f' : ByteArray → Option ByteArray} {s s' : ByteArray → PL} {G : List Pid} (hr : RG w B rb pb rg c gb fb n Ps f s G) (hq : RG w B rb pb rg c' gb fb' n Qs f' s' G) (hlen : Ps.length = Qs.length) (hm : ∀ P ∈ Ps, P.id ∈ Qs.map (·.id)) (hk : keptX s 3 = keptX s' 3) :
    Calls Tryz.prog 33 #[.pointer (some ⟨rb, 0, none⟩), .int .i64 c.r, .int .i64 c'.r] w fun e w' => e = .returned (.bool true) ∧ Below w.heap.size w w' := by
  obtain ⟨m, hm0⟩ : ∃ m, Ps.length = m := ⟨_, rfl⟩
  have hml : m ≤ 40 := by rw [← hm0]; exact hr.uw.hw.len
  have HLA := hr.lg
  rw [hm0] at HLA
  have HLA := hid HLA
  have HLB : Hid (∀ u, Below w.heap.size w u → Calls Tryz.prog 27 #[.pointer (some ⟨rb, 0, none⟩), .int .i64 c'.r, .string wdLog] u fun e w' => ∃ ao cc, e = .returned (.tuple #[.slice ao m cc, .bool true]) ∧ w'.ownsRow u.heap.size 9 1 (.slice ao m cc) m (strs (texts Qs)) ∧ Below u.heap.size u w') := fun u hu => by
    have := (hq.below hu).lg
    rw [← hlen, hm0] at this
    exact this
  obtain ⟨Y, hY⟩ : ∃ Y, keptX s 3 = Y := ⟨_, rfl⟩
  have hYl : Y.length = 3 := by rw [← hY]; simp [keptX]
  have HKA : Hid (∀ u, Below w.heap.size w u → Calls Tryz.prog 26 #[.pointer (some ⟨rb, 0, none⟩), .int .i64 c.r] u fun e w' => ∃ ao cc, e = .returned (.slice ao 3 cc) ∧ w'.ownsRow u.heap.size 9 1 (.slice ao 3 cc) 3 (strs Y) ∧ Below u.heap.size u w') := fun u hu => by
    have := run_kept (hr.below hu)
    rw [hY, hYl] at this
    refine this.mono ?_
    rintro e w' ⟨v, rfl, hown, hb⟩
    obtain ⟨ao, cc, rfl⟩ := own_shape hown
    exact ⟨ao, cc, rfl, hown, hb⟩
  have HKB : Hid (∀ u, Below w.heap.size w u → Calls Tryz.prog 26 #[.pointer (some ⟨rb, 0, none⟩), .int .i64 c'.r] u fun e w' => ∃ ao cc, e = .returned (.slice ao 3 cc) ∧ w'.ownsRow u.heap.size 9 1 (.slice ao 3 cc) 3 (strs Y) ∧ Below u.heap.size u w') := fun u hu => by
    have := run_kept (hq.below hu)
    rw [← hk, hY, hYl] at this
    refine this.mono ?_
    rintro e w' ⟨v, rfl, hown, hb⟩
    obtain ⟨ao, cc, rfl⟩ := own_shape hown
    exact ⟨ao, cc, rfl, hown, hb⟩
  have HF : Hid (∀ (j : Nat) (P : PM), Ps[j]? = some P → ∃ k, k < m ∧ (texts Qs)[k]? = some (idText P.id) ∧ ∀ i, i < k → (texts Qs)[i]? ≠ some (idText P.id)) := fun j P hj => by
    rw [← hm0, hlen]
    exact texts_find (hm P (List.mem_of_getElem? hj))
  have HQL : Hid ((texts Qs).length = m) := by show _ = _; rw [texts_len, ← hlen, hm0]
  have HPL := hid hm0
  obtain ⟨rr, hrr⟩ : ∃ rr : Int, (c.r : Int) = rr := ⟨_, rfl⟩
  obtain ⟨qq, hqq⟩ : ∃ qq : Int, (c'.r : Int) = qq := ⟨_, rfl⟩
  rw [hrr] at HLA HKA ⊢
  rw [hqq] at HLB HKB ⊢
  clear hr hq hlen hm hk hm0 hY hrr hqq
  go_enter Tryz.func33, Tryz.ntmps33
  go_wp2_with fail
  refine HLA.out.mono ?_
  rintro e w1 ⟨aa, ac, rfl, ha, hb1⟩
  have HA := hid ha
  have HB1 := hid hb1
  have HL2 := hid (HLB.out w1 hb1)
  clear HLA HLB ha
  go_wp2_with fail
  refine HL2.out.mono ?_
  rintro e w2 ⟨ba, bc, rfl, hbo, hb2⟩
  have hb02 : Below w.heap.size w w2 := hb1.trans (hb2.mono hb1.size)
  have HA2 := hid (own_below HA.out hb2 (Nat.le_refl _))
  have HBO := hid hbo
  have HB2 := hid hb02
  clear HL2 HA hbo hb1 hb2 hb02
  go_wp2_with fail
  go_loopw [11] (fun x wr => ∃ j : Nat, j ≤ m ∧ x = .int .i64 j ∧ Hid (wr = w2)) (fun x _ => m - (intOf x).toNat)
  case atStart => exact ⟨0, Nat.zero_le _, rfl, rfl⟩
  case round =>
    obtain ⟨j, hj, rfl, hwr⟩ := hrel
    have hwr2 := hwr.out.symm
    subst hwr2
    clear hwr
    by_cases hlt : j < m
    · obtain ⟨P, hP⟩ : ∃ P, Ps[j]? = some P := ⟨_, List.getElem?_eq_getElem (by rw [HPL.out]; exact hlt)⟩
      obtain ⟨k, hkm, hk1, hk2⟩ := HF.out j P hP
      obtain ⟨ga, rfl, _, _⟩ := own_at HA2.out (by omega)
      obtain ⟨gq, rfl, _, _⟩ := own_at HBO.out (by omega)
      have ca := texts_cell HA2.out hP hlt
      have HPC : Hid (Calls Tryz.prog 32 #[.slice (some ⟨gq, 0, none⟩) m bc, .string (idText P.id)] w2 fun e w' => e = .returned (.int .i64 k) ∧ w' = w2) := by
        have := place32_any (texts Qs) gq 0 bc k (idText P.id) w2 (fun i y hy => by
          have hi : i < m := by rw [← HQL.out]; exact (List.getElem?_eq_some_iff.1 hy).1
          rw [Nat.zero_add, HBO.out.cellAt i (by omega)]
          unfold strs
          rw [List.getElem?_map, hy]
          rfl) (by rw [HQL.out]; omega) hk1 hk2
        rw [HQL.out] at this
        exact this
      have q1 : (j : Int) < (m : Int) := by omega
      clear hP hk1 hk2
      go_wp2_with fail
      refine HPC.out.mono ?_
      rintro e w' ⟨rfl, rfl⟩
      clear HPC
      go_wp2
      go_roundw
      case rel => exact ⟨j + 1, by omega, by go_num, trivial⟩
      case measure => simp [intOf]; omega
    · have e : j = m := by omega
      subst e
      have HK1 := hid (HKA.out w2 HB2.out)
      go_wp2_with fail
      refine HK1.out.mono ?_
      rintro e w3 ⟨ka, kc, rfl, hka, hb3⟩
      have hb03 : Below w.heap.size w w3 := HB2.out.trans (hb3.mono HB2.out.size)
      have HKO := hid hka
      have HK2 := hid (HKB.out w3 hb03)
      clear HK1 HKA HKB hka
      go_wp2_with fail
      refine HK2.out.mono ?_
      rintro e w4 ⟨la, lc, rfl, hla, hb4⟩
      have hb04 : Below w.heap.size w w4 := hb03.trans (hb4.mono hb03.size)
      have HSM := hid (same21_any hYl (own_below HKO.out hb4 (Nat.le_refl _)) hla (by omega))
      clear HK2 HKO hla
      go_wp2_with fail
      refine HSM.out.mono ?_
      rintro e w5 ⟨rfl, hb5⟩
      clear HSM
      go_wp2
      go_ret
      exact ⟨rfl, hb04.trans (hb5.mono hb04.size)⟩
end Go.Proofs.YtgdfipmdmgkidaaGreatDoor

/- Repositories that are looked at in turn; a repository that takes another's patches, one by one. -/
namespace Go.Proofs.YtgdfipmdmgkidaaGreatDoor
open Go.RowKit
theorem find_here {Ps : List PM} (hnd : (Ps.map (·.id)).Nodup) {k : Nat} {P : PM} (hk : Ps[k]? = some P) : (Ps.findIdx? fun R => decide (R.id = P.id)) = some k := by
  obtain ⟨hl, hP⟩ := List.getElem?_eq_some_iff.1 hk
  rw [List.findIdx?_eq_some_iff_getElem]
  refine ⟨hl, by rw [hP]; simp, fun j hj => ?_⟩
  simp only [decide_eq_true_eq]
  intro e
  have h1 : (Ps.map (·.id))[j]'(by simp; omega) = (Ps.map (·.id))[k]'(by simpa using hl) := by
    rw [List.getElem_map, List.getElem_map, hP, e]
  have := (List.getElem_inj hnd).1 h1
  omega
theorem keptO_nil : (fun _ => none : ByteArray → Option ByteArray) = keptO (fun _ => pl0) := by
  funext x
  simp [keptO, pl0]
section
variable {w : World} {B rb pb rg : Nat} {c : Cfg} {gb fb n : Nat} {Q : List PM} {f : ByteArray → Option ByteArray} {t : ByteArray → PL} {G : List Pid}
theorem RG.look (h : RG w B rb pb rg c gb fb n Q f t G) {i : Nat} (hi : c.oth i) {s : ByteArray → PL} (hw : HWt (c.rep i).Ps s) (hf : ∀ x, ((c.rep i).f x).isSome = true → x ∈ names3) :
    ∃ c', c'.r = i ∧ c'.nr = c.nr ∧ (∃ pv, c'.rep c.r = ⟨pv, Q, fb, 3, f⟩) ∧ (∀ j, j ≠ c.r → c'.rep j = c.rep j) ∧ RG w B rb pb rg c' gb (c.rep i).fb n (c.rep i).Ps (c.rep i).f s G := by
  obtain ⟨pv, h1⟩ := h.uw.one
  exact ⟨c.turn i ⟨pv, Q, fb, 3, f⟩, rfl, rfl, ⟨pv, c.turn_old i _⟩, fun j hj => Cfg.turn_other hj, ⟨hw, hf, _, (h1.turn hi).few (N := names3) hf⟩, h.run⟩
end
theorem RW.rg_ {w : World} {B rb pb rg : Nat} {cap : Cfg} {gb fb n : Nat} {Ps : List PM} {f : ByteArray → Option ByteArray} {s : ByteArray → PL} (h : RW w B rb pb rg cap gb fb n Ps f s) : RG w B rb pb rg cap gb fb n Ps f s (idsTo n) := ⟨h.uw.uh, h.run⟩
theorem RG.moved {w w' : World} {B rb pb rg : Nat} {c : Cfg} {gb fb n : Nat} {Q Q' : List PM} {f f' : ByteArray → Option ByteArray} {t t' : ByteArray → PL} {G : List Pid} (h : RG w B rb pb rg c gb fb n Q f t G) (hu : UH w' B pb rg c gb fb Q' f' t' G) (hh : HeldT kin w w') : RG w' B rb pb rg c gb fb n Q' f' t' G :=
  ⟨hu, (hh.keep _ _ ⟨_, _, h.run⟩ (.inr rfl)).trans h.run⟩
structure SmI (w : World) (B rb pb rg : Nat) (c : Cfg) (gb fb n : Nat) (Ps Q : List PM) (t : ByteArray → PL) : Prop where
  rg : RG w B rb pb rg c gb fb n Q (keptO t) t (idsTo n)
  sub : ∀ P ∈ Q, P ∈ Ps
  beh : Behind Ps Q
section
variable {w : World} {B rb pb rg : Nat} {c : Cfg} {gb fb n : Nat} {Ps Q : List PM} {s t : ByteArray → PL}
theorem SmI.below (h : SmI w B rb pb rg c gb fb n Ps Q t) {w' : World} (hb : Below w.heap.size w w') : SmI w' B rb pb rg c gb fb n Ps Q t := ⟨h.rg.below hb, h.sub, h.beh⟩
theorem SmI.one (h : SmI w B rb pb rg c gb fb n Ps Q t) {d : Nat} (hd : c.oth d) (hd3 : d < 3) (hP : (c.rep d).Ps = Ps) (hw : HWt Ps s) {k m : Nat} {P : PM} (hk : Ps[k]? = some P) (hm : m < 42) (hid : P.id = idN m) :
    Calls Tryz.prog 17 #[.pointer (some ⟨pb, 0, none⟩), .int .i64 c.r, .string (pullSp d ++ idW m)] w fun e w' => ∃ T, e = .returned (.tuple #[.string T, .int .i64 0]) ∧ (∃ Q' t', SmI w' B rb pb rg c gb fb n Ps Q' t' ∧ P ∈ Q') ∧ Below B w w' ∧ HeldT kin w w' := by
  have hsub : ∀ R ∈ lastWith (Ps.take (k + 1)), R ∈ Ps := fun R hR => List.mem_of_mem_take ((lastWith_sub _).subset hR)
  have hnd : (lastWith (Ps.take (k + 1))).Nodup := (lastWith_sub _).nodup ((List.take_sublist _ _).nodup (hist_nodup hw.hist))
  obtain ⟨t', hC, h1, h2, _⟩ := hw.took h.rg.uw.hw h.sub h.beh (lastWith_behind hw.hist (k + 1)) hsub hnd
  have hf := find_here hw.hist.nd hk
  rw [hid] at hf
  have hmem : P ∈ Q ++ missP Q (lastWith (Ps.take (k + 1))) := by
    refine miss_all hw.hist.nd h.sub hsub P ?_
    rw [List.take_add_one, hk]
    exact lastWith_last
  have key := h.rg.uw.pull_one hd hd3 hm (k := k) (t' := t') (by rw [hP]; exact hf) (by rw [hP]; exact hC) (by rw [hP]; exact hw.len) (by rw [hP]; exact hw.sm)
  rw [hP] at key
  refine key.mono ?_
  rintro e w' ⟨T, rfl, k1, k2, k3⟩
  exact ⟨T, rfl, ⟨_, t', ⟨h.rg.moved k1 k3, h1, h2⟩, hmem⟩, k2, k3⟩
theorem SmI.all (h : SmI w B rb pb rg c gb fb n Ps Q t) {d : Nat} (hd : c.oth d) (hd3 : d < 3) (hP : (c.rep d).Ps = Ps) (hw : HWt Ps s) :
    Calls Tryz.prog 17 #[.pointer (some ⟨pb, 0, none⟩), .int .i64 c.r, .string (pullHead d)] w fun e w' => ∃ T, e = .returned (.tuple #[.string T, .int .i64 0]) ∧ (∃ Q', SmI w' B rb pb rg c gb fb n Ps Q' s ∧ Q'.Perm Ps) ∧ Below B w w' ∧ HeldT kin w w' := by
  obtain ⟨t', hC, h1, h2, h3⟩ := hw.took h.rg.uw.hw h.sub h.beh hw.hist.behind (fun _ hR => hR) (hist_nodup hw.hist)
  obtain ⟨rfl, hp⟩ := h3 (fun _ hR => hR)
  have key := h.rg.uw.pull_all hd hd3 (t' := t') (by rw [hP]; exact hC) (by rw [hP]; exact hw.len)
  rw [hP] at key
  refine key.mono ?_
  rintro e w' ⟨T, rfl, k1, k2, k3⟩
  exact ⟨T, rfl, ⟨_, ⟨h.rg.moved k1 k3, h1, h2⟩, hp⟩, k2, k3⟩
end
end Go.Proofs.YtgdfipmdmgkidaaGreatDoor
