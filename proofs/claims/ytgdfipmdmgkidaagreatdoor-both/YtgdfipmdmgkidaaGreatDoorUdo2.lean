/- Record and unrecord on a world of one repository. -/
import Derived.Test.YtgdfipmdmgkidaaGreatDoorQhw
import Derived.Test.YtgdfipmdmgkidaaGreatDoorUrecn
namespace Go.Proofs.YtgdfipmdmgkidaaGreatDoor
open Go.RowKit
theorem do_record3 {w : World} {B pb rg : Nat} {cap : Cfg} {gb : Nat} {pv : Value} {Ps : List PM} {fb fn : Nat} {f : ByteArray → Option ByteArray} {G : List Pid} (h : OneAt w B pb rg cap gb pv Ps fb fn f G) (s : ByteArray) (a b c d : UInt8) (x : ByteArray) (hs : wordsOk s = true ∧ splitAll s = [wdRecord, ⟨#[a, b, c, d]⟩, x]) (cd : Int) (Q : ByteArray → World → Prop)
    (hR : ∀ u nb no nc, Below w.heap.size w u → u.cell? ⟨nb, no, none⟩ = some (.string x) → nb < u.heap.size → Calls Tryz.prog 72 #[.pointer (some ⟨pb, 0, none⟩), .pointer (some ⟨rg, cap.r * 2, none⟩), .agg #[.int .u8 a.toNat, .int .u8 b.toNat, .int .u8 c.toNat, .int .u8 d.toNat], .slice (some ⟨nb, no, none⟩) 1 nc] u fun e w' => ∃ x, e = .returned (.tuple #[.string x, .int .i64 cd]) ∧ Q x w' ∧ HeldT (· = 9) u w') :
    Calls Tryz.prog 17 #[.pointer (some ⟨pb, 0, none⟩), .int .i64 cap.r, .string s] w fun e w' => ∃ x, e = .returned (.tuple #[.string x, .int .i64 cd]) ∧ Q x w' := by
  refine (do12_any h s hs.1 (fun x c w' => c = cd ∧ Q x w') (fun u va vc hu ho => ?_)).mono ?_
  · rw [hs.2] at ho ⊢
    obtain ⟨wb, rfl, htb, hcap, hcl⟩ := words_at ho (by simp)
    have h0 := hcl 0 (by simp)
    have h1 := hcl 1 (by simp)
    have h2 := hcl 2 (by simp)
    refine (carry45_record3 pb rg (cap.r * 2) wb 0 vc a b c d u cd Q h0 h1 htb hcap (fun u' hu' => hR u' wb 2 (vc - 2) (hu.trans (hu'.mono hu.size)) ((hu'.cell (p := ⟨wb, 2, none⟩) htb.lt).trans h2) (by have := htb.lt; have := hu'.size; omega))).mono ?_
    rintro e w' ⟨x, rfl, hq⟩
    exact ⟨x, cd, rfl, rfl, hq⟩
  · rintro e w' ⟨x, c, rfl, rfl, hq⟩
    exact ⟨x, rfl, hq⟩
section
variable {w : World} {B pb rg : Nat} {cap : Cfg} {gb fb : Nat} {Ps : List PM} {f : ByteArray → Option ByteArray} {s : ByteArray → PL} {G : List Pid}
theorem UW.record_clean (h : UW w B pb rg cap gb fb Ps f s G) {n : Nat} (hn : n ≤ 41) (hG : G.length < 40) (hiG : idN n ∉ G) (hne : chgOf f s (K0 f s) = []) :
    Calls Tryz.prog 17 #[.pointer (some ⟨pb, 0, none⟩), .int .i64 cap.r, .string (recHead ++ idW n)] w fun e w' => ∃ T, e = .returned (.tuple #[.string T, .int .i64 9]) ∧ T = ⟨#[]⟩ ∧ Below w.heap.size w w' := by
  obtain ⟨pv, h1⟩ := h.one
  obtain ⟨st, cnt, hS, hse, _, _, hl, _⟩ := h.fs.rep
  obtain ⟨i1, i2, i3, _⟩ := ids_words n (List.mem_range.2 (by omega))
  refine (do_record h1 (recHead ++ idW n) (uc n 0) (uc n 1) (uc n 2) (uc n 3) ⟨i2, by rw [i3, i1]⟩ 9 (fun T w' => T = ⟨#[]⟩ ∧ Below w.heap.size w w') (fun u na nc hu => ?_)).mono (fun e w' ⟨x, k1, k2⟩ => ⟨x, k1, k2⟩)
  have hR := h.fs.recs
  rw [← hse] at hR
  refine (record53_clean B pb rg cap gb pv Ps fb 3 f G st cnt (idN n) na nc u (h1.below hu) hS (Nat.le_trans h.lo hu.size) hl (by omega) (idN_ok n) hiG hG hR (fun K hK => ?_)).mono ?_
  · rw [hse] at hK ⊢
    have e := h.fs.all_eq hK
    subst e
    exact hne
  · rintro e w' ⟨rfl, hb⟩
    exact ⟨_, rfl, ⟨rfl, hu.trans (hb.mono hu.size)⟩, HeldT.of_below hb⟩
theorem UW.record_full (h : UW w B pb rg cap gb fb Ps f s G) {n : Nat} (hn : n ≤ 41) (hG : 40 ≤ G.length) (hiG : idN n ∉ G) :
    Calls Tryz.prog 17 #[.pointer (some ⟨pb, 0, none⟩), .int .i64 cap.r, .string (recHead ++ idW n)] w fun e w' => ∃ T, e = .returned (.tuple #[.string T, .int .i64 4]) ∧ T = ⟨#[]⟩ ∧ Below w.heap.size w w' := by
  obtain ⟨pv, h1⟩ := h.one
  obtain ⟨st, cnt, hS, hse, _, _, hl, _⟩ := h.fs.rep
  obtain ⟨i1, i2, i3, _⟩ := ids_words n (List.mem_range.2 (by omega))
  refine (do_record h1 (recHead ++ idW n) (uc n 0) (uc n 1) (uc n 2) (uc n 3) ⟨i2, by rw [i3, i1]⟩ 4 (fun T w' => T = ⟨#[]⟩ ∧ Below w.heap.size w w') (fun u na nc hu => ?_)).mono (fun e w' ⟨x, k1, k2⟩ => ⟨x, k1, k2⟩)
  have hc : ∀ c, MayR G f (st Ps.length 0) (idN n) [] c → c = 4 := fun c hc => by
    rcases hc with ⟨hh, _⟩ | ⟨_, _, rfl⟩ | ⟨_, hh, _⟩ | ⟨_, hh, _⟩
    · exact absurd hh hiG
    · rfl
    · omega
    · omega
  refine (record72_no B pb rg cap gb pv Ps fb 3 f G st cnt (idN n) na 0 nc [] u (h1.below hu) hS (Nat.le_trans h.lo hu.size) hl (by omega) (idN_ok n) (.inl rfl) rfl (by simp) (by simp) (fun c h2 => by rw [hc c h2]; decide)).mono ?_
  rintro e w' ⟨c, rfl, hm, hb⟩
  rw [hc c hm]
  exact ⟨_, rfl, ⟨rfl, hu.trans (hb.mono hu.size)⟩, HeldT.of_below hb⟩
def RecA (w w' : World) (B pb rg : Nat) (cap : Cfg) (gb fb : Nat) (Ps : List PM) (f : ByteArray → Option ByteArray) (s : ByteArray → PL) (G : List Pid) (n : Nat) (Fs : List Fl) (one : Bool) (T : ByteArray) (c : Int) : Prop :=
  (c = 0 ∧ n ≤ 40 ∧ Recd w w' B pb rg cap gb fb Ps f s G (idN n) Fs T) ∨ (T = ⟨#[]⟩ ∧ Below w.heap.size w w' ∧ ((c = 9 ∧ Fs = []) ∨ (c = 4 ∧ n = 41) ∨ (c = 5 ∧ one = true)))
theorem UW.record0 (h : UW w B pb rg cap gb fb Ps f s G) {n : Nat} (h1n : 1 ≤ n) (hn : n ≤ 41) (hG : G = idsTo n) (hP : ∀ P ∈ Ps, P.id ∈ G) :
    Calls Tryz.prog 17 #[.pointer (some ⟨pb, 0, none⟩), .int .i64 cap.r, .string (recHead ++ idW n)] w fun e w' => ∃ T c, e = .returned (.tuple #[.string T, .int .i64 c]) ∧ RecA w w' B pb rg cap gb fb Ps f s G n (chgOf f s (K0 f s)) false T c := by
  have hiG : idN n ∉ G := by rw [hG]; exact idsTo_fresh h1n hn
  have hl : G.length = n - 1 := by rw [hG, idsTo_len]
  by_cases h4 : n = 41
  · refine (h.record_full hn (by omega) hiG).mono ?_
    rintro e w' ⟨T, rfl, h2, h3⟩
    exact ⟨T, 4, rfl, .inr ⟨h2, h3, .inr (.inl ⟨rfl, h4⟩)⟩⟩
  · by_cases hne : chgOf f s (K0 f s) = []
    · refine (h.record_clean hn (by omega) hiG hne).mono ?_
      rintro e w' ⟨T, rfl, h2, h3⟩
      exact ⟨T, 9, rfl, .inr ⟨h2, h3, .inl ⟨rfl, hne⟩⟩⟩
    · refine (h.record_yes h1n (by omega) (by omega) hiG hP hne).mono ?_
      rintro e w' ⟨T, rfl, h2⟩
      exact ⟨T, 0, rfl, .inl ⟨rfl, by omega, h2⟩⟩
theorem UW.record1 (h : UW w B pb rg cap gb fb Ps f s G) {n : Nat} (h1n : 1 ≤ n) (hn : n ≤ 41) (hG : G = idsTo n) (hP : ∀ P ∈ Ps, P.id ∈ G) {x : ByteArray} (hx : x ∈ names3) :
    Calls Tryz.prog 17 #[.pointer (some ⟨pb, 0, none⟩), .int .i64 cap.r, .string (recHead ++ idW n ++ (spB ++ x))] w fun e w' => ∃ T c, e = .returned (.tuple #[.string T, .int .i64 c]) ∧ RecA w w' B pb rg cap gb fb Ps f s G n (chgOf f s [x]) true T c := by
  obtain ⟨pv, h1⟩ := h.one
  obtain ⟨st, cnt, hS, hse, _, _, hl, _⟩ := h.fs.rep
  have hiG : idN n ∉ G := by rw [hG]; exact idsTo_fresh h1n hn
  have hGl : G.length = n - 1 := by rw [hG, idsTo_len]
  have hPl : Ps.length ≤ n - 1 := by rw [← hGl]; exact few_ids h.fs hP
  obtain ⟨i1, _⟩ := ids_words n (List.mem_range.2 (by omega))
  obtain ⟨j2, j3⟩ := ids_words3 n (List.mem_range.2 (by omega)) x hx
  have hw3 : wordsOk (recHead ++ idW n ++ (spB ++ x)) = true ∧ splitAll (recHead ++ idW n ++ (spB ++ x)) = [wdRecord, ⟨#[uc n 0, uc n 1, uc n 2, uc n 3]⟩, x] := ⟨j2, by rw [j3, i1]⟩
  have hvw : ∀ (u : World) (nb no : Nat), u.cell? ⟨nb, no, none⟩ = some (.string x) → nb < u.heap.size → View u (some ⟨nb, no, none⟩) [x] := fun u nb no hc hlt => .inr ⟨nb, no, rfl, hlt, fun k hk => by
    have : k = 0 := by simp at hk; omega
    subst this
    exact hc⟩
  have hsz : ∀ z ∈ [x], z.size ≤ 1000 ∧ (st Ps.length 0 z).S.length ≤ 1000000 ∧ (rowText (st Ps.length 0 z).S).size ≤ 1000000000 := fun z hz => by
    rw [List.mem_singleton] at hz
    subst hz
    rw [hse]
    have := (names3_ok z hx).2
    obtain ⟨s1, _, s3, _⟩ := h.fs.sizes z
    exact ⟨by omega, by omega, by omega⟩
  by_cases h4 : n = 41
  · have hc : ∀ c, MayR G f (st Ps.length 0) (idN n) [x] c → c = 4 := fun c hc => by
      rcases hc with ⟨hh, _⟩ | ⟨_, _, rfl⟩ | ⟨_, hh, _⟩ | ⟨_, hh, _⟩
      · exact absurd hh hiG
      · rfl
      · omega
      · omega
    refine (do_record3 h1 _ _ _ _ _ x hw3 4 (fun T w' => T = ⟨#[]⟩ ∧ Below w.heap.size w w') (fun u nb no nc hu hcu hlt => ?_)).mono ?_
    · refine (record72_no B pb rg cap gb pv Ps fb 3 f G st cnt (idN n) (some ⟨nb, no, none⟩) 1 nc [x] u (h1.below hu) hS (Nat.le_trans h.lo hu.size) hl (by omega) (idN_ok n) (hvw u nb no hcu hlt) rfl (by simp) hsz (fun c h2 => by rw [hc c h2]; decide)).mono ?_
      rintro e w' ⟨c, rfl, hm, hb⟩
      rw [hc c hm]
      exact ⟨_, rfl, ⟨rfl, hu.trans (hb.mono hu.size)⟩, HeldT.of_below hb⟩
    · rintro e w' ⟨T, rfl, h2, h3⟩
      exact ⟨T, 4, rfl, .inr ⟨h2, h3, .inr (.inl ⟨rfl, h4⟩)⟩⟩
  · by_cases hth : (f x).isSome = true ∨ (s x).alive = true
    · have hok := h.fs.name hx
      rw [← hse] at hok
      have hth' := hth
      rw [← hse] at hth'
      by_cases hne : chgOf f s [x] = []
      · refine (do_record3 h1 _ _ _ _ _ x hw3 9 (fun T w' => T = ⟨#[]⟩ ∧ Below w.heap.size w w') (fun u nb no nc hu hcu hlt => ?_)).mono ?_
        · refine (record72_nclean B pb rg cap gb pv Ps fb 3 f G st cnt (idN n) x nb no nc u (h1.below hu) hS (Nat.le_trans h.lo hu.size) hl (by omega) (idN_ok n) hiG (by omega) hcu hlt hth' hok (by rw [hse]; exact hne)).mono ?_
          rintro e w' ⟨rfl, hb⟩
          exact ⟨_, rfl, ⟨rfl, hu.trans (hb.mono hu.size)⟩, HeldT.of_below hb⟩
        · rintro e w' ⟨T, rfl, h2, h3⟩
          exact ⟨T, 9, rfl, .inr ⟨h2, h3, .inl ⟨rfl, hne⟩⟩⟩
      · have hF := h.fs.chg1 hth
        refine (do_record3 h1 _ _ _ _ _ x hw3 0 (fun T w' => Recd w w' B pb rg cap gb fb Ps f s G (idN n) (chgOf f s [x]) T) (fun u nb no nc hu hcu hlt => ?_)).mono ?_
        · refine (record72_name B pb rg cap gb pv Ps fb 3 f G st cnt (idN n) x nb no nc u (h1.below hu) hS (Nat.le_trans h.lo hu.size) hl (by omega) (idN_ok n) hiG (by omega) hcu hlt hth' hok (by rw [hse]; exact hne) (fun Cs m hM => ?_)).mono ?_
          · rw [hse] at hM ⊢
            exact (h.fs.tells hF hM).1
          · rintro e w' ⟨Cs, m, t, pv', cv, rfl, hM, hT, hO, hb, hh⟩
            rw [hse] at hM hT
            have hto := (h.fs.tells hF hM).2 t hT
            obtain ⟨s', k1, k2, k3, k4, k5⟩ := h.fs.record (by omega) (new_id hP hiG) (ids_zero n (List.mem_range.2 (by omega)) h1n) hF hM cv
            exact ⟨_, rfl, ⟨hto, hto.ne hne, ⟨_, rfl, s', UW.of k1 hO, k2, k3, k4, k5, fun hTA => h.fs.told_next hTA hF hM cv, made_of hM⟩, (hu.mono h.lo).trans hb, (HeldT.of_below hu).trans hh⟩, kin9 hh⟩
        · rintro e w' ⟨T, rfl, h2⟩
          exact ⟨T, 0, rfl, .inl ⟨rfl, by omega, h2⟩⟩
    · have hc : ∀ c, MayR G f (st Ps.length 0) (idN n) [x] c → c = 5 := fun c hc => by
        rw [hse] at hc
        rcases hc with ⟨hh, _⟩ | ⟨_, hh, _⟩ | ⟨_, _, _, rfl⟩ | ⟨_, _, hh, _⟩
        · exact absurd hh hiG
        · omega
        · rfl
        · exact absurd (hh x (List.mem_singleton.2 rfl)) hth
      refine (do_record3 h1 _ _ _ _ _ x hw3 5 (fun T w' => T = ⟨#[]⟩ ∧ Below w.heap.size w w') (fun u nb no nc hu hcu hlt => ?_)).mono ?_
      · refine (record72_no B pb rg cap gb pv Ps fb 3 f G st cnt (idN n) (some ⟨nb, no, none⟩) 1 nc [x] u (h1.below hu) hS (Nat.le_trans h.lo hu.size) hl (by omega) (idN_ok n) (hvw u nb no hcu hlt) rfl (by simp) hsz (fun c h2 => by rw [hc c h2]; decide)).mono ?_
        rintro e w' ⟨c, rfl, hm, hb⟩
        rw [hc c hm]
        exact ⟨_, rfl, ⟨rfl, hu.trans (hb.mono hu.size)⟩, HeldT.of_below hb⟩
      · rintro e w' ⟨T, rfl, h2, h3⟩
        exact ⟨T, 5, rfl, .inr ⟨h2, h3, .inr (.inr ⟨rfl, rfl⟩)⟩⟩
end
end Go.Proofs.YtgdfipmdmgkidaaGreatDoor

/- Mathematics: the two first patches of a script; what is told of the three names. -/
namespace Go.Proofs.YtgdfipmdmgkidaaGreatDoor
open Go.RowKit
def tx1 : ByteArray := ⟨#[120, 10, 121, 10, 122, 10]⟩
def tx2 : ByteArray := ⟨#[120, 10, 121]⟩
theorem tx1_ok : TX tx1 := by
  have e : tx1 = catB [⟨#[120, 10]⟩, ⟨#[121, 10]⟩, ⟨#[122, 10]⟩] := by decide +kernel
  rw [e]
  refine TX.cat (fun l hl => ?_) (by simp) (by decide +kernel)
  simp only [List.mem_cons, List.not_mem_nil, or_false] at hl
  unfold eightLines
  rcases hl with rfl | rfl | rfl <;> simp
theorem tx2_ok : TX tx2 := by
  have e : tx2 = joinedB [⟨#[120, 10]⟩, ⟨#[121, 10]⟩] true := by decide +kernel
  rw [e]
  refine TX.joined (fun l hl => ?_) (by simp) (by decide +kernel)
  simp only [List.mem_cons, List.not_mem_nil, or_false] at hl
  unfold eightLines
  rcases hl with rfl | rfl <;> simp
def told1a : ByteArray := ⟨#[97, 100, 100, 32, 97, 10, 43, 120, 10, 43, 121, 10, 43, 122, 10]⟩
def told2b : ByteArray := ⟨#[97, 100, 100, 32, 98, 10, 43, 120, 10, 43, 121, 36, 10]⟩
theorem tell_add {p : PL} {text name T : ByteArray} (h : TellOf p true text name T) (hp : p.alive = false) : T = addHead name ++ ⟨(tellL ⟨#[43]⟩ (cutAll text)).toArray⟩ := by
  rcases h with ⟨_, e⟩ | ⟨a, _⟩ | ⟨a, _⟩
  · exact e
  · rw [hp] at a; cases a
  · rw [hp] at a; cases a
theorem told1_eq : addHead nmA ++ ⟨(tellL ⟨#[43]⟩ (cutAll tx1)).toArray⟩ = told1a := by decide +kernel
theorem told2_eq : addHead nmB ++ ⟨(tellL ⟨#[43]⟩ (cutAll tx2)).toArray⟩ = told2b := by decide +kernel
theorem chg_pick (f : ByteArray → Option ByteArray) (s : ByteArray → PL) : chgOf f s (K0 f s) = (names3.filter fun y => differs f s y && ((f y).isSome || (s y).alive)).map (flOf f) := by
  unfold chgOf K0
  rw [List.filter_filter]
theorem diff_no {f : ByteArray → Option ByteArray} {s : ByteArray → PL} {x : ByteArray} (h : f x = keptO s x) : differs f s x = false := by
  unfold differs flOf keptFl
  rw [h]
  unfold keptO
  by_cases ha : (s x).alive = true
  · simp [ha]
  · simp [ha]
theorem diff_yes {f : ByteArray → Option ByteArray} {s : ByteArray → PL} {x : ByteArray} (h : (f x).isSome = true) (hs : (s x).alive = false) : differs f s x = true := by
  unfold differs flOf keptFl
  simp [h, hs]
theorem nmAB : nmB ≠ nmA := by decide
theorem nmAG : nmG ≠ nmA := by decide
theorem nmBG : nmG ≠ nmB := by decide
theorem chg_only (f : ByteArray → Option ByteArray) (s : ByteArray → PL) {x : ByteArray} (hx : x ∈ names3) (h1 : (f x).isSome = true) (h2 : (s x).alive = false) (h3 : ∀ y ∈ names3, y ≠ x → f y = keptO s y) : chgOf f s (K0 f s) = [flOf f x] := by
  have hy := diff_yes h1 h2
  have hn : ∀ y ∈ names3, y ≠ x → differs f s y = false := fun y m e => diff_no (h3 y m e)
  rw [chg_pick]
  unfold names3 at hx hn ⊢
  simp only [List.mem_cons, List.not_mem_nil, or_false] at hx
  rcases hx with rfl | rfl | rfl
  · have a := hn nmB (by simp) nmAB
    have b := hn nmG (by simp) nmAG
    simp [List.filter, hy, h1, a, b]
  · have a := hn nmA (by simp) nmAB.symm
    have b := hn nmG (by simp) nmBG
    simp [List.filter, hy, h1, a, b]
  · have a := hn nmA (by simp) nmAG.symm
    have b := hn nmB (by simp) nmBG.symm
    simp [List.filter, hy, h1, a, b]
def dash : ByteArray := ⟨#[45]⟩
def keptL (s : ByteArray → PL) (x : ByteArray) : ByteArray := if (s x).alive = true then rowText (s x).S else dash
end Go.Proofs.YtgdfipmdmgkidaaGreatDoor

/- A run's block beside its world; a record in a run. -/
namespace Go.Proofs.YtgdfipmdmgkidaaGreatDoor
open Go.RowKit
structure RW (w : World) (B rb pb rg : Nat) (cap : Cfg) (gb fb n : Nat) (Ps : List PM) (f : ByteArray → Option ByteArray) (s : ByteArray → PL) : Prop where
  uw : UW w B pb rg cap gb fb Ps f s (idsTo n)
  ids : ∀ P ∈ Ps, P.id ∈ idsTo n
  lo : 1 ≤ n
  hi : n ≤ 41
  run : w.heap[rb]? = some (.cells #[.pointer (some ⟨pb, 0, none⟩), .int .i64 n] 53 (0, 0))
  lor : B ≤ rb
structure RunS (rb pb n : Nat) (w : World) : Prop where
  c0 : w.cell? ⟨rb, 0, none⟩ = some (.pointer (some ⟨pb, 0, none⟩))
  c1 : w.cell? ⟨rb, 1, none⟩ = some (.int .i64 n)
theorem run_at {w : World} {rb pb n : Nat} (h : w.heap[rb]? = some (.cells #[.pointer (some ⟨pb, 0, none⟩), .int .i64 n] 53 (0, 0))) : RunS rb pb n w := ⟨by simp [World.cell?, h], by simp [World.cell?, h]⟩
section
variable {w : World} {B rb pb rg : Nat} {cap : Cfg} {gb fb n : Nat} {Ps : List PM} {f : ByteArray → Option ByteArray} {s : ByteArray → PL}
theorem RW.lt (h : RW w B rb pb rg cap gb fb n Ps f s) : rb < w.heap.size := (Array.getElem?_eq_some_iff.1 h.run).1
theorem RW.below (h : RW w B rb pb rg cap gb fb n Ps f s) {w' : World} (hb : Below w.heap.size w w') : RW w' B rb pb rg cap gb fb n Ps f s :=
  ⟨h.uw.below hb, h.ids, h.lo, h.hi, (hb.block _ h.lt).trans h.run, h.lor⟩
theorem RW.at_ (h : RW w B rb pb rg cap gb fb n Ps f s) : RunS rb pb n w := run_at h.run
theorem RW.base (h : RW w B rb pb rg cap gb fb n Ps f s) : B ≤ w.heap.size := h.uw.lo
theorem RW.tb (h : RW w B rb pb rg cap gb fb n Ps f s) : TB w rb 53 := ⟨_, _, h.run⟩
theorem RW.put {w' : World} {f' : ByteArray → Option ByteArray} {s' : ByteArray → PL} (h : RW w B rb pb rg cap gb fb n Ps f s) (hu : UW w' B pb rg cap gb fb Ps f' s' (idsTo n)) (hi : ∀ P ∈ Ps, P.id ∈ idsTo n) (hh : HeldT kin w w') : RW w' B rb pb rg cap gb fb n Ps f' s' :=
  ⟨hu, hi, h.lo, h.hi, (hh.keep _ _ h.tb (.inr rfl)).trans h.run, h.lor⟩
structure RG (w : World) (B rb pb rg : Nat) (cap : Cfg) (gb fb n : Nat) (Ps : List PM) (f : ByteArray → Option ByteArray) (s : ByteArray → PL) (G : List Pid) : Prop where
  uw : UH w B pb rg cap gb fb Ps f s G
  run : w.heap[rb]? = some (.cells #[.pointer (some ⟨pb, 0, none⟩), .int .i64 n] 53 (0, 0))
theorem RG.below {G : List Pid} (h : RG w B rb pb rg cap gb fb n Ps f s G) {w' : World} (hb : Below w.heap.size w w') : RG w' B rb pb rg cap gb fb n Ps f s G :=
  ⟨h.uw.below hb, (hb.block _ (Array.getElem?_eq_some_iff.1 h.run).1).trans h.run⟩
theorem RG.at_ {G : List Pid} (h : RG w B rb pb rg cap gb fb n Ps f s G) : RunS rb pb n w := run_at h.run
theorem own_heldT {w w' : World} {B n size : Nat} {e : TypeId} {v : Value} {xs : List Value} {T : TypeId → Prop} (h : w.ownsRow B e size v n xs) (k : HeldT T w w') (he : T e) : w'.ownsRow B e size v n xs := by
  have ht := fun g hg => own_TB h (g := g) hg
  obtain ⟨h1, h2⟩ := h
  refine ⟨h1, ?_⟩
  rcases h2 with h2 | ⟨g, cp, cur, e1, e2, hg, e3⟩
  · exact .inl h2
  · refine .inr ⟨g, cp, cur, e1, e2, ?_, e3⟩
    rw [k.keep g e (ht g (by rw [e1]; rfl)) he]
    exact hg
theorem OneAt.set53 {pv : Value} {fn : Nat} {G : List Pid} (h : OneAt w B pb rg cap gb pv Ps fb fn f G) {o : Nat} {u : Value} (hb : TB w rb 53) : OneAt (w.setCell ⟨rb, o, none⟩ u) B pb rg cap gb pv Ps fb fn f G := by
  have hbut : But w (w.setCell ⟨rb, o, none⟩ u) rb := (But.refl w rb).set u
  have hh : HeldT (fun t => t ≠ 53) w (w.setCell ⟨rb, o, none⟩ u) := HeldT.of_but hbut hb (fun k => k rfl)
  obtain ⟨l1, l2, l3, l4⟩ := h.lts
  obtain ⟨A, hA, hA2⟩ := h.row
  obtain ⟨rA, rz, hrb⟩ := hb
  have nm : ∀ {m : Nat}, (∃ es c, w.heap[m]? = some (.map es c)) → m ≠ rb := by
    rintro m ⟨es, c, hm⟩ rfl
    rw [hm] at hrb
    cases hrb
  have kg : (w.setCell ⟨rb, o, none⟩ u).heap[gb]? = w.heap[gb]? := hbut.block gb l3 (nm h.given.map)
  have kf : (w.setCell ⟨rb, o, none⟩ u).heap[fb]? = w.heap[fb]? := hbut.block fb l4 (nm h.files.map)
  refine ⟨h.lo, (hh.keep _ 83 ⟨_, _, h.wb⟩ (by decide)).trans h.wb, ⟨A, (hh.keep _ 87 ⟨_, _, hA⟩ (by decide)).trans hA, hA2⟩, h.given.same kg, own_heldT h.own hh (by decide), fun P hP => (h.chs P hP).held (hh.mono (by rintro t (rfl | rfl | rfl) <;> decide)), h.files.same kf, h.ne, h.cap1, fun i hi => ?_⟩
  have hR := h.oths i hi
  refine hR.same (hbut.block _ hR.files.lt (nm hR.files.map)) (fun k hk => hh.keep k 149 (own_TB hR.own hk) (by decide)) (fun P hP => (hR.chs P hP).held (hh.mono (by rintro t (rfl | rfl | rfl) <;> decide))) hR.far
theorem RW.next {w' : World} {P : PM} {s' : ByteArray → PL} (h : RW w B rb pb rg cap gb fb n Ps f s) (hn : n ≤ 40) (hu : UW w' B pb rg cap gb fb (Ps ++ [P]) f s' (idsTo n ++ [idN n])) (hP : P.id = idN n) (_hTA : ToldAll Ps → ToldAll (Ps ++ [P])) (hh : HeldT kin w w') (hb : Below B w w') :
    RW (w'.setCell ⟨rb, 1, none⟩ (.int .i64 (n + 1 : Nat))) B rb pb rg cap gb fb (n + 1) (Ps ++ [P]) f s' ∧ Below B w (w'.setCell ⟨rb, 1, none⟩ (.int .i64 (n + 1 : Nat))) ∧ HeldT (· = 9) w (w'.setCell ⟨rb, 1, none⟩ (.int .i64 (n + 1 : Nat))) := by
  have hr' : w'.heap[rb]? = some (.cells #[.pointer (some ⟨pb, 0, none⟩), .int .i64 n] 53 (0, 0)) := (hh.keep _ _ h.tb (.inr rfl)).trans h.run
  have htb : TB w' rb 53 := ⟨_, _, hr'⟩
  have hbut : But w' (w'.setCell ⟨rb, 1, none⟩ (.int .i64 (n + 1 : Nat))) rb := (But.refl w' rb).set _
  have hlt : rb < w'.heap.size := htb.lt
  refine ⟨⟨?_, ?_, by omega, by omega, ?_, h.lor⟩, ?_, (kin9 hh).trans (HeldT.set htb (by decide) _)⟩
  · obtain ⟨pv, h1⟩ := hu.one
    rw [idsTo_next h.lo]
    exact ⟨hu.fs, pv, h1.set53 htb⟩
  · intro Q hQ
    rw [idsTo_next h.lo]
    rcases List.mem_append.1 hQ with hQ | hQ
    · exact List.mem_append.2 (.inl (h.ids Q hQ))
    · rw [List.mem_singleton.1 hQ, hP]
      simp
  · have e := heap_setCell_same w' rb 1 _ 53 (.int .i64 ((n + 1 : Nat) : Int)) hr'
    rw [e]
    rfl
  · exact hb.trans ⟨hbut.os, hbut.tape, hbut.output, hbut.size, fun k hk => hbut.block k (by have := h.lt; have := h.lor; omega) (by have := h.lor; omega)⟩
end
end Go.Proofs.YtgdfipmdmgkidaaGreatDoor

/- A record in a run. -/
namespace Go.Proofs.YtgdfipmdmgkidaaGreatDoor
open Go.RowKit
theorem toList_nilB : (⟨#[]⟩ : ByteArray).toList = [] := by decide +kernel
theorem app_nilB (b : ByteArray) : b ++ ⟨#[]⟩ = b := ByteArray.ext (by simp)
section
variable {w : World} {B rb pb rg : Nat} {cap : Cfg} {gb fb n : Nat} {Ps : List PM} {f : ByteArray → Option ByteArray} {s : ByteArray → PL}
structure Rec29 (w w' : World) (B rb pb rg : Nat) (cap : Cfg) (gb fb n : Nat) (Ps : List PM) (f : ByteArray → Option ByteArray) (s : ByteArray → PL) (Fs : List Fl) (T : ByteArray) : Prop where
  told : ToldIs s Fs T
  ne : T ≠ ⟨#[]⟩
  st : ∃ (P : PM) (s' : ByteArray → PL), P.id = idN n ∧ RW w' B rb pb rg cap gb fb (n + 1) (Ps ++ [P]) f s' ∧ (∀ g ∈ Fs, (s' g.name).alive = g.there ∧ (g.there = true → rowText (s' g.name).S = g.text)) ∧ (∀ x, (∀ g ∈ Fs, g.name ≠ x) → s' x = s x) ∧ leaveR (Ps ++ [P]) (idN n) = (⟨#[]⟩, 0) ∧ ((Ps ++ [P]).filter fun P => !decide (P.id = idN n)) = Ps ∧ (∀ c ∈ P.Cs, ∃ g ∈ Fs, c.1 = g.name)
  below : Below B w w'
  held : HeldT (· = 9) w w'
def RunA (w w' : World) (B rb pb rg : Nat) (cap : Cfg) (gb fb n : Nat) (Ps : List PM) (f : ByteArray → Option ByteArray) (s : ByteArray → PL) (Fs : List Fl) (one : Bool) (T : ByteArray) : Prop :=
  (n ≤ 40 ∧ Rec29 w w' B rb pb rg cap gb fb n Ps f s Fs T) ∨ (T = ⟨#[]⟩ ∧ Below w.heap.size w w' ∧ (Fs = [] ∨ n = 41 ∨ one = true))
set_option maxRecDepth 100000 in
set_option maxHeartbeats 3200000 in
theorem run_record (h : RW w B rb pb rg cap gb fb n Ps f s) (nm : ByteArray) (hnm : nm.size ≤ 1000) (Fs : List Fl) (one : Bool) (hone : one = true → nm ≠ ⟨#[]⟩)
    (hD : Calls Tryz.prog 17 #[.pointer (some ⟨pb, 0, none⟩), .int .i64 cap.r, .string (recHead ++ idW n ++ nm)] w.drew fun e w' => ∃ T c, e = .returned (.tuple #[.string T, .int .i64 c]) ∧ RecA w.drew w' B pb rg cap gb fb Ps f s (idsTo n) n Fs one T c) :
    Calls Tryz.prog 29 #[.pointer (some ⟨rb, 0, none⟩), .int .i64 cap.r, .string nm] w fun e w' => ∃ T, e = .returned (.tuple #[.string T, .bool true]) ∧ RunA w w' B rb pb rg cap gb fb n Ps f s Fs one T := by
  have HD := hid hD
  have hb0 : Below w.heap.size w w.drew := (Below.refl _ _).drew
  have HH := hid (h.below hb0)
  have HS0 : Hid (RunS rb pb n w.drew) := (h.below hb0).at_
  have HB0 := hid hb0
  have HN := hid hone
  have hn1 := h.hi
  have hn0 := h.lo
  have hsz := h.base
  have hi4 := idW_size hn1
  have z1 : ¬ 9223372036854775807 < 7 + (idW n).size := by omega
  have z2 : ¬ 9223372036854775807 < 7 + (idW n).size + nm.size := by omega
  clear hi4
  clear h hD hb0 hone
  go_enter Tryz.func29, Tryz.ntmps29
  go_wp2_with fail
  refine wp_region_Z (RunS rb pb n) 99 (by kernel_rfl) ?_
  refine zt 0 (v := ?z1) HS0.out (fun w0 hS0 => ?hy) ?_
  case hy => obtain ⟨s1, s2⟩ := hS0; go_simp; with_reducible rfl
  simp only [Act.put, List.setIfInBounds_toArray]
  refine zt 1 (v := ?z2) HS0.out (fun w0 hS0 => ?hy) ?_
  case hy => obtain ⟨s1, s2⟩ := hS0; go_simp; with_reducible rfl
  simp only [Act.put]
  refine zt 2 (v := ?z3) HS0.out (fun w0 hS0 => ?hy) ?_
  case hy => obtain ⟨s1, s2⟩ := hS0; go_simp; with_reducible rfl
  simp only [Act.put]
  refine zt 3 (v := ?z4) HS0.out (fun w0 hS0 => ?hy) ?_
  case hy => obtain ⟨s1, s2⟩ := hS0; go_simp; with_reducible rfl
  simp only [Act.put]
  refine zt 4 (v := ?z5) HS0.out (fun w0 hS0 => ?hy) ?_
  case hy => obtain ⟨s1, s2⟩ := hS0; go_simp; with_reducible rfl
  simp only [Act.put]
  refine zt 5 (v := ?z6) HS0.out (fun w0 hS0 => ?hy) ?_
  case hy => obtain ⟨s1, s2⟩ := hS0; go_simp; with_reducible rfl
  simp only [Act.put]
  refine zt 6 (v := ?z7) HS0.out (fun w0 hS0 => ?hy) ?_
  case hy => obtain ⟨s1, s2⟩ := hS0; go_simp; with_reducible rfl
  simp only [Act.put]
  refine zt 7 (v := ?z8) HS0.out (fun w0 hS0 => ?hy) ?_
  case hy => obtain ⟨s1, s2⟩ := hS0; go_simp; with_reducible rfl
  simp only [Act.put]
  refine zt 8 (v := ?z9) HS0.out (fun w0 hS0 => ?hy) ?_
  case hy => obtain ⟨s1, s2⟩ := hS0; go_simp; with_reducible rfl
  simp only [Act.put]
  refine zt 11 (v := ?z10) HS0.out (fun w0 hS0 => ?hy) ?_
  case hy => obtain ⟨s1, s2⟩ := hS0; go_simp; with_reducible rfl
  simp only [Act.put]
  refine wpZ_one 9 _ rfl (by kernel_rfl) (fun KK hK => ?_)
  go_simp
  refine (kid28_any n (by omega) _).mono ?_
  rintro e w1 ⟨rfl, rfl⟩
  dsimp only
  refine hK.out _ _ (fun _ => HS0.out) ?_
  clear hK
  refine zt 10 (v := ?z11) HS0.out (fun w0 hS0 => ?hy) ?_
  case hy => obtain ⟨s1, s2⟩ := hS0; go_simp; with_reducible rfl
  simp only [Act.put, List.setIfInBounds_toArray]
  refine zt 12 (v := ?z12) HS0.out (fun w0 hS0 => ?hy) ?_
  case hy => obtain ⟨s1, s2⟩ := hS0; go_simp; with_reducible rfl
  simp only [Act.put]
  refine wpZ_one 13 _ rfl (by kernel_rfl) (fun KK hK => ?_)
  go_simp
  refine HD.out.mono ?_
  rintro e w2 ⟨T, c, rfl, hA⟩
  clear HD
  dsimp only
  have hh2 : HeldT kin w.drew w2 := by
    rcases hA with ⟨_, _, hR⟩ | ⟨_, hb, _⟩
    · exact hR.held
    · exact HeldT.of_below hb
  have hr2 := (hh2.keep _ _ HH.out.tb (.inr rfl)).trans HH.out.run
  have hS2 : RunS rb pb n w2 := run_at hr2
  have HS2 := hid hS2
  have HFR := hid (free3 hr2 1)
  have HA := hid hA
  refine hK.out _ _ (fun _ => hS2) ?_
  clear hK hS2 hr2 hh2 hA
  refine zt 14 (v := ?z13) HS2.out (fun w0 hS0 => ?hy) ?_
  case hy => obtain ⟨s1, s2⟩ := hS0; go_simp; with_reducible rfl
  simp only [Act.put, List.setIfInBounds_toArray]
  refine zt 15 (v := ?z14) HS2.out (fun w0 hS0 => ?hy) ?_
  case hy => obtain ⟨s1, s2⟩ := hS0; go_simp; with_reducible rfl
  simp only [Act.put]
  refine zt 16 (v := ?z15) HS2.out (fun w0 hS0 => ?hy) ?_
  case hy => obtain ⟨s1, s2⟩ := hS0; go_simp; with_reducible rfl
  simp only [Act.put]
  refine zt 17 (v := ?z16) HS2.out (fun w0 hS0 => ?hy) ?_
  case hy => obtain ⟨s1, s2⟩ := hS0; go_simp; with_reducible rfl
  simp only [Act.put]
  refine zt 18 (v := ?z17) HS2.out (fun w0 hS0 => ?hy) ?_
  case hy => obtain ⟨s1, s2⟩ := hS0; go_simp; with_reducible rfl
  simp only [Act.put]
  refine wpZ_done (by kernel_rfl) ?_ _
  have hfr := HFR.out
  have hc1 := HS2.out.c1
  have hw1 : IntKind.i64.wrap ((n : Int) + 1) = (n : Int) + 1 := by simp [IntKind.wrap, IntKind.signed, IntKind.bits]; omega
  clear HS2 HFR HS0
  rcases HA.out with ⟨rfl, hn40, hR⟩ | ⟨rfl, hb, hc⟩
  · have hne : ¬ T.toList = [] := fun e => hR.ne ((toList_iff T ⟨#[]⟩).1 (by rw [e, toList_nilB]))
    have hnb : (T.toList == []) = false := by simpa using hne
    have HR := hid hR
    clear HA hR
    go_wp2_with fail
    go_ret2
    obtain ⟨P, hP, s', h1, h2, h3, h4, h5, h6, h7⟩ := HR.out.st
    obtain ⟨k1, k2, k3⟩ := HH.out.next hn40 h1 hP h6 HR.out.held HR.out.below
    have e : ((n + 1 : Nat) : Int) = (n : Int) + 1 := by omega
    rw [e] at k1 k2 k3
    exact ⟨T, rfl, .inl ⟨hn40, HR.out.told, HR.out.ne, ⟨P, s', hP, k1, h2, h3, h4, h5, h7⟩, (HB0.out.mono hsz).trans k2, (HeldT.of_below HB0.out).trans k3⟩⟩
  · have HB : Hid (Below w.heap.size w w2) := HB0.out.trans hb
    have HF : Hid (Fs = [] ∨ n = 41 ∨ one = true) := by
      rcases hc with ⟨_, h⟩ | ⟨_, h⟩ | ⟨_, h⟩
      · exact .inl h
      · exact .inr (.inl h)
      · exact .inr (.inr h)
    rcases hc with ⟨rfl, _⟩ | ⟨rfl, _⟩ | ⟨rfl, ho⟩
    · clear HA hb
      go_wp2_with fail
      go_ret2
      exact ⟨_, rfl, .inr ⟨rfl, HB.out, HF.out⟩⟩
    · clear HA hb
      go_wp2_with fail
      go_ret2
      exact ⟨_, rfl, .inr ⟨rfl, HB.out, HF.out⟩⟩
    · have hnm := HN.out ho
      have hne : ¬ nm.toList = [] := fun e => hnm ((toList_iff nm ⟨#[]⟩).1 (by rw [e, toList_nilB]))
      have hnb : (nm.toList == []) = false := by simpa using hne
      clear HA hb
      go_wp2_with fail
      go_ret2
      exact ⟨_, rfl, .inr ⟨rfl, HB.out, HF.out⟩⟩
theorem run_all (h : RW w B rb pb rg cap gb fb n Ps f s) :
    Calls Tryz.prog 29 #[.pointer (some ⟨rb, 0, none⟩), .int .i64 cap.r, .string ⟨#[]⟩] w fun e w' => ∃ T, e = .returned (.tuple #[.string T, .bool true]) ∧ RunA w w' B rb pb rg cap gb fb n Ps f s (chgOf f s (K0 f s)) false T := by
  refine run_record h ⟨#[]⟩ (by decide) _ false (fun e => by cases e) ?_
  rw [app_nilB]
  exact ((h.below (Below.refl _ _).drew).uw).record0 h.lo h.hi rfl h.ids
theorem run_one (h : RW w B rb pb rg cap gb fb n Ps f s) {x : ByteArray} (hx : x ∈ names3) :
    Calls Tryz.prog 29 #[.pointer (some ⟨rb, 0, none⟩), .int .i64 cap.r, .string (spB ++ x)] w fun e w' => ∃ T, e = .returned (.tuple #[.string T, .bool true]) ∧ RunA w w' B rb pb rg cap gb fb n Ps f s (chgOf f s [x]) true T := by
  refine run_record h (spB ++ x) (by rw [ByteArray.size_append]; have := (names3_ok x hx).2; have e : spB.size = 1 := rfl; omega) _ true (fun _ e => ?_) ?_
  · have := congrArg ByteArray.size e
    rw [ByteArray.size_append] at this
    have e1 : spB.size = 1 := rfl
    have e2 : (⟨#[]⟩ : ByteArray).size = 0 := rfl
    omega
  · exact ((h.below (Below.refl _ _).drew).uw).record1 h.lo h.hi rfl h.ids hx
end
end Go.Proofs.YtgdfipmdmgkidaaGreatDoor

/- The ids of a run's patches; what is kept of the three names, and their files. -/
namespace Go.Proofs.YtgdfipmdmgkidaaGreatDoor
open Go.RowKit
theorem arr_app (x y : List UInt8) : (⟨(x ++ y).toArray⟩ : ByteArray) = ⟨x.toArray⟩ ++ ⟨y.toArray⟩ := ByteArray.ext (by simp)
theorem log_size (ids : List Pid) : (⟨(logL ids).toArray⟩ : ByteArray).size = 5 * ids.length := by
  rw [← logL_len]
  exact List.size_toArray
theorem log_at (ids : List Pid) (k : Nat) (hk : k < ids.length) : (⟨(logL ids).toArray⟩ : ByteArray).extract (5 * k) (5 * k + 4) = idText ids[k] ∧ gb ⟨(logL ids).toArray⟩ (5 * k + 4) = 10 := by
  have hsz := log_size ids
  have e1 : ids = ids.take k ++ (ids[k] :: ids.drop (k + 1)) := by rw [← List.drop_eq_getElem_cons hk, List.take_append_drop]
  have e2 : logL ids = logL (ids.take k) ++ (((idText ids[k]).data.toList ++ [10]) ++ logL (ids.drop (k + 1))) := by
    conv => lhs; rw [e1]
    unfold logL
    rw [List.flatMap_append, List.flatMap_cons]
    rfl
  have hA : (⟨(logL (ids.take k)).toArray⟩ : ByteArray).size = 5 * k := by rw [log_size, List.length_take]; omega
  have hI : (⟨(idText ids[k]).data.toList.toArray⟩ : ByteArray) = idText ids[k] := by simp
  have e3 : (⟨(logL ids).toArray⟩ : ByteArray) = ⟨(logL (ids.take k)).toArray⟩ ++ ((idText ids[k] ++ ⟨#[10]⟩) ++ ⟨(logL (ids.drop (k + 1))).toArray⟩) := by
    rw [e2, arr_app, arr_app, arr_app, hI]
  have h4 := idText_size ids[k]
  have hg : ∀ i, i < 5 → gb (⟨(logL ids).toArray⟩ : ByteArray) (5 * k + i) = gb (idText ids[k] ++ ⟨#[10]⟩) i := fun i hi => by
    rw [e3, ← hA, gb_right, gb_left (by rw [ByteArray.size_append, h4]; show i < 4 + 1; omega)]
  refine ⟨ext_gb (by rw [size_ex _ _ _ (by omega), h4]; omega) fun i hi => ?_, ?_⟩
  · rw [size_ex _ _ _ (by omega)] at hi
    rw [gb_ex _ _ _ _ (by omega) (by omega), hg i (by omega), gb_left (by omega)]
  · rw [hg 4 (by omega)]
    have := gb_right (a := idText ids[k]) (b := ⟨#[10]⟩) 0
    rw [h4] at this
    rw [this]
    rfl
section
variable {w : World} {B rb pb rg : Nat} {cap : Cfg} {gb fb n : Nat} {Ps : List PM} {f : ByteArray → Option ByteArray} {s : ByteArray → PL} {G : List Pid}
set_option maxRecDepth 100000 in
set_option maxHeartbeats 3200000 in
theorem run_ids (h : RG w B rb pb rg cap gb fb n Ps f s G) (cmd : ByteArray) (ids : List Pid) (hl : ids.length ≤ 1000)
    (hD : Calls Tryz.prog 17 #[.pointer (some ⟨pb, 0, none⟩), .int .i64 cap.r, .string cmd] w fun e w' => e = .returned (.tuple #[.string ⟨(logL ids).toArray⟩, .int .i64 0]) ∧ Below w.heap.size w w') :
    Calls Tryz.prog 27 #[.pointer (some ⟨rb, 0, none⟩), .int .i64 cap.r, .string cmd] w fun e w' => ∃ v, e = .returned (.tuple #[v, .bool true]) ∧ w'.ownsRow w.heap.size 9 1 v (ids.map idText).length (strs (ids.map idText)) ∧ Below w.heap.size w w' := by
  obtain ⟨i0, hi, hz0, hz1, hz2⟩ := info_parts Tryz.info9
  have HD := hid hD
  obtain ⟨c0, c1⟩ := h.at_
  obtain ⟨S, hS⟩ : ∃ S : ByteArray, (⟨(logL ids).toArray⟩ : ByteArray) = S := ⟨_, rfl⟩
  have hsz : S.size = 5 * ids.length := by rw [← hS]; exact log_size ids
  have HAT : Hid (∀ k, (hk : k < ids.length) → S.extract (5 * k) (5 * k + 4) = idText ids[k] ∧ Proofs.YtgdfipmdmgkidaaGreatDoor.gb S (5 * k + 4) = 10) := fun k hk => by rw [← hS]; exact log_at ids k hk
  rw [hS] at HD
  have hmod : ((S.size : Int)).tmod 5 = 0 := by rw [hsz, Int.tmod_eq_emod_of_nonneg (by omega)]; omega
  clear h hD hS
  go_enter Tryz.func27, Tryz.ntmps27
  go_wp2_with fail
  refine HD.out.mono ?_
  rintro e w1 ⟨rfl, hb1⟩
  clear HD
  have hs1 := hb1.size
  have HB1 := hid hb1
  clear c0 c1 hb1
  go_wp2_with fail
  go_loopw [10, 11] (fun v i wr => ∃ (k : Nat) (O : List ByteArray), k ≤ ids.length ∧ i = .int .i64 (5 * k : Nat) ∧ Hid (O = (ids.take k).map idText) ∧ Hid (O.length = k) ∧ wr.ownsRow w.heap.size 9 1 v O.length (strs O) ∧ Below w.heap.size w wr) (fun _ i _ => 5 * ids.length - (intOf i).toNat)
  case atStart => exact ⟨0, [], Nat.zero_le _, rfl, rfl, rfl, World.ownsRow_nil _ _ _ _, HB1.out⟩
  case round =>
    obtain ⟨k, O, hk, rfl, HO, HOl, hown, hbw⟩ := hrel
    have hw := hbw.size
    by_cases hlt : k < ids.length
    · obtain ⟨a1, a2⟩ := HAT.out k hlt
      obtain ⟨z, hz⟩ : ∃ z, idText ids[k] = z := ⟨_, rfl⟩
      have HZ := hid hz
      rw [hz] at a1
      have hge : 5 * k + 4 < S.size := by omega
      have h10 : S[5 * k + 4].toNat = 10 := by rw [gb_eq S _ hge]; exact a2
      have hb2 : (((S[5 * k + 4].toNat : Nat) : Int) != 10) = false := by rw [h10]; rfl
      have q1 : IntKind.i64.wrap (((5 * k : Nat) : Int) + 4) = ((5 * k + 4 : Nat) : Int) := by simp [IntKind.wrap, IntKind.signed, IntKind.bits]; omega
      have q2 : IntKind.i64.wrap (((5 * k : Nat) : Int) + 5) = ((5 * (k + 1) : Nat) : Int) := by simp [IntKind.wrap, IntKind.signed, IntKind.bits]; omega
      have q3 : (((5 * k + 4 : Nat) : Int)) < (S.size : Int) := by omega
      have q4 : (((5 * k : Nat) : Int)) < (S.size : Int) := by omega
      have q5 : (((5 * k + 4 : Nat) : Int)) ≤ (S.size : Int) := by omega
      clear a2 hz
      go_wp2_with (at_builtin; refine wpList_append_own _ rfl _ _ 35 rfl w.heap.size 9 i0 (.string ⟨#[]⟩) 1 16 Tryz.underlying35 hi hz0 hz1 hz2 rfl (by decide) _ _ _ rfl (hown.alloc _) ⟨wr.heap.size, 0, none⟩ 1 1 [.string z] rfl rfl ?c1 ?c2 ?c3 ?c4 ?c5 ?_)
      case c1 => exact new_one _ _ _
      case c2 => exact strs_one [_]
      case c3 => have := HOl.out; unfold maxLen; omega
      case c4 => have := HOl.out; omega
      case c5 => simp; omega
      intro v' w2 hown' hg _
      have R := step_own (Nat.le_refl _) hown hbw hw hown' hg
      clear hown' hg hown hbw
      go_wp2
      go_roundw
      case rel =>
        refine ⟨k + 1, O ++ [z], by omega, by go_num, ?_, by show _ = _; rw [List.length_append, HOl.out]; rfl, R.1, R.2.1⟩
        show _ = _
        rw [List.take_succ_eq_append_getElem hlt, List.map_append, ← HO.out, ← HZ.out]
        rfl
      case measure => simp [intOf]; omega
    · have : k = ids.length := by omega
      subst this
      go_wp2
      go_ret2
      have e := HO.out
      rw [List.take_length] at e
      subst e
      exact ⟨_, rfl, hown, hbw⟩
end
end Go.Proofs.YtgdfipmdmgkidaaGreatDoor
