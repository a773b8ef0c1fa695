/- The names of which something is kept; the names of the files; both. -/
import Derived.Test.YtgdfipmdmgkidaaGreatDoorPvals
import Derived.Test.YtgdfipmdmgkidaaGreatDoorDelf
import Derived.Test.YtgdfipmdmgkidaaGreatDoorPmake
import Derived.Test.YtgdfipmdmgkidaaGreatDoorPeq
set_option maxHeartbeats 1600000
set_option maxRecDepth 100000
namespace Go.Proofs.YtgdfipmdmgkidaaGreatDoor
open Go.RowKit Go.Shelf Go.Sort Go.Lib
theorem byt_inj {s t : ByteArray} (h : byt s = byt t) : s = t := bytes_inj h
def Srt (K : List ByteArray) : Prop := K.Pairwise fun a b => byt a < byt b
theorem Srt.ext : ∀ {K K' : List ByteArray}, Srt K → Srt K' → (∀ x, x ∈ K ↔ x ∈ K') → K = K' := by
  intro K K' h h' hm
  have nd : ∀ {L : List ByteArray}, Srt L → L.Nodup := fun hL => hL.imp fun hlt e => by subst e; exact List.lt_irrefl _ hlt
  refine List.Perm.eq_of_pairwise (le := fun a b => byt a ≤ byt b) (fun a b _ _ h1 h2 => byt_inj (List.le_antisymm h1 h2)) (h.imp List.le_of_lt) (h'.imp List.le_of_lt) ?_
  exact (List.perm_ext_iff_of_nodup (nd h) (nd h')).2 hm
theorem Srt.filter {K : List ByteArray} (h : Srt K) (p : ByteArray → Bool) : Srt (K.filter p) := List.Pairwise.filter p h
theorem keys_facts {H : Type} {R : Value → Option (DataW H × List MemPlace)} {w : World} {mb n : Nat} {D : DataW H} (hown : w.ownsMap Tryz.prog 9 R mb n D) : (strKeys D).Nodup ∧ ∀ x : List UInt8, x ∈ strKeys D ↔ Maps.has D (.string x) = true := by
  obtain ⟨es, hD, hpw⟩ := hown.tidy (Maps.string_keyed Tryz.underlying9)
  obtain ⟨es', hD', hko⟩ := hown.keysOf
  obtain rfl : es = es' := by rw [hD] at hD'; simpa using hD'
  have hk : ∀ p ∈ es, ∃ x, p.1 = Lit.string x := fun p hp => by
    obtain ⟨v, hv⟩ := hko p hp
    obtain ⟨x, _, hx, _⟩ := Maps.keyOf_str Tryz.underlying9 hv
    exact ⟨x, hx⟩
  have hnd : (es.map fun p => strOf p.1).Nodup := by
    refine List.pairwise_map.2 (hpw.imp_of_mem fun {p q} hp' hq' hne e => hne ?_)
    obtain ⟨a, ha⟩ := hk p hp'
    obtain ⟨b, hb⟩ := hk q hq'
    rw [ha, hb] at e ⊢
    exact congrArg _ e
  subst hD
  refine ⟨hnd, fun x => ?_⟩
  show x ∈ es.map (fun p => strOf p.1) ↔ _
  rw [List.mem_map, Maps.has_eq, List.any_eq_true]
  constructor
  · rintro ⟨p, hp, rfl⟩
    obtain ⟨y, hy⟩ := hk p hp
    exact ⟨p, hp, by rw [hy]; simp [strOf, Lit.sameKey]⟩
  · rintro ⟨p, hp, he⟩
    obtain ⟨y, hy⟩ := hk p hp
    rw [hy] at he
    exact ⟨p, hp, by rw [hy]; simpa [strOf, Lit.sameKey] using he⟩
theorem of_byt (x : List UInt8) : byt ⟨x.toArray⟩ = x := by simp [byt]
theorem keys_sorted {H : Type} {R : Value → Option (DataW H × List MemPlace)} {w : World} {mb n : Nat} {D : DataW H} (hown : w.ownsMap Tryz.prog 9 R mb n D) {ss : List (List UInt8)} (hp : ss.Perm (strKeys D)) :
    ∃ K : List ByteArray, Srt K ∧ (∀ x, x ∈ K ↔ Maps.has D (kl x) = true) ∧ (ss.mergeSort (fun x y => decide (x ≤ y))).map encStr = strs K ∧ K.length = ss.length ∧ ∀ x ∈ K, x.size ≤ maxLen := by
  obtain ⟨h1, h2⟩ := keys_facts hown
  have hle := strKeys_le hown Tryz.underlying9
  have tr : ∀ a b c : List UInt8, decide (a ≤ b) = true → decide (b ≤ c) = true → decide (a ≤ c) = true := fun a b c h1 h2 => by simp only [decide_eq_true_eq] at *; exact List.le_trans h1 h2
  have to : ∀ a b : List UInt8, (decide (a ≤ b) || decide (b ≤ a)) = true := fun a b => by simp only [Bool.or_eq_true, decide_eq_true_eq]; exact List.le_total a b
  have hpm := (List.mergeSort_perm ss (fun x y => decide (x ≤ y))).trans hp
  have hpw := List.pairwise_mergeSort tr to ss
  have hnd : (ss.mergeSort (fun x y => decide (x ≤ y))).Nodup := hpm.nodup_iff.2 h1
  have hbk : ((ss.mergeSort (fun x y => decide (x ≤ y))).map fun b => (⟨b.toArray⟩ : ByteArray)).map byt = ss.mergeSort (fun x y => decide (x ≤ y)) := by
    rw [List.map_map]
    conv => rhs; rw [← List.map_id (ss.mergeSort _)]
    exact List.map_congr_left fun a _ => of_byt a
  refine ⟨(ss.mergeSort (fun x y => decide (x ≤ y))).map fun b => ⟨b.toArray⟩, ?_, fun x => ?_, ?_, by simp, fun x hx => ?_⟩
  · refine List.pairwise_map.2 ?_
    refine (hpw.and hnd).imp fun {a b} h => ?_
    rw [of_byt, of_byt]
    have h1 := h.1
    rw [decide_eq_true_eq] at h1
    exact List.not_le.1 fun h3 => h.2 (List.le_antisymm h1 h3)
  · rw [List.mem_map]
    have e : kl x = .string (byt x) := rfl
    rw [e, ← h2 (byt x), ← hpm.mem_iff]
    constructor
    · rintro ⟨b, hb, rfl⟩
      rw [of_byt]
      exact hb
    · intro h
      exact ⟨byt x, h, by simp [byt]⟩
  · rw [← enc_strs, hbk]
  · rw [List.mem_map] at hx
    obtain ⟨b, hb, rfl⟩ := hx
    have := hle b (hpm.mem_iff.1 hb)
    simpa [ByteArray.size] using this
theorem FK.size {w : World} {mb n : Nat} {f : ByteArray → Option ByteArray} (h : FK w mb f n) : ∃ D, w.ownsMap Tryz.prog 9 latElem mb n D ∧ ∀ x, Maps.has D (kl x) = (f x).isSome := by
  obtain ⟨D, h1, _, h3⟩ := h
  exact ⟨D, h1, h3⟩
theorem names131_any (f : ByteArray → Option ByteArray) (mb n rb ro : Nat) (w : World) (h : FK w mb f n) (hn : n ≤ 1000000) (hr : w.cell? ⟨rb, ro + 1, none⟩ = some (.map (some mb))) :
    Calls Tryz.prog 168 #[.pointer (some ⟨rb, ro, none⟩)] w fun e w' => ∃ v K, e = .returned v ∧ w'.ownsRow w.heap.size 9 1 v K.length (strs K) ∧ Srt K ∧ (∀ x, x ∈ K ↔ (f x).isSome = true) ∧ K.length ≤ n ∧ Below w.heap.size w w' := by
  obtain ⟨D, hown, hh⟩ := h.size
  have hsz := hown.size_le
  have HK : Hid (Calls Tryz.prog 214 #[.map (some mb)] w fun e w' => e = .returned (.func (.func 246) #[] #[.pointer (some ⟨w.heap.size, 0, none⟩)]) ∧ w' = w.alloc (.cells #[.map (some mb)] 85)) := callsIn_wide.1 (Tryz.maps_Keys_214 _ _)
  have HS : Hid (Calls Tryz.prog 177 #[.func (.func 246) #[] #[.pointer (some ⟨w.heap.size, 0, none⟩)]] (w.alloc (.cells #[.map (some mb)] 85)) fun e w' => ∃ va vn vc K, e = .returned (.slice va vn vc) ∧ w'.ownsRow w.heap.size 9 1 (.slice va vn vc) K.length (strs K) ∧ Srt K ∧ (∀ x, x ∈ K ↔ (f x).isSome = true) ∧ K.length ≤ n ∧ Below w.heap.size w w') := by
    refine (callsIn_wide.1 (Tryz.slices_Sorted_keys_177_214 mb n D latElem w hown (by unfold maxLen; omega) (by omega))).mono ?_
    rintro e w' ⟨v, ss, rfl, hp, hrow, hnil, hb⟩
    obtain ⟨K, k1, k2, k3, k4, _⟩ := keys_sorted hown hp
    have hl : ss.length ≤ n := by rw [hp.length_eq]; exact Nat.le_trans (Nat.le_of_eq (by obtain ⟨es, hD, _⟩ := hown.keysOf; rw [hD]; simp [strKeys, Maps.size])) hsz
    rw [k3, ← k4] at hrow
    obtain ⟨va, vc, rfl⟩ := own_shape hrow
    exact ⟨va, _, vc, K, rfl, ownsRow_mono hrow (by simp), k1, fun x => by rw [k2, hh], by omega, ((Below.refl _ w).alloc (Nat.le_refl _) _).trans (hb.mono (by simp))⟩
  clear hh hown h hsz
  go_enter Tryz.func168, Tryz.ntmps168
  go_wp2_with fail
  refine HK.out.mono ?_
  rintro e w1 ⟨rfl, rfl⟩
  clear HK
  go_wp2_with fail
  refine HS.out.mono ?_
  rintro e w2 ⟨va, vn, vc, K, rfl, h1, h2, h3, h4, h5⟩
  clear HS
  go_wp2
  go_ret
  exact ⟨_, K, rfl, h1, h2, h3, h4, h5⟩
end Go.Proofs.YtgdfipmdmgkidaaGreatDoor
/- The names of which something is kept. -/
namespace Go.Proofs.YtgdfipmdmgkidaaGreatDoor
open Go.RowKit Go.Shelf Go.Sort Go.Lib
abbrev Nm := {x : ByteArray // x.size ≤ maxLen}
instance : Inhabited Nm := ⟨⟨⟨#[]⟩, by decide⟩⟩
def encN (x : Nm) : Value := .string x.1
theorem encN_one : OneCell encN := fun _ => rfl
theorem TreeAt.lookM {w W : World} {mb n : Nat} {st : ByteArray → PL} (h : TreeAt w mb st n) (hb : W.heap[mb]? = w.heap[mb]?) (a : ByteArray) (ha : a.size ≤ maxLen) : ∃ l, (Instr.lookup 119 (.map (some mb)) (.string a) false).run Tryz.prog W = .ok (latV l) W ∧ LatIs l (st a) := by
  obtain ⟨f, has, D, ⟨es, clock, he, hr⟩, h2, h3, h4, h5, h6⟩ := h
  have h1 : W.ownsMap Tryz.prog 9 latElem mb n D := ⟨es, clock, hb.trans he, hr⟩
  obtain ⟨v, ps, hr, hv⟩ := h1.lookup (Maps.string_keyed Tryz.underlying9) Tryz.underlying119 (zero147 W) (latElem_mk lat0) (kl_of (s := a) ha)
  rw [h2 a] at hv
  exact ⟨f a, by rw [hr, latElem_inv hv], h5 a⟩
theorem field177 (a b c d : Int) (al : Bool) (rv : Value) (W : World) : (Instr.field 185 (.agg #[.int .u8 a, .int .u8 b, .int .u8 c, .int .u8 d, .bool al, rv]) 1).run Tryz.prog W = .ok (.bool al) W := by kernel_rfl
theorem dead171_gives {w W : World} {mb n B : Nat} {st : ByteArray → PL} (h : TreeAt w mb st n) (hb : W.heap[mb]? = w.heap[mb]?) (hc : W.cell? ⟨B, 0, none⟩ = some (.map (some mb))) (x : Nm) :
    FnGives Tryz.prog 223 #[.pointer (some ⟨B, 0, none⟩)] #[encN x] (.bool (!(st x.1).alive)) W := by
  show Calls Tryz.prog 223 #[.string x.1, .pointer (some ⟨B, 0, none⟩)] W _
  obtain ⟨l, hlk, _, hal, _⟩ := h.lookM hb x.1 x.2
  rw [← hal]
  obtain ⟨⟨ba, bb, bc, bd⟩, al, rv, S⟩ := l
  unfold latV at hlk
  simp only at hlk
  clear hal h hb
  generalize x.1 = y at *
  have hfl := field177 ba bb bc bd al rv W
  go_enter Tryz.func223, Tryz.ntmps223
  go_wp2
  go_ret
  exact ⟨rfl, 0, rfl⟩
theorem index162_nil (g : Nat) (lb : Array Value) (w : World) : Calls Tryz.prog 171 #[.slice none 0 0, .func (.func g) #[] lb] w fun e w' => e = .returned (.int .i64 (-1)) ∧ w' = w := by
  go_enter Tryz.func171, Tryz.ntmps171
  go_wp2
  go_loopw [8] (fun i wr => i = .int .i64 0 ∧ wr = w) (fun _ _ => 0)
  case atStart => exact ⟨rfl, rfl⟩
  case round =>
    obtain ⟨rfl, rfl⟩ := hrel
    go_wp2
    go_ret
    exact ⟨rfl, rfl⟩
theorem del206_nil (g : Nat) (lb : Array Value) (w : World) : Calls Tryz.prog 222 #[.slice none 0 0, .func (.func g) #[] lb] w fun e w' => e = .returned (.slice none 0 0) ∧ w' = w := by
  have HI := hid (index162_nil g lb w)
  go_enter Tryz.func222, Tryz.ntmps222
  go_wp2_with fail
  refine HI.out.mono ?_
  rintro e w1 ⟨rfl, rfl⟩
  clear HI
  go_wp2
  go_ret
  exact ⟨rfl, rfl⟩
theorem heap_put {α : Type} [Inhabited α] (enc : α → Value) {w : World} {g n : Nat} {cur : Array Value} {e : TypeId} {fr : Nat × Nat} (d : Array α) (hb : w.heap[g]? = some (.cells cur e fr)) :
    (putRow enc (Sort.ahead w n) g 0 d).heap[g]? = some (.cells (putCells enc 0 d cur) e fr) := by
  simp [putRow, mapBlock, Sort.ahead, Array.getElem?_modify, hb, onCells]
theorem grown_put {α : Type} [Inhabited α] (enc : α → Value) {w : World} {g n : Nat} (d : Array α) : w.grownBy (putRow enc (Sort.ahead w n) g 0 d) (some g) := by
  refine ⟨rfl, rfl, rfl, by simp [Sort.ahead], fun k hk hne => ?_⟩
  have : g ≠ k := fun e => hne (by rw [e])
  simp [putRow, mapBlock, Sort.ahead, Array.getElem?_modify, this]
theorem take_put {α : Type} [Inhabited α] (enc : α → Value) (cur : Array Value) (ts us : List α) (h : ts.length + us.length ≤ cur.size) : (putCells enc 0 (ts ++ us).toArray cur).toList.take ts.length = ts.map enc := by
  apply List.ext_getElem?
  intro j
  by_cases hj : j < ts.length
  · rw [List.getElem?_take_of_lt hj, Array.getElem?_toList]
    simp [putCells, hj, show j < cur.size by omega, show j < ts.length + us.length by omega]
  · rw [List.getElem?_take_eq_none (by omega), List.getElem?_eq_none (by simp; omega)]
def asNm : List ByteArray → List Nm
  | [] => []
  | x :: K => if h : x.size ≤ maxLen then ⟨x, h⟩ :: asNm K else asNm K
theorem asNm_map : ∀ {K : List ByteArray}, (∀ x ∈ K, x.size ≤ maxLen) → (asNm K).map (·.1) = K
  | [], _ => rfl
  | x :: K, h => by
    have h1 := h x (by simp)
    unfold asNm
    rw [dif_pos h1, List.map_cons, asNm_map (fun y hy => h y (by simp [hy]))]
theorem asNm_strs {K : List ByteArray} (h : ∀ x ∈ K, x.size ≤ maxLen) : (asNm K).map encN = strs K := by
  conv => rhs; rw [← asNm_map h]
  unfold strs
  rw [List.map_map]
  rfl
theorem asNm_filter {K : List ByteArray} (h : ∀ x ∈ K, x.size ≤ maxLen) (p : ByteArray → Bool) : ((asNm K).filter fun x => p x.1).map encN = strs (K.filter p) := by
  conv => rhs; rw [← asNm_map h]
  unfold strs
  rw [List.filter_map, List.map_map]
  rfl
theorem asNm_len {K : List ByteArray} (h : ∀ x ∈ K, x.size ≤ maxLen) : (asNm K).length = K.length := by
  conv => rhs; rw [← asNm_map h]
  simp
theorem del206_any {w : World} {mb n B base : Nat} {st : ByteArray → PL} {v : Value} {K : List ByteArray} (h : TreeAt w mb st n) (hB : B < w.heap.size) (hc : w.heap[B]? = some (.cells #[.map (some mb)] 121 (0, 0))) (hv : w.ownsRow base 9 1 v K.length (strs K)) (hK : ∀ x ∈ K, x.size ≤ maxLen) (hl : K.length ≤ 1000000) :
    Calls Tryz.prog 222 #[v, .func (.func 223) #[] #[.pointer (some ⟨B, 0, none⟩)]] w fun e w' => ∃ va vn vc, e = .returned (.slice va vn vc) ∧ w'.ownsRow base 9 1 (.slice va vn vc) (K.filter fun x => (st x).alive).length (strs (K.filter fun x => (st x).alive)) ∧ w.grownBy w' v.ownBlock := by
  have hcB : w.cell? ⟨B, 0, none⟩ = some (.map (some mb)) := by simp [World.cell?, hc]
  have hmb := h.lt
  obtain ⟨es0, ck0, hm0⟩ : ∃ es c, w.heap[mb]? = some (.map es c) := by obtain ⟨_, _, _, ⟨es, c, he, _⟩, _⟩ := h; exact ⟨es, c, he⟩
  rcases hv.2 with ⟨rfl, h0⟩ | ⟨g, cap, cur, rfl, hbase, hg, hcap, hcm, hcs, htake⟩
  · have : K = [] := List.eq_nil_of_length_eq_zero h0
    subst this
    refine (del206_nil 223 _ w).mono ?_
    rintro e w' ⟨rfl, rfl⟩
    exact ⟨none, 0, 0, rfl, World.ownsRow_nil _ _ _ _, World.grownBy.refl _ _⟩
  · have hgB : B ≠ g := fun e => by subst e; rw [hc] at hg; simp at hg
    have hgm : mb ≠ g := fun e => by subst e; rw [hm0] at hg; cases hg
    have hlen := asNm_len hK
    have hH : Holds encN w g 0 (asNm K).toArray := by
      intro j hj
      have hj' : j < (asNm K).length := by simpa using hj
      refine ⟨?_, by simp [World.frozen?, hg]⟩
      have h1 : (cur.toList.take (K.length * 1))[j]? = ((asNm K).map encN)[j]? := by rw [htake, asNm_strs hK]
      rw [List.getElem?_take_of_lt (by omega), Array.getElem?_toList] at h1
      simp only [World.cell?, hg, Nat.zero_add]
      rw [h1]
      simp [hj']
    have hD := AnyE.slices_DeleteFunc Tryz.l222 encN encN_one (fun x : Nm => !(st x.1).alive) 223 #[.pointer (some ⟨B, 0, none⟩)] (enters_of Tryz.func223 (by kernel_rfl) rfl) ⟨⟨#[]⟩, by decide⟩ (fun w => by kernel_rfl) g 0 cap (asNm K).toArray w
      (fun W x hb => dead171_gives h (hb.block mb hmb) ((hb.cell (p := ⟨B, 0, none⟩) hB).trans hcB) x)
      (fun m os dk x _ => by
        refine dead171_gives h ?_ ?_ x
        · unfold sortWorld
          rw [heap_grow_old _ _ (by simpa [Sort.ahead] using hmb)]
          exact (grown_put encN (w := w) dk).block mb hmb (by simpa using hgm)
        · unfold sortWorld
          rw [cell?_grow _ _ _ (by show B < (putRow _ _ _ _ _).heap.size; rw [size_putRow]; exact hB), cell?_putRow_other _ _ g 0 _ _ (Or.inl hgB)]
          exact hcB)
      hH (by simp; omega) (by simp; omega)
    have e1 : (asNm K).toArray.size = K.length := by simp [hlen]
    rw [e1] at hD
    refine hD.mono ?_
    rintro e w' ⟨rfl, q, rfl⟩
    have e2 : ((asNm K).toArray.toList.filter fun x : Nm => !!(st x.1).alive) = (asNm K).filter fun x => (st x.1).alive := by simp
    rw [e2]
    have e3 := asNm_filter hK (fun x => (st x).alive)
    have e4 : ((asNm K).filter fun x => (st x.1).alive).length = (K.filter fun x => (st x).alive).length := by
      have := congrArg List.length e3
      simpa [strs] using this
    have e5 : (K.filter fun x => (st x).alive).length ≤ K.length := List.length_filter_le _ _
    refine ⟨some ⟨g, 0, none⟩, _, cap, rfl, ?_, grown_put encN _⟩
    rw [e4]
    refine ⟨by simp [strs], .inr ⟨g, cap, _, rfl, hbase, heap_put encN _ hg, by omega, hcm, by simp [putCells, hcs], ?_⟩⟩
    rw [Nat.mul_one, ← e4, take_put encN _ _ _ (by simp; omega), e3]
theorem names143_any (st : ByteArray → PL) (mb n : Nat) (w : World) (h : TreeAt w mb st n) (hn : n ≤ 100000) :
    Calls Tryz.prog 180 #[.agg #[.map (some mb)]] w fun e w' => ∃ v K, e = .returned v ∧ w'.ownsRow w.heap.size 9 1 v K.length (strs K) ∧ Srt K ∧ (∀ x, x ∈ K ↔ (st x).alive = true) ∧ K.length ≤ n ∧ Below w.heap.size w w' := by
  obtain ⟨w1, hw1⟩ : ∃ w1, w1 = w.alloc (.cells #[.map (some mb)] 121) := ⟨_, rfl⟩
  have hb1 : Below w.heap.size w w1 := by rw [hw1]; exact (Below.refl _ _).alloc (Nat.le_refl _) _
  have hk1 : w1.heap[w.heap.size]? = some (.cells #[.map (some mb)] 121 (0, 0)) := by rw [hw1]; exact (MapKept.heap_alloc w _).1
  have hs1 : w.heap.size < w1.heap.size := by rw [hw1]; simp
  have h1 := h.below hb1 (Nat.le_refl _)
  have hc1 : w1.cell? ⟨w.heap.size, 0, none⟩ = some (.map (some mb)) := by simp [World.cell?, hk1]
  have HK : Hid (Calls Tryz.prog 221 #[.map (some mb)] w1 fun e w' => e = .returned (.func (.func 254) #[] #[.pointer (some ⟨w1.heap.size, 0, none⟩)]) ∧ w' = w1.alloc (.cells #[.map (some mb)] 119)) := callsIn_wide.1 (Tryz.maps_Keys_221 _ _)
  have HS : Hid (Calls Tryz.prog 177 #[.func (.func 254) #[] #[.pointer (some ⟨w1.heap.size, 0, none⟩)]] (w1.alloc (.cells #[.map (some mb)] 119)) fun e w2 => ∃ va vn vc K, e = .returned (.slice va vn vc) ∧ w2.ownsRow w1.heap.size 9 1 (.slice va vn vc) K.length (strs K) ∧ Srt K ∧ (∀ x, x ∉ K → (st x).alive = false) ∧ K.length ≤ n ∧ (∀ x ∈ K, x.size ≤ maxLen) ∧ Below w1.heap.size w1 w2) := by
    obtain ⟨f, has, D, hown, h2, h3, h4, h5, h6⟩ := h1
    have hsz := hown.size_le
    refine (callsIn_wide.1 (Tryz.slices_Sorted_keys_177_221 mb n D latElem w1 hown (by unfold maxLen; omega) (by omega))).mono ?_
    rintro e w' ⟨v, ss, rfl, hp, hrow, hnil, hb⟩
    obtain ⟨K, k1, k2, k3, k4, k5⟩ := keys_sorted hown hp
    have hl : ss.length ≤ n := by rw [hp.length_eq]; exact Nat.le_trans (Nat.le_of_eq (by obtain ⟨es, hD, _⟩ := hown.keysOf; rw [hD]; simp [strKeys, Maps.size])) hsz
    rw [k3, ← k4] at hrow
    obtain ⟨va, vc, rfl⟩ := own_shape hrow
    refine ⟨va, _, vc, K, rfl, ownsRow_mono hrow (by simp), k1, fun x hx => ?_, by omega, k5, ((Below.refl _ w1).alloc (Nat.le_refl _) _).trans (hb.mono (by simp))⟩
    have hx2 : has x = false := by
      rw [← h3 x]
      cases e : Maps.has D (kl x)
      · rfl
      · exact absurd ((k2 x).2 e) hx
    have := (h5 x).2.1
    rw [h4 x hx2] at this
    exact this.symm
  have HT := hid h1
  have HK1 := hid hk1
  clear h h1 hk1
  go_enter Tryz.func180, Tryz.ntmps180
  go_wp2_with fail
  rw [← hw1]
  clear hw1
  refine HK.out.mono ?_
  rintro e w2 ⟨rfl, rfl⟩
  clear HK
  go_wp2_with fail
  refine HS.out.mono ?_
  rintro e w2 ⟨va, vn, vc, K, rfl, g1, g2, g3, g4, g5, g6⟩
  have HD : Hid (Calls Tryz.prog 222 #[.slice va vn vc, .func (.func 223) #[] #[.pointer (some ⟨w.heap.size, 0, none⟩)]] w2 fun e w' => ∃ ua un uc, e = .returned (.slice ua un uc) ∧ w'.ownsRow w1.heap.size 9 1 (.slice ua un uc) (K.filter fun x => (st x).alive).length (strs (K.filter fun x => (st x).alive)) ∧ w2.grownBy w' (Value.slice va vn vc).ownBlock) :=
    del206_any (HT.out.below g6 (Nat.le_refl _)) (Nat.lt_of_lt_of_le hs1 g6.size) ((g6.block _ hs1).trans HK1.out) g1 g5 (by omega)
  have HBW : Hid (∀ w', w2.grownBy w' (Value.slice va vn vc).ownBlock → Below w.heap.size w w') := fun w' hg => (hb1.trans (g6.mono (Nat.le_of_lt hs1))).grown hg (by have := g6.size; omega) (fun j hj => by have := (g1.lt j hj).1; omega)
  clear HS g1 HT g5
  go_wp2_with fail
  refine HD.out.mono ?_
  rintro e w3 ⟨ua, un, uc, rfl, k1, k2⟩
  clear HD
  go_wp2
  go_ret
  refine ⟨_, K.filter fun x => (st x).alive, rfl, ownsRow_mono k1 (by omega), g2.filter _, fun x => ?_, Nat.le_trans (List.length_filter_le _ _) g4, HBW.out _ k2⟩
  rw [List.mem_filter]
  constructor
  · exact fun hx => hx.2
  · intro hx
    refine ⟨Classical.byContradiction fun hn => ?_, hx⟩
    rw [g3 x hn] at hx
    cases hx
end Go.Proofs.YtgdfipmdmgkidaaGreatDoor

/- The small functions of the statement Told: its texts. -/
set_option maxHeartbeats 1600000
set_option maxRecDepth 100000
namespace Go.Proofs.YtgdfipmdmgkidaaGreatDoor
open Go.RowKit
theorem kcut14_any (s : ByteArray) (w : World) (hs : s.size ≤ 100000) :
    Calls Tryz.prog 19 #[.string s] w fun e w' => ∃ v, e = .returned v ∧ w'.ownsRow w.heap.size 9 1 v (cutAll s).length (strs (cutAll s)) ∧ Below w.heap.size w w' := by
  obtain ⟨i0, hi, hz0, hz1, hz2⟩ := info_parts Tryz.info9
  go_enter Tryz.func19, Tryz.ntmps19
  go_wp2
  go_loopw [3, 4, 5] (fun v st i wr => ∃ (p q : Nat) (L : List ByteArray), p ≤ s.size ∧ i = .int .i64 p ∧ st = .int .i64 q ∧ Hid (stTo s p = (L, q)) ∧ wr.ownsRow w.heap.size 9 1 v L.length (strs L) ∧ Below w.heap.size w wr) (fun _ _ i _ => s.size - (intOf i).toNat)
  case atStart => exact ⟨0, 0, [], Nat.zero_le _, rfl, rfl, rfl, World.ownsRow_nil _ _ _ _, Below.refl _ _⟩
  case round =>
    obtain ⟨p, q, L, hp, rfl, rfl, HS, hown, hbw⟩ := hrel
    have hq : q ≤ p := by have := (stTo_le s p).1; rw [HS.out] at this; exact this
    have hLq : L.length ≤ p := by have := (stTo_le s p).2; rw [HS.out] at this; exact this
    have hsz : w.heap.size ≤ wr.heap.size := hbw.size
    by_cases hlt : p < s.size
    · by_cases h10 : s[p].toNat = 10
      · have hb : (((s[p].toNat : Nat) : Int) == 10) = true := by rw [h10]; rfl
        have HB : Hid (gb s p = 10) := by rw [← gb_eq s p hlt]; exact h10
        clear h10
        go_wp2_with (at_builtin; refine wpList_append_own _ rfl _ _ 35 rfl w.heap.size 9 i0 (.string ⟨#[]⟩) 1 16 Tryz.underlying35 hi hz0 hz1 hz2 rfl (by decide) _ _ _ rfl (hown.alloc _) ⟨wr.heap.size, 0, none⟩ 1 1 [.string (s.extract q (p + 1))] rfl rfl ?c1 ?c2 ?c3 ?c4 ?c5 ?_)
        case c1 => exact new_one _ _ _
        case c2 => exact strs_one [_]
        case c3 => unfold maxLen; omega
        case c4 => omega
        case c5 => simp; omega
        intro v' w1 hown' hg _
        have R := step_own (Nat.le_refl _) hown hbw hsz hown' hg
        clear hown' hg hown hbw
        go_wp2
        go_roundw
        case rel => exact ⟨p + 1, p + 1, L ++ [s.extract q (p + 1)], by omega, by go_num, by go_num, by show _ = _; rw [stTo_nl HB.out, HS.out], R.1, R.2.1⟩
        case measure => simp [intOf]; omega
      · have hb : (((s[p].toNat : Nat) : Int) == 10) = false := by rw [beq_eq_false_iff_ne]; omega
        have HB : Hid (gb s p ≠ 10) := by rw [← gb_eq s p hlt]; exact h10
        clear h10
        go_wp2
        go_roundw
        case rel => exact ⟨p + 1, q, L, by omega, by go_num, rfl, by show _ = _; rw [stTo_no HB.out, HS.out], hown, hbw⟩
        case measure => simp [intOf]; omega
    · have hps : Hid (p = s.size) := by show _ = _; omega
      by_cases hql : q < s.size
      · go_wp2_with (at_builtin; refine wpList_append_own _ rfl _ _ 35 rfl w.heap.size 9 i0 (.string ⟨#[]⟩) 1 16 Tryz.underlying35 hi hz0 hz1 hz2 rfl (by decide) _ _ _ rfl (hown.alloc _) ⟨wr.heap.size, 0, none⟩ 1 1 [.string (s.extract q s.size)] rfl rfl ?d1 ?d2 ?d3 ?d4 ?d5 ?_)
        case d1 => exact new_one _ _ _
        case d2 => exact strs_one [_]
        case d3 => unfold maxLen; omega
        case d4 => omega
        case d5 => simp; omega
        intro v' w1 hown' hg _
        have R := step_own (Nat.le_refl _) hown hbw hsz hown' hg
        clear hown' hg hown hbw
        go_wp2
        go_ret
        have e := HS.out
        rw [hps.out] at e
        rw [cut_end e hql]
        exact ⟨_, rfl, R.1, R.2.1⟩
      · go_wp2
        go_ret
        have e := HS.out
        rw [hps.out] at e
        rw [cut_end0 e hql]
        exact ⟨_, rfl, hown, hbw⟩
theorem pick_nat (c : Int) (n : Nat) (hn : 1 ≤ n) : ∃ k : Nat, k < n ∧ c % (n : Int) = (k : Int) := by
  have h1 := Int.emod_nonneg c (b := (n : Int)) (by omega)
  have h2 := Int.emod_lt_of_pos c (b := (n : Int)) (by omega)
  exact ⟨(c % (n : Int)).toNat, by omega, by omega⟩
theorem kpick23_det (c : Int) (n : Nat) (hn : 1 ≤ n) (hn2 : n ≤ 10000000) (h0 : -9223372036854775808 ≤ c) (h1 : c ≤ 9223372036854775807) :
    ∃ k : Nat, k < n ∧ ∀ w, Calls Tryz.prog 31 #[.int .i64 c, .int .i64 n] w fun e w' => e = .returned (.int .i64 k) ∧ w' = w := by
  have hnz : ((n : Nat) : Int) ≠ 0 := by omega
  have hne : (((n : Nat) : Int) == 0) = false := by simp; omega
  by_cases hlt : c < 0
  · obtain ⟨k, hk, e⟩ := pick_nat (-(c + 1)) n hn
    have e2 : -((c + 1).tmod (n : Int)) = (-(c + 1)) % (n : Int) := by rw [← Int.neg_tmod, Int.tmod_eq_emod_of_nonneg (by omega)]
    have E := hid (e2.trans e)
    clear e e2
    refine ⟨k, hk, fun w => ?_⟩
    clear hk
    go_enter Tryz.func31, Tryz.ntmps31
    go_wp2
    go_ret
    exact ⟨ret_int E.out, rfl⟩
  · obtain ⟨k, hk, e⟩ := pick_nat c n hn
    have E := hid e
    clear e
    refine ⟨k, hk, fun w => ?_⟩
    clear hk
    go_enter Tryz.func31, Tryz.ntmps31
    go_wp2
    go_ret
    exact ⟨ret_int E.out, rfl⟩
def fiveLines : List ByteArray := [⟨#[112, 10]⟩, ⟨#[113, 10]⟩, ⟨#[207, 137, 32, 207, 137, 10]⟩, ⟨#[10]⟩, ⟨#[116, 119, 101, 108, 118, 101, 32, 114, 117, 110, 101, 115, 10]⟩]
theorem kline22_det (c : Int) (h0 : -9223372036854775808 ≤ c) (h1 : c ≤ 9223372036854775807) :
    ∃ l ∈ fiveLines, ∀ w, Calls Tryz.prog 39 #[.int .i64 c] w fun e w' => e = .returned (.string l) ∧ w' = w := by
  obtain ⟨k, hk, hp⟩ := kpick23_det c 5 (by omega) (by omega) h0 h1
  have HP := hid hp
  clear hp
  obtain rfl | rfl | rfl | rfl | rfl : k = 0 ∨ k = 1 ∨ k = 2 ∨ k = 3 ∨ k = 4 := by omega
  · refine ⟨⟨#[112, 10]⟩, by simp [fiveLines], fun w => ?_⟩
    go_enter Tryz.func39, Tryz.ntmps39
    go_wp2_with (go_at_call 31; refine (HP.out _).mono ?_; rintro e w1 ⟨rfl, rfl⟩)
    go_ret
    exact ⟨rfl, rfl⟩
  · refine ⟨⟨#[113, 10]⟩, by simp [fiveLines], fun w => ?_⟩
    go_enter Tryz.func39, Tryz.ntmps39
    go_wp2_with (go_at_call 31; refine (HP.out _).mono ?_; rintro e w1 ⟨rfl, rfl⟩)
    go_ret
    exact ⟨rfl, rfl⟩
  · refine ⟨⟨#[207, 137, 32, 207, 137, 10]⟩, by simp [fiveLines], fun w => ?_⟩
    go_enter Tryz.func39, Tryz.ntmps39
    go_wp2_with (go_at_call 31; refine (HP.out _).mono ?_; rintro e w1 ⟨rfl, rfl⟩)
    go_ret
    exact ⟨rfl, rfl⟩
  · refine ⟨⟨#[10]⟩, by simp [fiveLines], fun w => ?_⟩
    go_enter Tryz.func39, Tryz.ntmps39
    go_wp2_with (go_at_call 31; refine (HP.out _).mono ?_; rintro e w1 ⟨rfl, rfl⟩)
    go_ret
    exact ⟨rfl, rfl⟩
  · refine ⟨⟨#[116, 119, 101, 108, 118, 101, 32, 114, 117, 110, 101, 115, 10]⟩, by simp [fiveLines], fun w => ?_⟩
    go_enter Tryz.func39, Tryz.ntmps39
    go_wp2_with (go_at_call 31; refine (HP.out _).mono ?_; rintro e w1 ⟨rfl, rfl⟩)
    go_ret
    exact ⟨rfl, rfl⟩
def joinTo (L : List ByteArray) : Nat → ByteArray
  | 0 => ⟨#[]⟩
  | k + 1 => joinTo L k ++ L.getD k ByteArray.empty
theorem joinTo_size (L : List ByteArray) (hL : ∀ l ∈ L, l.size ≤ 1000) (k : Nat) : (joinTo L k).size ≤ k * 1000 := by
  induction k with
  | zero => exact Nat.le_refl _
  | succ k ih =>
    unfold joinTo
    rw [ByteArray.size_append]
    have : (L.getD k ByteArray.empty).size ≤ 1000 := by
      rw [List.getD_eq_getElem?_getD]
      cases h : L[k]? with
      | none => simp
      | some l => exact hL l (List.mem_of_getElem? h)
    omega
def joinedB (L : List ByteArray) (open_ : Bool) : ByteArray := if open_ = true ∧ 0 < (joinTo L L.length).size then (joinTo L L.length).extract 0 ((joinTo L L.length).size - 1) else joinTo L L.length
theorem kjoined24_any (L : List ByteArray) (open_ : Bool) (ao : Option Addr) (cap : Nat) (w : World) (hv : View w ao L) (hlen : L.length ≤ 100) (hL : ∀ l ∈ L, l.size ≤ 1000) :
    Calls Tryz.prog 40 #[.slice ao L.length cap, .bool open_] w fun e w' => e = .returned (.string (joinedB L open_)) ∧ w' = w := by
  go_enter Tryz.func40, Tryz.ntmps40
  go_wp2
  go_loop [5, 6] (fun s x => ∃ k : Nat, k ≤ L.length ∧ x = .int .i64 k ∧ s = .string (joinTo L k)) (fun _ x => L.length - (intOf x).toNat)
  case atStart => exact ⟨0, Nat.zero_le _, rfl, rfl⟩
  case round =>
    obtain ⟨k, hk, rfl, rfl⟩ := hrel
    have hsz := joinTo_size L hL k
    by_cases hlt : k < L.length
    · rcases hv with h | ⟨b, o, rfl, hb, hc⟩
      · omega
      have hcell := hc k hlt
      have hsz2 := joinTo_size L hL (k + 1)
      have hj : joinTo L (k + 1) = joinTo L k ++ L.getD k ByteArray.empty := rfl
      rw [hj, ByteArray.size_append] at hsz2
      have HJ : Hid (joinTo L (k + 1) = joinTo L k ++ L.getD k ByteArray.empty) := rfl
      generalize L.getD k ByteArray.empty = l at *
      generalize joinTo L k = A at *
      have hz : ¬ (9223372036854775807 < (A.size : Int) + (l.size : Int)) := by omega
      clear hj hc
      go_wp2
      go_round
      case rel => exact ⟨k + 1, by omega, by go_num, by rw [HJ.out]⟩
      case measure => simp [intOf]; omega
    · obtain rfl : k = L.length := by omega
      obtain ⟨A, hA⟩ : ∃ A, joinTo L L.length = A := ⟨_, rfl⟩
      rw [hA] at hsz ⊢
      cases open_
      · have HE : Hid (joinedB L false = A) := by show _ = _; unfold joinedB; rw [if_neg (by simp), hA]
        clear hA
        go_wp2
        go_ret
        exact ⟨by rw [HE.out]; rfl, rfl⟩
      · by_cases h0 : 0 < A.size
        · have HE : Hid (joinedB L true = A.extract 0 (A.size - 1)) := by show _ = _; unfold joinedB; rw [if_pos ⟨rfl, by rw [hA]; exact h0⟩, hA]
          clear hA
          have h0i : (0 : Int) < (A.size : Int) := by omega
          go_wp2
          go_ret
          exact ⟨by rw [HE.out]; rfl, rfl⟩
        · have HE : Hid (joinedB L true = A) := by show _ = _; unfold joinedB; rw [if_neg (fun h => h0 (by rw [← hA]; exact h.2)), hA]
          have h0d : decide (0 < A.size) = false := by simpa using h0
          clear hA
          go_wp2
          go_ret
          exact ⟨by rw [HE.out]; rfl, rfl⟩
theorem ksame16_any (L : List ByteArray) (ao bo : Option Addr) (ca cb A B : Nat) (w : World) (ha : w.ownsRow A 9 1 (.slice ao L.length ca) L.length (strs L)) (hb : w.ownsRow B 9 1 (.slice bo L.length cb) L.length (strs L)) (hlen : L.length ≤ 1000000) :
    Calls Tryz.prog 21 #[.slice ao L.length ca, .slice bo L.length cb] w fun e w' => e = .returned (.bool true) ∧ ∃ q, w' = w.drewN q := by
  have hne : (((L.length : Nat) : Int) != ((L.length : Nat) : Int)) = false := by simp
  go_enter Tryz.func21, Tryz.ntmps21
  go_wp2
  go_loopw [5] (fun i wr => ∃ k q : Nat, k ≤ L.length ∧ i = .int .i64 k ∧ wr = w.drewN q) (fun i _ => L.length - (intOf i).toNat)
  case atStart => exact ⟨0, 0, Nat.zero_le _, rfl, rfl⟩
  case round =>
    obtain ⟨k, q, hk, rfl, rfl⟩ := hrel
    by_cases hlt : k < L.length
    · obtain ⟨g, hao, hgB, hgs⟩ := own_at ha (by omega)
      obtain ⟨g', hbo, hgB', hgs'⟩ := own_at hb (by omega)
      subst hao hbo
      have hc1 : w.cell? ⟨g, k, none⟩ = some (.string (L.getD k ByteArray.empty)) := row_cell ha k hlt
      have hc2 : w.cell? ⟨g', k, none⟩ = some (.string (L.getD k ByteArray.empty)) := row_cell hb k hlt
      obtain ⟨t, ht⟩ : ∃ t, L.getD k ByteArray.empty = t := ⟨_, rfl⟩
      rw [ht] at hc1 hc2
      clear ht ha hb
      go_wp2
      go_quiet (fail)
      go_wp2
      go_roundw
      case rel => exact ⟨k + 1, _, by omega, by go_num, rfl⟩
      case measure => simp [intOf]; omega
    · go_wp2
      go_ret
      exact ⟨rfl, q, rfl⟩
end Go.Proofs.YtgdfipmdmgkidaaGreatDoor
/- The small functions of the statement Told: what is read of a telling. -/
namespace Go.Proofs.YtgdfipmdmgkidaaGreatDoor
open Go.RowKit
def decV (s : ByteArray) : Nat → Nat
  | 0 => 0
  | k + 1 => 10 * decV s k + (gb s k - 48)
end Go.Proofs.YtgdfipmdmgkidaaGreatDoor
