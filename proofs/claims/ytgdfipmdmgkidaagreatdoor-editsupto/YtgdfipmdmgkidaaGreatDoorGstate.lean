/- The statement's own state in memory: the book and the twins, and what turns none of them. -/
import Derived.Test.YtgdfipmdmgkidaaGreatDoorGxnew
import Derived.Test.YtgdfipmdmgkidaaGreatDoorGnew
import Derived.Test.YtgdfipmdmgkidaaGreatDoorWtake
import Derived.Test.YtgdfipmdmgkidaaGreatDoorWlooks
namespace Go.Proofs.YtgdfipmdmgkidaaGreatDoor
open Go.RowKit

/-- Block g is one of cells, of one of the types that S names. -/
def Kind (w : World) (S : TypeId → Prop) (g : Nat) : Prop := ∃ c t, w.heap[g]? = some (.cells c t (0, 0)) ∧ S t
theorem Kind.lt {w : World} {S : TypeId → Prop} {g : Nat} (h : Kind w S g) : g < w.heap.size := by
  obtain ⟨c, t, h, _⟩ := h
  exact lt_of_block h
theorem own_kind {w : World} {B n size : Nat} {e : TypeId} {v : Value} {xs : List Value} {S : TypeId → Prop} (h : w.ownsRow B e size v n xs) (hS : S e) {g : Nat} (hg : v.ownBlock = some g) : Kind w S g := by
  rcases h.2 with ⟨rfl, _⟩ | ⟨g', cap, cur, rfl, _, hb, _⟩
  · cases hg
  · simp [Value.ownBlock] at hg
    subst hg
    exact ⟨cur, e, hb, hS⟩

def bookT (t : TypeId) : Prop := t = 9 ∨ t = 73 ∨ t = 142
theorem BookAt.typed {w : World} {B bb : Nat} {S : Nat → Prop} {K : List Ent} {lv kv : Value} (h : BookAt w B S bb K lv kv) : BookAt w B (Kind w bookT) bb K lv kv := by
  have sh : ∀ {v n m}, ShowsAt w B S v n m → ShowsAt w B (Kind w bookT) v n m := fun hv => ⟨hv.1, fun g hg => own_kind hv.1 (Or.inl rfl) hg⟩
  exact ⟨h.lo, ⟨_, 73, h.cell, Or.inr (Or.inl rfl)⟩, h.cell, h.row, fun g hg => own_kind h.row (Or.inr (Or.inr rfl)) hg, fun e he => ⟨sh (h.ents e he).a, sh (h.ents e he).b, sh (h.ents e he).c, sh (h.ents e he).d, (h.ents e he).few⟩, h.few⟩
theorem BookAt.old {w : World} {B bb : Nat} {S : Nat → Prop} {K : List Ent} {lv kv : Value} (h : BookAt w B S bb K lv kv) : BookAt w B (Old w) bb K lv kv := h.typed.mono fun _ hg => hg.lt
theorem BookAt.stays {w w' : World} {B bb : Nat} {S : Nat → Prop} {K : List Ent} {lv kv : Value} (h : BookAt w B S bb K lv kv) (hs : ∀ g, Kind w bookT g → w'.heap[g]? = w.heap[g]?) : BookAt w' B (Old w') bb K lv kv := by
  have h2 : BookAt w' B (Kind w bookT) bb K lv kv := h.typed.same hs
  exact h2.old

theorem own_stays {w w' : World} {B n size : Nat} {e : TypeId} {v : Value} {xs : List Value} (h : w.ownsRow B e size v n xs) (hs : ∀ g, v.ownBlock = some g → w'.heap[g]? = w.heap[g]?) : w'.ownsRow B e size v n xs := own_under (S := fun g => v.ownBlock = some g) h hs (fun _ hg => hg)
/-- The document's world stays while none of its blocks turns. -/
theorem RAt.stays {w w' : World} {B rb sg : Nat} {vs : List (Value × Value)} {Fs : List Repo} (h : RAt w B rb sg vs Fs) (hs : ∀ g, Kind w (fun t => t = 9 ∨ t = 192) g → w'.heap[g]? = w.heap[g]?) (hsg : w'.heap[sg]? = w.heap[sg]?) : RAt w' B rb sg vs Fs := by
  have k9 : ∀ {v n xs}, w.ownsRow B 9 1 v n xs → w'.ownsRow B 9 1 v n xs := fun hv => own_stays hv fun g hg => hs g (own_kind (S := fun t => t = 9 ∨ t = 192) hv (Or.inl rfl) hg)
  refine ⟨h.lo, h.lo2, ?_, ?_, h.len, fun j p F hj hF => ⟨k9 (h.names j p F hj hF).1, k9 (h.names j p F hj hF).2⟩, h.few, h.n3⟩
  · rw [hs rb ⟨_, 192, h.cell, Or.inr rfl⟩]; exact h.cell
  · rw [hsg]; exact h.row

/-- The program's world stays while none of its blocks turns. -/
theorem XAt.stays {w w' : World} {B pb rg cap : Nat} {ms : List Nat} {Fs : List Repo} (h : XAt w B pb rg cap ms Fs) (hs : ∀ g, Kind w (fun t => t = 87 ∨ t = 83) g → w'.heap[g]? = w.heap[g]?) (hm : ∀ m ∈ ms, w'.heap[m]? = w.heap[m]?) : XAt w' B pb rg cap ms Fs := by
  obtain ⟨A, hA, hc⟩ := h.row
  refine ⟨h.lo, h.lo2, h.lo3, ?_, ⟨A, ?_, hc⟩, h.nodup, h.len, ?_, h.few, h.n3⟩
  · obtain ⟨gb, hcp⟩ := h.cell
    exact ⟨gb, by rw [hs pb ⟨_, 83, hcp, Or.inr rfl⟩]; exact hcp⟩
  · rw [hs rg ⟨_, 87, hA, Or.inl rfl⟩]; exact hA
  · intro j m F hj hF
    obtain ⟨D, ⟨es, ck, hb, r⟩, hR⟩ := h.maps j m F hj hF
    exact ⟨D, ⟨es, ck, by rw [hm m (List.mem_of_getElem? hj)]; exact hb, r⟩, hR⟩
theorem XAt.map_block {w : World} {B pb rg cap : Nat} {ms : List Nat} {Fs : List Repo} (h : XAt w B pb rg cap ms Fs) {m : Nat} (hm : m ∈ ms) : ∃ es ck, w.heap[m]? = some (.map es ck) := by
  obtain ⟨j, hj, e⟩ := List.mem_iff_getElem.1 hm
  have hjF : j < Fs.length := by rw [← h.len]; exact hj
  exact (h.maps j m _ (by rw [List.getElem?_eq_getElem hj, e]) (List.getElem?_eq_getElem hjF)).block

structure Twin where
  pb : Nat
  rg : Nat
  cap : Nat
  ms : List Nat
  rb : Nat
  sg : Nat
  vs : List (Value × Value)
  Fs : List Repo
def Twin.cells (t : Twin) : List Value := [.pointer (some ⟨t.pb, 0, none⟩), .pointer (some ⟨t.rb, 0, none⟩)]

structure WAt (w : World) (B bb : Nat) (K : List Ent) (lv kv : Value) (T : List Twin) : Prop where
  book : BookAt w B (Old w) bb K lv kv
  row : w.ownsRow B 99 2 lv T.length (T.flatMap Twin.cells)
  x : ∀ t ∈ T, XAt w B t.pb t.rg t.cap t.ms t.Fs
  r : ∀ t ∈ T, RAt w B t.rb t.sg t.vs t.Fs
  apart : T.Pairwise fun a b => a.sg ≠ b.sg ∧ ∀ m ∈ a.ms, m ∉ b.ms
  few : T.length ≤ 10000000
  lo : B ≤ w.heap.size

theorem Kind.of {w : World} {S : TypeId → Prop} {g : Nat} {c : Array Value} {t : TypeId} (h : w.heap[g]? = some (.cells c t (0, 0))) (hS : S t) : Kind w S g := ⟨c, t, h, hS⟩
theorem Kind.ne {w : World} {S : TypeId → Prop} {g g' : Nat} {c : Array Value} {t : TypeId} (h : Kind w S g) (h' : w.heap[g']? = some (.cells c t (0, 0))) (hn : ¬ S t) : g ≠ g' := by
  rintro rfl
  obtain ⟨c', t', h1, h2⟩ := h
  rw [h'] at h1
  injection h1 with h1
  injection h1 with _ h1 _
  subst h1
  exact hn h2
theorem Kind.ne_map {w : World} {S : TypeId → Prop} {g g' ck : Nat} {es : Array MapEntry} (h : Kind w S g) (h' : w.heap[g']? = some (.map es ck)) : g ≠ g' := by
  rintro rfl
  obtain ⟨c', t', h1, h2⟩ := h
  rw [h'] at h1
  cases h1

/-- Nothing that was there turns. -/
theorem WAt.below {w w' : World} {B bb : Nat} {K : List Ent} {lv kv : Value} {T : List Twin} (h : WAt w B bb K lv kv T) (hb : Below w.heap.size w w') : WAt w' B bb K lv kv T :=
  ⟨h.book.stays fun g hg => hb.block g hg.lt, own_below h.row hb (Nat.le_refl _), fun t ht => (h.x t ht).below hb, fun t ht => (h.r t ht).below hb, h.apart, h.few, Nat.le_trans h.lo hb.size⟩

/-- The book is written: the twins stay. -/
theorem WAt.booked {w w' : World} {B bb : Nat} {K K' : List Ent} {lv kv kv' : Value} {T : List Twin} (h : WAt w B bb K lv kv T) (hb : BookAt w' B (Old w') bb K' lv kv') (hlo : B ≤ w'.heap.size)
    (hf : ∀ g, g < w.heap.size → g ≠ bb → some g ≠ kv.ownBlock → w'.heap[g]? = w.heap[g]?) : WAt w' B bb K' lv kv' T := by
  have hnb : ∀ {S : TypeId → Prop} {g}, Kind w S g → ¬ S 73 → ¬ S 142 → w'.heap[g]? = w.heap[g]? := fun hk n1 n2 => hf _ hk.lt (hk.ne h.book.cell n1) fun e => by
    obtain ⟨c, t, h1, h2⟩ := own_kind (S := fun x => x = 142) h.book.row rfl e.symm
    subst h2
    exact hk.ne h1 n2 rfl
  refine ⟨hb, own_stays h.row fun g hg => hnb (own_kind (S := fun x => x = 99) h.row rfl hg) (by decide) (by decide), fun t ht => (h.x t ht).stays (fun g hg => hnb hg (by decide) (by decide)) ?_, fun t ht => (h.r t ht).stays (fun g hg => hnb hg (by decide) (by decide)) (hnb (S := fun x => x = 205) ⟨_, 205, (h.r t ht).row, rfl⟩ (by decide) (by decide)), h.apart, h.few, hlo⟩
  intro m hm
  obtain ⟨es, ck, hbl⟩ := (h.x t ht).map_block hm
  refine hf m (by have := (Array.getElem?_eq_some_iff.1 hbl).1; exact this) ?_ ?_
  · rintro rfl; rw [h.book.cell] at hbl; cases hbl
  · intro e
    exact (own_kind (S := fun x => x = 142) h.book.row rfl e.symm).ne_map hbl rfl

theorem fun2 {a b : Nat} {S : TypeId → Prop} {w : World} {c : Array Value} {t : TypeId} (hk : Kind w S a) (hb : w.heap[b]? = some (.cells c t (0, 0))) (hn : ¬ S t) : some a ≠ some b := fun e => by injection e with e; exact hk.ne hb hn e

/-- One of the program's maps is written, and one of the document's rows: the twin at j is another then. -/
theorem WAt.mapped {w w' : World} {B bb j m : Nat} {K : List Ent} {lv kv : Value} {T : List Twin} {t : Twin} (h : WAt w B bb K lv kv T) (_hj : T[j]? = some t) (hm : m ∈ t.ms) (hg : w.grownBy w' (some m)) :
    BookAt w' B (Old w') bb K lv kv ∧ w'.ownsRow B 99 2 lv T.length (T.flatMap Twin.cells) ∧ (∀ (i : Nat) (u : Twin), i ≠ j → T[i]? = some u → XAt w' B u.pb u.rg u.cap u.ms u.Fs) ∧ (∀ u ∈ T, RAt w' B u.rb u.sg u.vs u.Fs) := by
  have hx := h.x t (List.mem_of_getElem? _hj)
  obtain ⟨es, ck, hbl⟩ := hx.map_block hm
  have hk : ∀ {S : TypeId → Prop} {g}, Kind w S g → w'.heap[g]? = w.heap[g]? := fun hk => hg.block _ hk.lt (fun e => by injection e with e; exact hk.ne_map hbl e)
  refine ⟨h.book.stays fun g hg => hk hg, own_stays h.row fun g hg => hk (own_kind (S := fun x => x = 99) h.row rfl hg), ?_, fun u hu => (h.r u hu).stays (fun g hg => hk hg) (hk (S := fun x => x = 205) ⟨_, 205, (h.r u hu).row, rfl⟩)⟩
  intro i u hi hu
  refine (h.x u (List.mem_of_getElem? hu)).stays (fun g hg => hk hg) ?_
  intro m2 hm2
  obtain ⟨es2, ck2, hbl2⟩ := (h.x u (List.mem_of_getElem? hu)).map_block hm2
  refine hg.block m2 (Array.getElem?_eq_some_iff.1 hbl2).1 ?_
  intro e
  injection e with e
  subst e
  obtain ⟨a1, b1⟩ := List.getElem?_eq_some_iff.1 hu
  obtain ⟨a2, b2⟩ := List.getElem?_eq_some_iff.1 _hj
  rcases Nat.lt_or_gt_of_ne hi with h1 | h1
  · have := (List.pairwise_iff_getElem.1 h.apart i j a1 a2 h1).2
    rw [b1, b2] at this
    exact this m2 hm2 hm
  · have := (List.pairwise_iff_getElem.1 h.apart j i a2 a1 h1).2
    rw [b1, b2] at this
    exact this m2 hm hm2

theorem WAt.written {w w' : World} {B bb j : Nat} {K : List Ent} {lv kv : Value} {T : List Twin} {t : Twin} {vs' : List (Value × Value)} {Fs' : List Repo} (hj : T[j]? = some t)
    (hbk : BookAt w B (Old w) bb K lv kv) (hrow : w.ownsRow B 99 2 lv T.length (T.flatMap Twin.cells)) (hx : ∀ (i : Nat) (u : Twin), i ≠ j → T[i]? = some u → XAt w B u.pb u.rg u.cap u.ms u.Fs) (hxj : XAt w B t.pb t.rg t.cap t.ms Fs')
    (hr : ∀ u ∈ T, RAt w B u.rb u.sg u.vs u.Fs) (hap : T.Pairwise fun a b => a.sg ≠ b.sg ∧ ∀ m ∈ a.ms, m ∉ b.ms) (hfew : T.length ≤ 10000000) (hlo : B ≤ w.heap.size)
    (hrj : RAt w' B t.rb t.sg vs' Fs') (hg : w.grownBy w' (some t.sg)) :
    WAt w' B bb K lv kv (T.set j { t with vs := vs', Fs := Fs' }) := by
  have hsg := (hr t (List.mem_of_getElem? hj)).row
  have hk : ∀ {S : TypeId → Prop} {g}, Kind w S g → ¬ S 205 → w'.heap[g]? = w.heap[g]? := fun hk hn => hg.block _ hk.lt (fun2 hk hsg hn)
  have hmp : ∀ {B pb rg cap : Nat} {ms : List Nat} {Fs : List Repo}, XAt w B pb rg cap ms Fs → ∀ m ∈ ms, w'.heap[m]? = w.heap[m]? := fun hX m hm => by
    obtain ⟨es, ck, hbl⟩ := hX.map_block hm
    refine hg.block m (Array.getElem?_eq_some_iff.1 hbl).1 ?_
    intro e
    injection e with e
    subst e
    rw [hsg] at hbl; cases hbl
  have hjl := (List.getElem?_eq_some_iff.1 hj).1
  have hcells : (T.set j { t with vs := vs', Fs := Fs' }).flatMap Twin.cells = T.flatMap Twin.cells := by
    rw [List.flatMap_def, List.flatMap_def, List.map_set]
    congr 1
    have : (T.map Twin.cells)[j]? = some t.cells := by rw [List.getElem?_map, hj]; rfl
    obtain ⟨h1, h2⟩ := List.getElem?_eq_some_iff.1 this
    show (T.map Twin.cells).set j t.cells = _
    rw [← h2, List.set_getElem_self]
  refine ⟨hbk.stays fun g hg => hk hg (by unfold bookT; decide), ?_, ?_, ?_, ?_, by rw [List.length_set]; exact hfew, Nat.le_trans hlo hg.size⟩
  · rw [List.length_set, hcells]
    exact own_stays hrow fun g hg => hk (own_kind (S := fun x => x = 99) hrow rfl hg) (by decide)
  · intro u hu
    obtain ⟨i, hi, e⟩ := List.mem_iff_getElem.1 hu
    have e2 : (T.set j { t with vs := vs', Fs := Fs' })[i]? = some u := by rw [List.getElem?_eq_getElem hi, e]
    by_cases hij : j = i
    · subst hij
      rw [List.getElem?_set_self hjl] at e2; injection e2 with e2; subst e2
      exact hxj.stays (fun g hg => hk hg (by decide)) (hmp hxj)
    · rw [List.getElem?_set_ne hij] at e2
      have := hx i u (fun q => hij q.symm) e2
      exact this.stays (fun g hg => hk hg (by decide)) (hmp this)
  · intro u hu
    obtain ⟨i, hi, e⟩ := List.mem_iff_getElem.1 hu
    have e2 : (T.set j { t with vs := vs', Fs := Fs' })[i]? = some u := by rw [List.getElem?_eq_getElem hi, e]
    by_cases hij : j = i
    · subst hij
      rw [List.getElem?_set_self hjl] at e2; injection e2 with e2; subst e2
      exact hrj
    · rw [List.getElem?_set_ne hij] at e2
      have hru := hr u (List.mem_of_getElem? e2)
      refine hru.stays (fun g hg => hk hg (by decide)) ?_
      refine hg.block u.sg hru.lt.2 ?_
      intro q
      injection q with q
      obtain ⟨a1, b1⟩ := List.getElem?_eq_some_iff.1 e2
      obtain ⟨a2, b2⟩ := List.getElem?_eq_some_iff.1 hj
      rcases Nat.lt_or_gt_of_ne hij with h1 | h1
      · have := (List.pairwise_iff_getElem.1 hap j i a2 a1 h1).1
        rw [b1, b2] at this
        exact this q.symm
      · have := (List.pairwise_iff_getElem.1 hap i j a1 a2 h1).1
        rw [b1, b2] at this
        exact this q
  · rw [List.pairwise_iff_getElem] at hap ⊢
    intro a b ha hb hab
    rw [List.length_set] at ha hb
    have hsame : ∀ c (hc : c < T.length), ((T.set j { t with vs := vs', Fs := Fs' })[c]'(by rw [List.length_set]; exact hc)).sg = T[c].sg ∧ ((T.set j { t with vs := vs', Fs := Fs' })[c]'(by rw [List.length_set]; exact hc)).ms = T[c].ms := by
      intro c hc
      rw [List.getElem_set]
      split
      · rename_i q
        subst q
        have := (List.getElem?_eq_some_iff.1 hj).2
        rw [this]
        exact ⟨rfl, rfl⟩
      · exact ⟨rfl, rfl⟩
    rw [(hsame a ha).1, (hsame b hb).1, (hsame a ha).2, (hsame b hb).2]
    exact hap a b ha hb hab
end Go.Proofs.YtgdfipmdmgkidaaGreatDoor
