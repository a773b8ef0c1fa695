/- What an append of marks to a list of marks leaves: every list that showed the mark shows it on. -/
import Derived.Test.YtgdfipmdmgkidaaGreatDoorWbook
namespace Go.Proofs.YtgdfipmdmgkidaaGreatDoor
open Go.RowKit

theorem strs_marks (n : Nat) (m : ByteArray) : strs (marks n m) = List.replicate n (.string m) := by simp [marks]

theorem mem_rep {α : Type} {l : List α} {n : Nat} {M b : α} (h : l = List.replicate n M) (hb : b ∈ l) : b = M := by
  subst h
  exact List.eq_of_mem_replicate hb

theorem splice_marks {α : Type} {l : List α} {n k n0 : Nat} {M : α} (h1 : l.take n = List.replicate n M) (h2 : l.take n0 = List.replicate n0 M) (hl : n + k ≤ l.length) :
    (l.take n ++ List.replicate k M ++ l.drop (n + k)).take n0 = List.replicate n0 M := by
  have hn0 : n0 ≤ l.length := by have := congrArg List.length h2; simp at this; omega
  rw [List.eq_replicate_iff]
  refine ⟨by simp; omega, fun b hb => ?_⟩
  obtain ⟨j, hj, rfl⟩ := List.mem_iff_getElem.1 hb
  have hj0 : j < n0 := by simp at hj; omega
  rw [List.getElem_take]
  by_cases a : j < n + k
  · rw [List.getElem_append_left (by simp; omega)]
    by_cases c : j < n
    · rw [List.getElem_append_left (by simp; omega)]
      exact mem_rep h1 (List.getElem_mem _)
    · rw [List.getElem_append_right (by simp; omega)]
      simp
  · rw [List.getElem_append_right (by simp; omega), List.getElem_drop]
    have e : n + k + (j - (l.take n ++ List.replicate k M).length) = j := by simp; omega
    have := mem_rep h2 (List.getElem_mem (show j < (l.take n0).length by simp; omega))
    rw [List.getElem_take] at this
    simp only [e]
    exact this

/-- Every row that shows the mark m in w shows it in w'. -/
def KeepsMarks (m : ByteArray) (w w' : World) : Prop := ∀ lo v n, w.ownsRow lo 9 1 v n (strs (marks n m)) → w'.ownsRow lo 9 1 v n (strs (marks n m))

theorem KeepsMarks.trans {m : ByteArray} {a b c : World} (h : KeepsMarks m a b) (k : KeepsMarks m b c) : KeepsMarks m a c := fun lo v n x => k lo v n (h lo v n x)
theorem KeepsMarks.alloc (m : ByteArray) (w : World) (o : Obj) : KeepsMarks m w (w.alloc o) := fun _ _ _ x => x.alloc o
theorem KeepsMarks.refl (m : ByteArray) (w : World) : KeepsMarks m w w := fun _ _ _ x => x

theorem keeps_old {m : ByteArray} {w w' : World} (h : ∀ k, k < w.heap.size → w'.heap[k]? = w.heap[k]?) : KeepsMarks m w w' := by
  intro lo v n x
  refine ⟨x.1, ?_⟩
  rcases x.2 with x2 | ⟨g, cap, cur, a, b, c, d⟩
  · exact .inl x2
  · exact .inr ⟨g, cap, cur, a, b, by rw [h g (Array.getElem?_eq_some_iff.1 c).1]; exact c, d⟩

theorem run_append_marks (w : World) (base ty : Nat) (v : Value) (n : Nat) (m : ByteArray) (hown : w.ownsRow base 9 1 v n (strs (marks n m)))
    (a : Addr) (k c : Nat) (hnews : ∀ j u, (strs (marks k m))[j]? = some u → w.cell? (a.add j) = some u)
    (hbytes : (n + k) * 16 ≤ 140737488355328) (hbase : base ≤ w.heap.size) :
    ∃ v' w', (Builtin.append_ #[35, 35] ty #[v, .slice (some a) k c]).run Tryz.prog w = .ok v' w' ∧ w'.ownsRow base 9 1 v' (n + k) (strs (marks (n + k) m)) ∧ w.grownBy w' v.ownBlock ∧ KeepsMarks m w w' := by
  obtain ⟨i0, hi, hz0, hz1, hz2⟩ := info_parts Tryz.info9
  have hm63 : n + k ≤ maxLen := by unfold maxLen; omega
  obtain ⟨v', w', hr, h2, h3, h4⟩ := run_append_own (P := Tryz.prog) w base 35 ty 9 i0 (.string ⟨#[]⟩) 1 16 Tryz.underlying35 hi hz0 hz1 hz2 rfl (by decide) v n _ hown a k c (strs (marks k m)) (by simp [marks]) hnews (strs_one _) hm63 hbytes hbase
  have e : strs (marks n m) ++ strs (marks k m) = strs (marks (n + k) m) := by simp [marks]
  rw [e] at h2
  refine ⟨v', w', hr, h2, h3, ?_⟩
  rcases hown.2 with ⟨rfl, rfl⟩ | ⟨g, cap, cur, rfl, hbg, hg, hnc, hcm, hcs, htake⟩
  · exact keeps_old fun k hk => h3.block k hk (by simp [Value.ownBlock])
  · by_cases hroom : n + k ≤ cap
    · have hr2 := run_append_room (P := Tryz.prog) w 35 ty 9 i0 Tryz.underlying35 hi g n cap cur hg a k c (strs (marks k m)) (by simp [marks, hz1]) hnews (strs_one _) hroom (by simp [marks, hz1]; omega)
      rw [hr] at hr2
      simp only [Result.ok.injEq] at hr2
      obtain ⟨_, rfl⟩ := hr2
      intro lo v0 n0 x
      refine ⟨x.1, ?_⟩
      rcases x.2 with x2 | ⟨g0, cap0, cur0, a0, b0, c0, d0, d1, d2, d3⟩
      · exact .inl x2
      · by_cases hgg : g0 = g
        · subst hgg
          rw [hg] at c0
          simp only [Option.some.injEq, Obj.cells.injEq, and_true] at c0
          subst c0
          refine .inr ⟨g0, cap0, _, a0, b0, setRow_heap w g0 cur _ 9 _ hg, d0, d1, ?_, ?_⟩
          · simp [marks, hz1]
            omega
          · rw [strs_marks] at htake d3 ⊢
            simp only [Nat.mul_one, hz1, strs_marks, List.length_replicate] at htake d3 ⊢
            exact splice_marks htake d3 (by simp; omega)
        · exact .inr ⟨g0, cap0, cur0, a0, b0, by rw [setRow_other w g g0 _ hgg]; exact c0, d0, d1, d2, d3⟩
    · have hr2 := run_append_grow (P := Tryz.prog) w 35 ty 9 i0 (.string ⟨#[]⟩) Tryz.underlying35 hi hz0 ⟨g, 0, none⟩ n cap (strs (marks n m)) (by simp [marks, hz1]) (hown.cells (g := g) rfl) a k c (strs (marks k m)) (by simp [marks, hz1]) hnews (by omega) (by omega) (growslice_fits (by omega) (by rw [hz2]; exact hbytes))
      rw [hr] at hr2
      simp only [Result.ok.injEq] at hr2
      obtain ⟨_, rfl⟩ := hr2
      exact keeps_old fun k hk => Below.heap_alloc w.drew _ k hk

theorem wpList_append_marks (w : World) {ops : Array Oper} {rest : List Oper} {o : Oper} {a : Act} {Q : Exit → Act → World → Prop} (hgd : o.guard = none) (s x : Operand)
    (ho : o.op = .call { callee := .builtin .append, args := #[s, x], argTypes := #[35, 35] })
    (base : Nat) (v : Value) (n : Nat) (m : ByteArray) (hs : a.eval s = v) (hown : w.ownsRow base 9 1 v n (strs (marks n m)))
    (ad : Addr) (k c : Nat) (hx : a.eval x = .slice (some ad) k c) (hnews : ∀ j u, (strs (marks k m))[j]? = some u → w.cell? (ad.add j) = some u)
    (hbytes : (n + k) * 16 ≤ 140737488355328) (hbase : base ≤ w.heap.size)
    (h : ∀ v' w', w'.ownsRow base 9 1 v' (n + k) (strs (marks (n + k) m)) → w.grownBy w' v.ownBlock → KeepsMarks m w w' → wpList Tryz.prog ops Q rest (a.put o.dst v') w') : wpList Tryz.prog ops Q (o :: rest) a w := by
  refine wpList_plain hgd fun K hK => ?_
  obtain ⟨v', w', hr, h2, h3, h4⟩ := run_append_marks w base o.type v n m hown ad k c hnews hbytes hbase
  unfold Oper.wp execOp
  simp only [ho, resolve, invoke, builtin, Sem.run_bind, Sem.run_pure, Result.andThen_ok, List.map_toArray, List.map_cons, List.map_nil, hs, hx, hr]
  exact hK _ _ (h v' w' h2 h3 h4)
end Go.Proofs.YtgdfipmdmgkidaaGreatDoor
