/- Trees: what is simple is no greater, and simple. Conditions: those written at each theorem. -/
import Derived.Test.YtepoihokbcoidaaTrI
import Derived.Test.YtepoihokbcoidaaTrP
namespace Go.Proofs.Ytepoihokbcoidaa
open Go.RowKit Go.PlainAid
set_option linter.unusedVariables false
set_option linter.unusedSimpArgs false
theorem simN_or (o : Int) (s : ByteArray) (es : List Xp) (ls : List Tr) : simN o s es ls = .mk o s es ls ∨ (∃ a ∈ ls, simN o s es ls = a) ∨ (∃ a ∈ ls, ∃ y ∈ a.terms, simN o s es ls = y) := by
  unfold simN
  repeat' split
  all_goals first
    | exact .inl rfl
    | exact .inr (.inl ⟨_, List.mem_cons_self .., rfl⟩)
    | exact .inr (.inl ⟨_, List.mem_cons_of_mem _ (List.mem_cons_self ..), rfl⟩)
    | exact .inr (.inr ⟨_, List.mem_cons_self .., _, (by rename_i h; rw [h]; exact List.mem_cons_self ..), rfl⟩)
theorem tcnts_mem {l : List Tr} {a : Tr} (h : a ∈ l) : a.cnt ≤ Tr.cnt.cnts l ∧ a.dep ≤ Tr.dep.deps l := by
  obtain ⟨i, hi⟩ := List.mem_iff_getElem?.1 h
  exact tcnts_in hi
theorem term_in {a y : Tr} (h : y ∈ a.terms) : y.cnt < a.cnt ∧ y.dep < a.dep := by
  have h1 := tcnts_mem h
  rw [a.cnt_eq, a.dep_eq]
  omega
theorem simN_cnt (o : Int) (s : ByteArray) (es : List Xp) (ls : List Tr) : simN o s es ls = .mk o s es ls ∨ ((simN o s es ls).cnt < 1 + Xp.cnt.cnts es + Tr.cnt.cnts ls ∧ (simN o s es ls).dep < 1 + max (Xp.dep.deps es) (Tr.dep.deps ls)) := by
  rcases simN_or o s es ls with h | ⟨a, ha, h⟩ | ⟨a, ha, y, hy, h⟩
  · exact .inl h
  · right
    rw [h]
    have := tcnts_mem ha
    omega
  · right
    rw [h]
    have := tcnts_mem ha
    have := term_in hy
    omega
theorem sim_cnt (x : Tr) : x.sim.cnt ≤ x.cnt ∧ x.sim.dep ≤ x.dep := by
  induction x using Tr.ind with
  | h x ih =>
    have hl : ∀ l : List Tr, (∀ y ∈ l, y.sim.cnt ≤ y.cnt ∧ y.sim.dep ≤ y.dep) → Tr.cnt.cnts (l.map Tr.sim) ≤ Tr.cnt.cnts l ∧ Tr.dep.deps (l.map Tr.sim) ≤ Tr.dep.deps l := by
      intro l
      induction l with
      | nil => intro _; simp
      | cons a t ih2 =>
        intro h
        have h1 := ih2 fun y hy => h y (List.mem_cons_of_mem _ hy)
        have h2 := h a (List.mem_cons_self ..)
        simp [Tr.cnt.cnts, Tr.dep.deps]
        omega
    have h1 := hl _ ih
    have h2 := simN_cnt x.op x.nm x.exprs (x.terms.map Tr.sim)
    rw [x.sim_eq, x.cnt_eq, x.dep_eq]
    rcases h2 with h | h
    · rw [h]
      simp only [Tr.cnt, Tr.dep]
      omega
    · omega
theorem cnts_sim (l : List Tr) : Tr.cnt.cnts (l.map Tr.sim) ≤ Tr.cnt.cnts l := by
  induction l with
  | nil => simp
  | cons a t ih =>
    have := (sim_cnt a).1
    simp [Tr.cnt.cnts]
    omega
theorem map_id_of {l : List Tr} (h : l.map Tr.sim = l) : ∀ y ∈ l, y.sim = y := by
  induction l with
  | nil => intro y hy; cases hy
  | cons a t ih =>
    simp at h
    intro y hy
    rcases List.mem_cons.1 hy with rfl | hy
    · exact h.1
    · exact ih h.2 y hy
theorem sim_within {a : Tr} (h : a.sim = a) : ∀ y ∈ a.terms, y.sim = y := by
  rw [a.sim_eq] at h
  rcases simN_cnt a.op a.nm a.exprs (a.terms.map Tr.sim) with h1 | h1
  · rw [h1] at h
    have : (Tr.mk a.op a.nm a.exprs (a.terms.map Tr.sim)).terms = a.terms := by rw [h]
    exact map_id_of this
  · rw [h] at h1
    have := cnts_sim a.terms
    have := a.cnt_eq
    omega
theorem simN_sim (o : Int) (s : ByteArray) (es : List Xp) (ls : List Tr) (h : ∀ y ∈ ls, y.sim = y) : (simN o s es ls).sim = simN o s es ls := by
  rcases simN_or o s es ls with h1 | ⟨a, ha, h1⟩ | ⟨a, ha, y, hy, h1⟩
  · have hm : ls.map Tr.sim = ls := by
      rw [List.map_congr_left h]; simp
    have h2 : (Tr.mk o s es ls).sim = simN o s es (ls.map Tr.sim) := Tr.sim_eq _
    rw [h1, h2, hm, h1]
  · rw [h1]; exact h a ha
  · rw [h1]; exact sim_within (h a ha) y hy
theorem sim_sim (x : Tr) : x.sim.sim = x.sim := by
  induction x using Tr.ind with
  | h x ih =>
    rw [x.sim_eq]
    refine simN_sim _ _ _ _ fun y hy => ?_
    obtain ⟨u, hu, rfl⟩ := List.mem_map.1 hy
    exact ih u hu
theorem smp_cnt (x : Tr) : x.smp.cnt ≤ x.cnt ∧ x.smp.dep ≤ x.dep := by
  unfold Tr.smp
  split
  · exact sim_cnt x
  · exact ⟨Nat.le_refl _, Nat.le_refl _⟩
theorem sim_rgt {x : Tr} (h : x.rgt = true) : x.sim.rgt = true := by
  have h1 := sim_cnt x
  have h2 := sim_blt x (rgt_blt h)
  unfold Tr.rgt at h ⊢
  simp only [Bool.and_eq_true, decide_eq_true_eq] at h ⊢
  exact ⟨by omega, h2⟩
theorem fit_terms {a : Tr} (h : a.fit) : ∀ y ∈ a.terms, y.fit := (tfits_all _).1 ((a.fit_eq).1 h).2.2
theorem sim_fit (x : Tr) : x.fit → x.sim.fit := by
  induction x using Tr.ind with
  | h x ih =>
    intro hx
    have hf := (x.fit_eq).1 hx
    have hl : ∀ y ∈ x.terms.map Tr.sim, y.fit := by
      intro y hy
      obtain ⟨u, hu, rfl⟩ := List.mem_map.1 hy
      exact ih u hu (fit_terms hx u hu)
    rw [x.sim_eq]
    rcases simN_or x.op x.nm x.exprs (x.terms.map Tr.sim) with h | ⟨a, ha, h⟩ | ⟨a, ha, y, hy, h⟩
    · rw [h]
      exact (Tr.fit_eq _).2 ⟨hf.1, hf.2.1, (tfits_all _).2 hl⟩
    · rw [h]; exact hl a ha
    · rw [h]; exact fit_terms (hl a ha) y hy
end Go.Proofs.Ytepoihokbcoidaa
