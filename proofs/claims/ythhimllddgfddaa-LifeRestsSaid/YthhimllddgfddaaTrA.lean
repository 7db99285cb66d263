/- Trees of expressions and of terms: the model, and what stands in memory. Conditions: those written at each theorem. -/
import Derived.Test.YthhimllddgfddaaPost
import Derived.Lib.SmallJoins
namespace Go.Proofs.Ythhimllddgfddaa
open Go.RowKit
set_option linter.unusedVariables false
set_option linter.unusedSimpArgs false
/-- An expression. -/
inductive Xp where
  | mk (op n : Int) (nm : ByteArray) (args : List Xp)
/-- A term. -/
inductive Tr where
  | mk (op : Int) (nm : ByteArray) (exprs : List Xp) (terms : List Tr)
def Xp.op : Xp → Int | .mk o _ _ _ => o
def Xp.n : Xp → Int | .mk _ n _ _ => n
def Xp.nm : Xp → ByteArray | .mk _ _ s _ => s
def Xp.args : Xp → List Xp | .mk _ _ _ l => l
def Tr.op : Tr → Int | .mk o _ _ _ => o
def Tr.nm : Tr → ByteArray | .mk _ s _ _ => s
def Tr.exprs : Tr → List Xp | .mk _ _ e _ => e
def Tr.terms : Tr → List Tr | .mk _ _ _ l => l
/-- Nodes and depth. -/
def Xp.cnt : Xp → Nat
  | .mk _ _ _ l => 1 + cnts l
where cnts : List Xp → Nat
  | [] => 0
  | x :: t => x.cnt + cnts t
def Xp.dep : Xp → Nat
  | .mk _ _ _ l => 1 + deps l
where deps : List Xp → Nat
  | [] => 0
  | x :: t => max x.dep (deps t)
def Tr.cnt : Tr → Nat
  | .mk _ _ e l => 1 + Xp.cnt.cnts e + cnts l
where cnts : List Tr → Nat
  | [] => 0
  | x :: t => x.cnt + cnts t
def Tr.dep : Tr → Nat
  | .mk _ _ e l => 1 + max (Xp.dep.deps e) (deps l)
where deps : List Tr → Nat
  | [] => 0
  | x :: t => max x.dep (deps t)
abbrev exV (x : Xp) (bo : Option Addr) (k : Nat) : Value := .agg #[.int .i64 x.op, .int .i64 x.n, .string x.nm, .slice bo x.args.length k]
abbrev trV (t : Tr) (eo : Option Addr) (ek : Nat) (to : Option Addr) (tk : Nat) : Value := .agg #[.int .i64 t.op, .string t.nm, .slice eo t.exprs.length ek, .slice to t.terms.length tk]
/-- Four cells side by side. -/
def FourX (w : World) (a : Addr) (v0 v1 v2 v3 : Value) : Prop :=
  w.cell? a = some v0 ∧ w.cell? ⟨a.block, a.off + 1, none⟩ = some v1 ∧ w.cell? ⟨a.block, a.off + 2, none⟩ = some v2 ∧ w.cell? ⟨a.block, a.off + 3, none⟩ = some v3
theorem cell_heap {w w' : World} {a : Addr} (h : w'.heap[a.block]? = w.heap[a.block]?) : w'.cell? a = w.cell? a := by
  unfold World.cell?
  rw [h]
theorem FourX.stay {w w' : World} {a : Addr} {v0 v1 v2 v3 : Value} (h : FourX w a v0 v1 v2 v3) (hb : w'.heap[a.block]? = w.heap[a.block]?) : FourX w' a v0 v1 v2 v3 :=
  ⟨(cell_heap hb).trans h.1, (cell_heap (a := ⟨a.block, a.off + 1, none⟩) hb).trans h.2.1, (cell_heap (a := ⟨a.block, a.off + 2, none⟩) hb).trans h.2.2.1, (cell_heap (a := ⟨a.block, a.off + 3, none⟩) hb).trans h.2.2.2⟩
theorem add_block (a : Addr) (j : Nat) : (a.add j).block = a.block := by unfold Addr.add; split <;> rfl
mutual
/-- An expression's operands stand in memory, in blocks of S. -/
def ExA (S : Nat → Prop) (w : World) : Xp → Option Addr → Prop
  | .mk _ _ _ l, ao => l ≠ [] → ∃ a, ao = some a ∧ S a.block ∧ ExR S w l a 0
def ExR (S : Nat → Prop) (w : World) : List Xp → Addr → Nat → Prop
  | [], _, _ => True
  | x :: t, a, j => (∃ bo k, x.args.length ≤ k ∧ FourX w (a.add (j * 4)) (.int .i64 x.op) (.int .i64 x.n) (.string x.nm) (.slice bo x.args.length k) ∧ ExA S w x bo) ∧ ExR S w t a (j + 1)
end
/-- A list of expressions in memory. -/
def ExL (S : Nat → Prop) (w : World) (l : List Xp) (ao : Option Addr) : Prop := l ≠ [] → ∃ a, ao = some a ∧ S a.block ∧ ExR S w l a 0
theorem ExA.list {S : Nat → Prop} {w : World} {x : Xp} {ao : Option Addr} (h : ExA S w x ao) : ExL S w x.args ao := by
  cases x
  unfold ExA at h
  exact h
theorem ExL.mk {S : Nat → Prop} {w : World} {x : Xp} {ao : Option Addr} (h : ExL S w x.args ao) : ExA S w x ao := by
  cases x
  unfold ExA
  exact h
mutual
/-- What a term has within stands in memory. -/
def TrA (S : Nat → Prop) (w : World) : Tr → Option Addr → Option Addr → Prop
  | .mk _ _ e l, eo, to => ExL S w e eo ∧ (l ≠ [] → ∃ a, to = some a ∧ S a.block ∧ TrR S w l a 0)
def TrR (S : Nat → Prop) (w : World) : List Tr → Addr → Nat → Prop
  | [], _, _ => True
  | x :: t, a, j => (∃ eo ek to tk, x.exprs.length ≤ ek ∧ x.terms.length ≤ tk ∧ FourX w (a.add (j * 4)) (.int .i64 x.op) (.string x.nm) (.slice eo x.exprs.length ek) (.slice to x.terms.length tk) ∧ TrA S w x eo to) ∧ TrR S w t a (j + 1)
end
def TrL (S : Nat → Prop) (w : World) (l : List Tr) (ao : Option Addr) : Prop := l ≠ [] → ∃ a, ao = some a ∧ S a.block ∧ TrR S w l a 0
theorem TrA.both {S : Nat → Prop} {w : World} {x : Tr} {eo to : Option Addr} (h : TrA S w x eo to) : ExL S w x.exprs eo ∧ TrL S w x.terms to := by
  cases x
  unfold TrA at h
  exact h
theorem TrA.mk {S : Nat → Prop} {w : World} {x : Tr} {eo to : Option Addr} (h : ExL S w x.exprs eo) (k : TrL S w x.terms to) : TrA S w x eo to := by
  cases x
  unfold TrA
  exact ⟨h, k⟩
/-- What stands in blocks that are as they were is as it was. -/
theorem exA_stay {S T : Nat → Prop} {w w' : World} (hT : ∀ b, S b → T b) (hS : ∀ b, S b → w'.heap[b]? = w.heap[b]?) : (∀ x ao, ExA S w x ao → ExA T w' x ao) ∧ (∀ l a j, S a.block → ExR S w l a j → ExR T w' l a j) := by
  have hx : ∀ x : Xp, ∀ ao, ExA S w x ao → ExA T w' x ao := by
    intro x
    induction x using Xp.rec (motive_2 := fun l => ∀ a j, S a.block → ExR S w l a j → ExR T w' l a j) with
    | mk o n s l ih =>
      intro ao h
      unfold ExA at h ⊢
      intro hl
      obtain ⟨a, h1, h2, h3⟩ := h hl
      exact ⟨a, h1, hT _ h2, ih a 0 h2 h3⟩
    | nil => unfold ExR; trivial
    | cons x t ih1 ih2 =>
      rename_i a j hs h
      unfold ExR at h ⊢
      obtain ⟨⟨bo, k, h1, h2, h3⟩, h4⟩ := h
      exact ⟨⟨bo, k, h1, h2.stay (by rw [add_block]; exact hS _ hs), ih1 _ h3⟩, ih2 a (j + 1) hs h4⟩
  refine ⟨hx, fun l => ?_⟩
  induction l with
  | nil => intro _ _ _ _; unfold ExR; trivial
  | cons x t ih =>
    intro a j hs h
    unfold ExR at h ⊢
    obtain ⟨⟨bo, k, h1, h2, h3⟩, h4⟩ := h
    exact ⟨⟨bo, k, h1, h2.stay (by rw [add_block]; exact hS _ hs), hx _ _ h3⟩, ih a (j + 1) hs h4⟩
theorem ExL.stay {S T : Nat → Prop} {w w' : World} {l : List Xp} {ao : Option Addr} (h : ExL S w l ao) (hT : ∀ b, S b → T b) (hS : ∀ b, S b → w'.heap[b]? = w.heap[b]?) : ExL T w' l ao := by
  intro hl
  obtain ⟨a, h1, h2, h3⟩ := h hl
  exact ⟨a, h1, hT _ h2, (exA_stay hT hS).2 l a 0 h2 h3⟩
theorem trA_stay {S T : Nat → Prop} {w w' : World} (hT : ∀ b, S b → T b) (hS : ∀ b, S b → w'.heap[b]? = w.heap[b]?) : (∀ x eo to, TrA S w x eo to → TrA T w' x eo to) ∧ (∀ l a j, S a.block → TrR S w l a j → TrR T w' l a j) := by
  have hx : ∀ x : Tr, ∀ eo to, TrA S w x eo to → TrA T w' x eo to := by
    intro x
    induction x using Tr.rec (motive_2 := fun l => ∀ a j, S a.block → TrR S w l a j → TrR T w' l a j) with
    | mk o s e l ih =>
      intro eo to h
      unfold TrA at h ⊢
      refine ⟨h.1.stay hT hS, fun hl => ?_⟩
      obtain ⟨a, h1, h2, h3⟩ := h.2 hl
      exact ⟨a, h1, hT _ h2, ih a 0 h2 h3⟩
    | nil => unfold TrR; trivial
    | cons x t ih1 ih2 =>
      rename_i a j hs h
      unfold TrR at h ⊢
      obtain ⟨⟨eo, ek, to, tk, h1, h1', h2, h3⟩, h4⟩ := h
      exact ⟨⟨eo, ek, to, tk, h1, h1', h2.stay (by rw [add_block]; exact hS _ hs), ih1 _ _ h3⟩, ih2 a (j + 1) hs h4⟩
  refine ⟨hx, fun l => ?_⟩
  induction l with
  | nil => intro _ _ _ _; unfold TrR; trivial
  | cons x t ih =>
    intro a j hs h
    unfold TrR at h ⊢
    obtain ⟨⟨eo, ek, to, tk, h1, h1', h2, h3⟩, h4⟩ := h
    exact ⟨⟨eo, ek, to, tk, h1, h1', h2.stay (by rw [add_block]; exact hS _ hs), hx _ _ _ h3⟩, ih a (j + 1) hs h4⟩
theorem TrL.stay {S T : Nat → Prop} {w w' : World} {l : List Tr} {ao : Option Addr} (h : TrL S w l ao) (hT : ∀ b, S b → T b) (hS : ∀ b, S b → w'.heap[b]? = w.heap[b]?) : TrL T w' l ao := by
  intro hl
  obtain ⟨a, h1, h2, h3⟩ := h hl
  exact ⟨a, h1, hT _ h2, (trA_stay hT hS).2 l a 0 h2 h3⟩
/-- One of a list's. -/
theorem ExR.get {S : Nat → Prop} {w : World} : ∀ {l : List Xp} {a : Addr} {j : Nat}, ExR S w l a j → ∀ (i : Nat) (x : Xp), l[i]? = some x → ∃ bo k, x.args.length ≤ k ∧ FourX w (a.add ((j + i) * 4)) (.int .i64 x.op) (.int .i64 x.n) (.string x.nm) (.slice bo x.args.length k) ∧ ExL S w x.args bo
  | [], _, _, _, i, x, hx => by simp at hx
  | y :: t, a, j, h, 0, x, hx => by
    simp at hx
    subst hx
    unfold ExR at h
    obtain ⟨⟨bo, k, h1, h2, h3⟩, _⟩ := h
    exact ⟨bo, k, h1, h2, h3.list⟩
  | y :: t, a, j, h, i + 1, x, hx => by
    unfold ExR at h
    have := ExR.get h.2 i x (by simpa using hx)
    rwa [show j + 1 + i = j + (i + 1) from by omega] at this
theorem ExL.get {S : Nat → Prop} {w : World} {l : List Xp} {ao : Option Addr} (h : ExL S w l ao) {i : Nat} {x : Xp} (hx : l[i]? = some x) : ∃ a bo k, ao = some a ∧ S a.block ∧ x.args.length ≤ k ∧ FourX w (a.add (i * 4)) (.int .i64 x.op) (.int .i64 x.n) (.string x.nm) (.slice bo x.args.length k) ∧ ExL S w x.args bo := by
  obtain ⟨a, h1, h2, h3⟩ := h (by intro e; rw [e] at hx; simp at hx)
  obtain ⟨bo, k, h4, h5, h6⟩ := h3.get i x hx
  rw [Nat.zero_add] at h5
  exact ⟨a, bo, k, h1, h2, h4, h5, h6⟩
theorem TrR.get {S : Nat → Prop} {w : World} : ∀ {l : List Tr} {a : Addr} {j : Nat}, TrR S w l a j → ∀ (i : Nat) (x : Tr), l[i]? = some x → ∃ eo ek to tk, x.exprs.length ≤ ek ∧ x.terms.length ≤ tk ∧ FourX w (a.add ((j + i) * 4)) (.int .i64 x.op) (.string x.nm) (.slice eo x.exprs.length ek) (.slice to x.terms.length tk) ∧ ExL S w x.exprs eo ∧ TrL S w x.terms to
  | [], _, _, _, i, x, hx => by simp at hx
  | y :: t, a, j, h, 0, x, hx => by
    simp at hx
    subst hx
    unfold TrR at h
    obtain ⟨⟨eo, ek, to, tk, h1, h1', h2, h3⟩, _⟩ := h
    exact ⟨eo, ek, to, tk, h1, h1', h2, h3.both⟩
  | y :: t, a, j, h, i + 1, x, hx => by
    unfold TrR at h
    have := TrR.get h.2 i x (by simpa using hx)
    rwa [show j + 1 + i = j + (i + 1) from by omega] at this
theorem TrL.get {S : Nat → Prop} {w : World} {l : List Tr} {ao : Option Addr} (h : TrL S w l ao) {i : Nat} {x : Tr} (hx : l[i]? = some x) : ∃ a eo ek to tk, ao = some a ∧ S a.block ∧ x.exprs.length ≤ ek ∧ x.terms.length ≤ tk ∧ FourX w (a.add (i * 4)) (.int .i64 x.op) (.string x.nm) (.slice eo x.exprs.length ek) (.slice to x.terms.length tk) ∧ ExL S w x.exprs eo ∧ TrL S w x.terms to := by
  obtain ⟨a, h1, h2, h3⟩ := h (by intro e; rw [e] at hx; simp at hx)
  obtain ⟨eo, ek, to, tk, h4, h4', h5, h6⟩ := h3.get i x hx
  rw [Nat.zero_add] at h5
  exact ⟨a, eo, ek, to, tk, h1, h2, h4, h4', h5, h6⟩
theorem cnts_take {l : List Xp} {j : Nat} {x : Xp} (h : l[j]? = some x) : Xp.cnt.cnts (l.take (j + 1)) = Xp.cnt.cnts (l.take j) + x.cnt := by
  induction l generalizing j with
  | nil => simp at h
  | cons y t ih =>
    cases j with
    | zero => simp at h; subst h; simp [Xp.cnt.cnts]
    | succ j => simp at h; simp [Xp.cnt.cnts, ih h]; omega
theorem deps_take {l : List Xp} {j : Nat} {x : Xp} (h : l[j]? = some x) : Xp.dep.deps (l.take (j + 1)) = max (Xp.dep.deps (l.take j)) x.dep := by
  induction l generalizing j with
  | nil => simp at h
  | cons y t ih =>
    cases j with
    | zero => simp at h; subst h; simp [Xp.dep.deps]
    | succ j => simp at h; simp [Xp.dep.deps, ih h, Nat.max_assoc]
theorem tcnts_take {l : List Tr} {j : Nat} {x : Tr} (h : l[j]? = some x) : Tr.cnt.cnts (l.take (j + 1)) = Tr.cnt.cnts (l.take j) + x.cnt := by
  induction l generalizing j with
  | nil => simp at h
  | cons y t ih =>
    cases j with
    | zero => simp at h; subst h; simp [Tr.cnt.cnts]
    | succ j => simp at h; simp [Tr.cnt.cnts, ih h]; omega
theorem tdeps_take {l : List Tr} {j : Nat} {x : Tr} (h : l[j]? = some x) : Tr.dep.deps (l.take (j + 1)) = max (Tr.dep.deps (l.take j)) x.dep := by
  induction l generalizing j with
  | nil => simp at h
  | cons y t ih =>
    cases j with
    | zero => simp at h; subst h; simp [Tr.dep.deps]
    | succ j => simp at h; simp [Tr.dep.deps, ih h, Nat.max_assoc]
theorem cnts_in {l : List Xp} {j : Nat} {x : Xp} (h : l[j]? = some x) : x.cnt ≤ Xp.cnt.cnts l ∧ x.dep ≤ Xp.dep.deps l := by
  induction l generalizing j with
  | nil => simp at h
  | cons y t ih =>
    cases j with
    | zero => simp at h; subst h; simp [Xp.cnt.cnts, Xp.dep.deps] <;> omega
    | succ j => simp at h; have := ih h; simp [Xp.cnt.cnts, Xp.dep.deps]; omega
theorem tcnts_in {l : List Tr} {j : Nat} {x : Tr} (h : l[j]? = some x) : x.cnt ≤ Tr.cnt.cnts l ∧ x.dep ≤ Tr.dep.deps l := by
  induction l generalizing j with
  | nil => simp at h
  | cons y t ih =>
    cases j with
    | zero => simp at h; subst h; simp [Tr.cnt.cnts, Tr.dep.deps] <;> omega
    | succ j => simp at h; have := ih h; simp [Tr.cnt.cnts, Tr.dep.deps]; omega
theorem Xp.cnt_eq (x : Xp) : x.cnt = 1 + Xp.cnt.cnts x.args := by cases x; rfl
theorem Xp.dep_eq (x : Xp) : x.dep = 1 + Xp.dep.deps x.args := by cases x; rfl
theorem Tr.cnt_eq (x : Tr) : x.cnt = 1 + Xp.cnt.cnts x.exprs + Tr.cnt.cnts x.terms := by cases x; rfl
theorem Tr.dep_eq (x : Tr) : x.dep = 1 + max (Xp.dep.deps x.exprs) (Tr.dep.deps x.terms) := by cases x; rfl
end Go.Proofs.Ythhimllddgfddaa
