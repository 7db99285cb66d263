/- Trees: how the document builds them, as data. Conditions: those written at each theorem. -/
import Derived.Test.YthhimllddgfddaaTrQ
import Derived.Test.YthhimllddgfddaaTrP
import Derived.Test.YthhimllddgfddaaTrJ
namespace Go.Proofs.Ythhimllddgfddaa
open Go.RowKit
set_option linter.unusedVariables false
set_option linter.unusedSimpArgs false
/-- Nodes and depth, as they are told. -/
def Xp.tN (x : Xp) : Nat := if 1000 ≤ x.cnt then 1000 else x.cnt
def Xp.tD (x : Xp) : Nat := if 1000 ≤ x.cnt then 1000 else x.dep
def Tr.tN (x : Tr) : Nat := if 1000 ≤ x.cnt then 1000 else x.cnt
def Tr.tD (x : Tr) : Nat := if 1000 ≤ x.cnt then 1000 else x.dep
def nSX (l : List Xp) : Nat := (l.map Xp.tN).sum
def nST (l : List Tr) : Nat := (l.map Tr.tN).sum
def dSX : List Xp → Nat
  | [] => 0
  | x :: t => max x.tD (dSX t)
def dST : List Tr → Nat
  | [] => 0
  | x :: t => max x.tD (dST t)
theorem nSX_snoc (l : List Xp) (x : Xp) : nSX (l ++ [x]) = nSX l + x.tN := by simp [nSX]
theorem nST_snoc (l : List Tr) (x : Tr) : nST (l ++ [x]) = nST l + x.tN := by simp [nST]
theorem dSX_snoc (l : List Xp) (x : Xp) : dSX (l ++ [x]) = max (dSX l) x.tD := by
  induction l with
  | nil => simp [dSX]
  | cons y t ih => simp [dSX, ih, Nat.max_assoc]
theorem dST_snoc (l : List Tr) (x : Tr) : dST (l ++ [x]) = max (dST l) x.tD := by
  induction l with
  | nil => simp [dST]
  | cons y t ih => simp [dST, ih, Nat.max_assoc]
theorem tX_in (x : Xp) : x.tN ≤ 1000 ∧ x.tD ≤ x.tN ∧ x.tN ≤ x.cnt := by
  have := x.dep_le
  unfold Xp.tN Xp.tD
  split <;> omega
theorem tT_in (x : Tr) : x.tN ≤ 1000 ∧ x.tD ≤ x.tN ∧ x.tN ≤ x.cnt := by
  have := x.dep_le
  unfold Tr.tN Tr.tD
  split <;> omega
theorem sumX (l : List Xp) : dSX l ≤ nSX l ∧ nSX l ≤ Xp.cnt.cnts l ∧ (nSX l < 1000 → nSX l = Xp.cnt.cnts l ∧ dSX l = Xp.dep.deps l) := by
  induction l with
  | nil => simp [dSX, nSX, Xp.cnt.cnts, Xp.dep.deps]
  | cons x t ih =>
    have h := tX_in x
    have e : nSX (x :: t) = x.tN + nSX t := by simp [nSX]
    simp only [dSX, e, Xp.cnt.cnts, Xp.dep.deps]
    refine ⟨by omega, by omega, fun hlt => ?_⟩
    have h2 := ih.2.2 (by omega)
    have h3 : x.tN = x.cnt ∧ x.tD = x.dep := by
      have : x.tN < 1000 := by omega
      unfold Xp.tN Xp.tD at *
      split at this
      · omega
      · rename_i hh; rw [if_neg hh, if_neg hh]; exact ⟨rfl, rfl⟩
    omega
theorem sumT (l : List Tr) : dST l ≤ nST l ∧ nST l ≤ Tr.cnt.cnts l ∧ (nST l < 1000 → nST l = Tr.cnt.cnts l ∧ dST l = Tr.dep.deps l) := by
  induction l with
  | nil => simp [dST, nST, Tr.cnt.cnts, Tr.dep.deps]
  | cons x t ih =>
    have h := tT_in x
    have e : nST (x :: t) = x.tN + nST t := by simp [nST]
    simp only [dST, e, Tr.cnt.cnts, Tr.dep.deps]
    refine ⟨by omega, by omega, fun hlt => ?_⟩
    have h2 := ih.2.2 (by omega)
    have h3 : x.tN = x.cnt ∧ x.tD = x.dep := by
      have : x.tN < 1000 := by omega
      unfold Tr.tN Tr.tD at *
      split at this
      · omega
      · rename_i hh; rw [if_neg hh, if_neg hh]; exact ⟨rfl, rfl⟩
    omega
/-- The sum that the document tells is the tree's. -/
theorem toldX (o n : Int) (s : ByteArray) (l : List Xp) : (if 1000 ≤ 1 + nSX l ∨ 1000 ≤ 1 + dSX l then 1000 else 1 + nSX l) = (Xp.mk o n s l).tN ∧ (if 1000 ≤ 1 + nSX l ∨ 1000 ≤ 1 + dSX l then 1000 else 1 + dSX l) = (Xp.mk o n s l).tD := by
  have h := sumX l
  unfold Xp.tN Xp.tD
  have h1 : (Xp.mk o n s l).cnt = 1 + Xp.cnt.cnts l := rfl
  have h2 : (Xp.mk o n s l).dep = 1 + Xp.dep.deps l := rfl
  generalize (Xp.mk o n s l).cnt = C at *
  generalize (Xp.mk o n s l).dep = D at *
  by_cases hc : 1000 ≤ 1 + nSX l
  · have hA : 1000 ≤ 1 + nSX l ∨ 1000 ≤ 1 + dSX l := .inl hc
    have hC : 1000 ≤ C := by omega
    simp only [if_pos hA, if_pos hC]
    exact ⟨trivial, trivial⟩
  · have h3 := h.2.2 (by omega)
    have hA : ¬ (1000 ≤ 1 + nSX l ∨ 1000 ≤ 1 + dSX l) := by omega
    have hC : ¬ 1000 ≤ C := by omega
    simp only [if_neg hA, if_neg hC]
    omega
theorem toldT (o : Int) (s : ByteArray) (e : List Xp) (l : List Tr) : (if 1000 ≤ 1 + nSX e + nST l ∨ 1000 ≤ 1 + max (dSX e) (dST l) then 1000 else 1 + nSX e + nST l) = (Tr.mk o s e l).tN ∧ (if 1000 ≤ 1 + nSX e + nST l ∨ 1000 ≤ 1 + max (dSX e) (dST l) then 1000 else 1 + max (dSX e) (dST l)) = (Tr.mk o s e l).tD := by
  have h := sumX e
  have k := sumT l
  unfold Tr.tN Tr.tD
  have h1 : (Tr.mk o s e l).cnt = 1 + Xp.cnt.cnts e + Tr.cnt.cnts l := rfl
  have h2 : (Tr.mk o s e l).dep = 1 + max (Xp.dep.deps e) (Tr.dep.deps l) := rfl
  generalize (Tr.mk o s e l).cnt = C at *
  generalize (Tr.mk o s e l).dep = D at *
  by_cases hc : 1000 ≤ 1 + nSX e + nST l
  · have hA : 1000 ≤ 1 + nSX e + nST l ∨ 1000 ≤ 1 + max (dSX e) (dST l) := .inl hc
    have hC : 1000 ≤ C := by omega
    simp only [if_pos hA, if_pos hC]
    exact ⟨trivial, trivial⟩
  · have h3 := h.2.2 (by omega)
    have k2 := k.2.2 (by omega)
    have hA : ¬ (1000 ≤ 1 + nSX e + nST l ∨ 1000 ≤ 1 + max (dSX e) (dST l)) := by omega
    have hC : ¬ 1000 ≤ C := by omega
    simp only [if_neg hA, if_neg hC]
    omega
/-- What stands within a node: earlier nodes. -/
def pick {α : Type} (xs : List α) (ks : List Int) : List α := if xs.length = 0 then [] else ks.filterMap fun k => xs[earl k xs.length]?
theorem pick_nil {α : Type} (xs : List α) : pick xs [] = [] := by unfold pick; split <;> rfl
theorem pick_snoc {α : Type} {xs : List α} (ks : List Int) (k : Int) {x : α} (hp : 0 < xs.length) (hx : xs[earl k xs.length]? = some x) : pick xs (ks ++ [k]) = pick xs ks ++ [x] := by
  unfold pick
  rw [if_neg (by omega), if_neg (by omega), List.filterMap_append]
  simp [hx]
theorem pick_empty {α : Type} (ks : List Int) : pick ([] : List α) ks = [] := by unfold pick; rfl
theorem pick_len {α : Type} (xs : List α) (ks : List Int) : (pick xs ks).length ≤ ks.length := by
  unfold pick
  split
  · simp
  · exact List.length_filterMap_le _ _
def bldX (xs : List Xp) (f : Lf) : Xp := .mk f.op f.n f.nm (pick xs (f.kids.take 5))
def bldT (xs : List Xp) (ts : List Tr) (f : Kn) : Tr := .mk f.op f.nm (pick xs (f.exprs.take 3)) (pick ts (f.terms.take 4))
def bXs (l : List Lf) : List Xp := l.foldl (fun xs f => xs ++ [bldX xs f]) []
def bTs (xs : List Xp) (l : List Kn) : List Tr := l.foldl (fun ts f => ts ++ [bldT xs ts f]) []
theorem bXs_snoc (l : List Lf) (f : Lf) : bXs (l ++ [f]) = bXs l ++ [bldX (bXs l) f] := by simp [bXs, List.foldl_append]
theorem bTs_snoc (xs : List Xp) (l : List Kn) (f : Kn) : bTs xs (l ++ [f]) = bTs xs l ++ [bldT xs (bTs xs l) f] := by simp [bTs, List.foldl_append]
theorem bXs_take {l : List Lf} {i : Nat} {f : Lf} (h : l[i]? = some f) : bXs (l.take (i + 1)) = bXs (l.take i) ++ [bldX (bXs (l.take i)) f] := by
  rw [List.take_add_one, h]
  exact bXs_snoc _ _
theorem bTs_take {xs : List Xp} {l : List Kn} {i : Nat} {f : Kn} (h : l[i]? = some f) : bTs xs (l.take (i + 1)) = bTs xs (l.take i) ++ [bldT xs (bTs xs (l.take i)) f] := by
  rw [List.take_add_one, h]
  exact bTs_snoc _ _ _
theorem bXs_len (l : List Lf) : ∀ i, i ≤ l.length → (bXs (l.take i)).length = i := by
  intro i
  induction i with
  | zero => intro _; rfl
  | succ i ih =>
    intro h
    rw [bXs_take (List.getElem?_eq_getElem (by omega)), List.length_append, ih (by omega)]
    rfl
theorem bTs_len (xs : List Xp) (l : List Kn) : ∀ i, i ≤ l.length → (bTs xs (l.take i)).length = i := by
  intro i
  induction i with
  | zero => intro _; rfl
  | succ i ih =>
    intro h
    rw [bTs_take (List.getElem?_eq_getElem (by omega)), List.length_append, ih (by omega)]
    rfl
/-- A tree that is built bears the names that were handed in. -/
theorem pick_mem {α : Type} {xs : List α} {ks : List Int} {y : α} (h : y ∈ pick xs ks) : y ∈ xs := by
  unfold pick at h
  split at h
  · cases h
  · obtain ⟨k, _, hk⟩ := List.mem_filterMap.1 h
    exact List.mem_of_getElem? hk
theorem bXs_fit (l : List Lf) (h : ∀ f ∈ l, f.nm.size ≤ maxLen) : ∀ i, i ≤ l.length → ∀ x ∈ bXs (l.take i), x.fit := by
  intro i
  induction i with
  | zero => intro _ x hx; simp [bXs] at hx
  | succ i ih =>
    intro hi x hx
    have hf : l[i]? = some l[i] := List.getElem?_eq_getElem (by omega)
    rw [bXs_take hf] at hx
    rcases List.mem_append.1 hx with hx | hx
    · exact ih (by omega) x hx
    · rw [List.mem_singleton] at hx
      subst hx
      refine (Xp.fit_eq _).2 ⟨h _ (List.getElem_mem _), (xfits_all _).2 fun y hy => ih (by omega) y (pick_mem hy)⟩
theorem bTs_fit (xs : List Xp) (hxs : ∀ x ∈ xs, x.fit) (l : List Kn) (h : ∀ f ∈ l, f.nm.size ≤ maxLen) : ∀ i, i ≤ l.length → ∀ x ∈ bTs xs (l.take i), x.fit := by
  intro i
  induction i with
  | zero => intro _ x hx; simp [bTs] at hx
  | succ i ih =>
    intro hi x hx
    have hf : l[i]? = some l[i] := List.getElem?_eq_getElem (by omega)
    rw [bTs_take hf] at hx
    rcases List.mem_append.1 hx with hx | hx
    · exact ih (by omega) x hx
    · rw [List.mem_singleton] at hx
      subst hx
      refine (Tr.fit_eq _).2 ⟨h _ (List.getElem_mem _), fun y hy => hxs y (pick_mem hy), (tfits_all _).2 fun y hy => ih (by omega) y (pick_mem hy)⟩
end Go.Proofs.Ythhimllddgfddaa
