/- Trees: the program's simple. Conditions: those written at each theorem. -/
import Derived.Test.YthhimllddgfddaaTrH
import Derived.Test.YthhimllddgfddaaTrJ
namespace Go.Proofs.Ythhimllddgfddaa
open Go.RowKit Go.PlainAid
set_option linter.unusedVariables false
set_option linter.unusedSimpArgs false
/-- What comes of a node by the rules, when all within is simple. -/
def simN (o : Int) (s : ByteArray) (es : List Xp) (ls : List Tr) : Tr :=
  if o = 4 then match ls with
    | a :: b :: _ => if a.op = 1 then b else if b.op = 1 then a else .mk o s es ls
    | _ => .mk o s es ls
  else if o = 3 then match ls with
    | a :: _ => if a.op = 3 then (match a.terms with | y :: _ => y | [] => .mk o s es ls) else if a.op = 1 then a else .mk o s es ls
    | _ => .mk o s es ls
  else if o = 6 then match ls, es with
    | a :: _, e :: _ => if a.op = 1 ∨ e.isO = true then a else .mk o s es ls
    | _, _ => .mk o s es ls
  else if o = 7 ∨ o = 8 then match ls with
    | a :: _ => if a.op = 1 then a else .mk o s es ls
    | _ => .mk o s es ls
  else .mk o s es ls
theorem simN_four (s : ByteArray) (es : List Xp) (a b : Tr) (t : List Tr) : simN 4 s es (a :: b :: t) = if a.op = 1 then b else if b.op = 1 then a else .mk 4 s es (a :: b :: t) := rfl
theorem simN_three (s : ByteArray) (es : List Xp) (a : Tr) (t : List Tr) : simN 3 s es (a :: t) = if a.op = 3 then (match a.terms with | y :: _ => y | [] => .mk 3 s es (a :: t)) else if a.op = 1 then a else .mk 3 s es (a :: t) := rfl
theorem simN_six (s : ByteArray) (e : Xp) (es : List Xp) (a : Tr) (t : List Tr) : simN 6 s (e :: es) (a :: t) = if a.op = 1 ∨ e.isO = true then a else .mk 6 s (e :: es) (a :: t) := rfl
theorem simN_seven (s : ByteArray) (es : List Xp) (a : Tr) (t : List Tr) : simN 7 s es (a :: t) = if a.op = 1 then a else .mk 7 s es (a :: t) := rfl
theorem simN_eight (s : ByteArray) (es : List Xp) (a : Tr) (t : List Tr) : simN 8 s es (a :: t) = if a.op = 1 then a else .mk 8 s es (a :: t) := rfl
def Tr.sim : Tr → Tr
  | .mk o s e l => simN o s e (sims l)
where sims : List Tr → List Tr
  | [] => []
  | x :: t => x.sim :: sims t
theorem sims_map (l : List Tr) : Tr.sim.sims l = l.map Tr.sim := by
  induction l with
  | nil => rfl
  | cons x t ih => simp [Tr.sim.sims, ih]
theorem Tr.sim_eq (x : Tr) : x.sim = simN x.op x.nm x.exprs (x.terms.map Tr.sim) := by cases x; simp [Tr.sim, sims_map, Tr.op, Tr.nm, Tr.exprs, Tr.terms]
/-- How many stand within a built term. -/
theorem blt_len {x : Tr} (h : x.blt = true) : (x.exprs.length : Int) = kidE x.op ∧ (x.terms.length : Int) = kidT x.op ∧ (∀ y ∈ x.terms, y.blt = true) ∧ (∀ y ∈ x.exprs, y.blt = true) := by
  rw [x.blt_eq, tblts_all] at h
  unfold okT at h
  simp only [Bool.and_eq_true, decide_eq_true_eq, List.all_eq_true] at h
  exact ⟨h.1.1.1.1, h.1.1.1.2, h.2, h.1.2⟩
theorem two_terms {l : List Tr} (h : l.length = 2) : ∃ a b, l = [a, b] := by
  match l, h with
  | [a, b], _ => exact ⟨a, b, rfl⟩
theorem one_of {α : Type} {l : List α} (h : l.length = 1) : ∃ a, l = [a] := by
  match l, h with
  | [a], _ => exact ⟨a, rfl⟩
theorem simN_blt (x : Tr) (ls : List Tr) (h : x.blt = true) (hl : ls.length = x.terms.length) (hb : ∀ y ∈ ls, y.blt = true) : (simN x.op x.nm x.exprs ls).blt = true := by
  have hmk : (Tr.mk x.op x.nm x.exprs ls).blt = true := by
    rw [Tr.blt_eq] at h ⊢
    simp only [Tr.op, Tr.nm, Tr.exprs, Tr.terms] at h ⊢
    simp only [Bool.and_eq_true] at h ⊢
    have h1 : okT x.op x.nm x.exprs.length ls.length = true := by rw [hl]; exact h.1.1
    exact ⟨⟨h1, h.1.2⟩, by rw [tblts_all, List.all_eq_true]; exact hb⟩
  have hy : ∀ a y t, a ∈ ls → a.terms = y :: t → y.blt = true := fun a y t ha e => (blt_len (hb a ha)).2.2.1 y (by rw [e]; exact List.mem_cons_self ..)
  unfold simN
  repeat' split
  all_goals first
    | exact hmk
    | (apply hb; simp; done)
    | (refine hy _ _ _ ?_ (by assumption); simp; done)
theorem sim_blt (x : Tr) : x.blt = true → x.sim.blt = true := by
  induction x using Tr.ind with
  | h x ih =>
    intro h
    rw [x.sim_eq]
    refine simN_blt x _ h (by simp) fun y hy => ?_
    obtain ⟨u, hu, rfl⟩ := List.mem_map.1 hy
    exact ih u hu ((blt_len h).2.2.1 u hu)
/-- What simple gives. -/
def SimPost (S : Nat → Prop) (w : World) (t : Tr) (e : Ending) (w' : World) : Prop := (∃ eo ek tb tk, e = .returned (trV t eo ek tb tk) ∧ TrOk (fun b => S b ∨ (w.heap.size ≤ b ∧ b < w'.heap.size)) w' t eo ek tb tk) ∧ Below w.heap.size w w'
theorem sim_fin {S R : Nat → Prop} {w X : World} {y : Nat} {t : Tr} {eo : Option Addr} {ek : Nat} {tb : Option Addr} {tk : Nat} (hb : Below w.heap.size w X) (hy : w.heap.size ≤ y) (hR : ∀ b, R b → b ≠ y ∧ (S b ∨ (w.heap.size ≤ b ∧ b < X.heap.size))) (ht : TrOk R X t eo ek tb tk) (x0 x1 x2 x3 : Value) :
    SimPost S w t (.returned (trV t eo ek tb tk)) ((((X.setCell ⟨y, 0, none⟩ x0).setCell ⟨y, 1, none⟩ x1).setCell ⟨y, 2, none⟩ x2).setCell ⟨y, 3, none⟩ x3) :=
  ⟨⟨eo, ek, tb, tk, rfl, ht.stay (fun b h => by simpa using (hR b h).2) (fun b h => by
    have hne := (hR b h).1
    exact (Below.heap_setCell _ _ _ _ hne).trans ((Below.heap_setCell _ _ _ _ hne).trans ((Below.heap_setCell _ _ _ _ hne).trans (Below.heap_setCell _ _ _ _ hne))))⟩,
   (((hb.setCell (p := ⟨y, 0, none⟩) hy _).setCell (p := ⟨y, 1, none⟩) hy _).setCell (p := ⟨y, 2, none⟩) hy _).setCell (p := ⟨y, 3, none⟩) hy _⟩
end Go.Proofs.Ythhimllddgfddaa
