/- Trees: rows of the call's own that hold expressions or terms; append. Conditions: those written at each theorem. -/
import Derived.Test.YthhimllddgfddaaTrD
import Derived.Test.YthhimllddgfddaaTmL
import Derived.Deep.AppendLies
namespace Go.Proofs.Ythhimllddgfddaa
open Go.RowKit Go.PlainAid
set_option linter.unusedVariables false
set_option linter.unusedSimpArgs false
abbrev Q4 := Value × Value × Value × Value
def flat4 (qs : List Q4) : List Value := qs.flatMap fun q => [q.1, q.2.1, q.2.2.1, q.2.2.2]
theorem flat4_len (qs : List Q4) : (flat4 qs).length = qs.length * 4 := by
  induction qs with
  | nil => rfl
  | cons q t ih => simp only [flat4, List.flatMap_cons, List.length_append, List.length_cons, List.length_nil] at ih ⊢; omega
theorem flat4_snoc (qs : List Q4) (q : Q4) : flat4 (qs ++ [q]) = flat4 qs ++ [q.1, q.2.1, q.2.2.1, q.2.2.2] := by simp [flat4]
theorem flat4_get : ∀ (qs : List Q4) (i : Nat) (q : Q4), qs[i]? = some q → ∀ k, k < 4 → (flat4 qs)[i * 4 + k]? = [q.1, q.2.1, q.2.2.1, q.2.2.2][k]?
  | [], i, q, h, k, hk => by simp at h
  | p :: t, 0, q, h, k, hk => by
    simp at h
    subst h
    rw [Nat.zero_mul, Nat.zero_add]
    simp only [flat4, List.flatMap_cons]
    rw [List.getElem?_append_left (by simpa using hk)]
  | p :: t, i + 1, q, h, k, hk => by
    have ih := flat4_get t i q (by simpa using h) k hk
    simp only [flat4, List.flatMap_cons] at ih ⊢
    rw [List.getElem?_append_right (by simp; omega)]
    simp only [List.length_cons, List.length_nil]
    rw [show (i + 1) * 4 + k - (0 + 1 + 1 + 1 + 1) = i * 4 + k from by omega]
    exact ih
/-- A row of the call's own, four cells an element. -/
def Row4 (w : World) (B : Nat) (T : TypeId) (v : Value) (qs : List Q4) : Prop := w.ownsRow B T 4 v qs.length (flat4 qs)
theorem Row4.nil (w : World) (B : Nat) (T : TypeId) : Row4 w B T (.slice none 0 0) [] := World.ownsRow_nil w B T 4
theorem Row4.stay {w w' : World} {B : Nat} {T : TypeId} {v : Value} {qs : List Q4} (h : Row4 w B T v qs) (hg : ∀ g, v.ownBlock = some g → w'.heap[g]? = w.heap[g]?) : Row4 w' B T v qs := row_stay h hg
theorem Row4.mono {w : World} {B B' : Nat} {T : TypeId} {v : Value} {qs : List Q4} (h : Row4 w B' T v qs) (hB : B ≤ B') : Row4 w B T v qs := row_mono h hB
theorem Row4.form {w : World} {B : Nat} {T : TypeId} {v : Value} {qs : List Q4} (h : Row4 w B T v qs) : ∃ a c, v = .slice a qs.length c ∧ qs.length ≤ c := by
  rcases h.2 with ⟨rfl, h0⟩ | ⟨g, cap, cur, rfl, _, _, hc, _⟩
  · exact ⟨none, 0, by rw [h0], by omega⟩
  · exact ⟨_, _, rfl, hc⟩
theorem Row4.lt {w : World} {B : Nat} {T : TypeId} {v : Value} {qs : List Q4} (h : Row4 w B T v qs) {g : Nat} (hg : v.ownBlock = some g) : g < w.heap.size ∧ B ≤ g := by
  rcases h.2 with ⟨rfl, h0⟩ | ⟨g', cap, cur, rfl, hb, hgg, _⟩
  · cases hg
  · cases hg
    exact ⟨lt_of_heap hgg, hb⟩
theorem Row4.get {w : World} {B : Nat} {T : TypeId} {va : Option Addr} {n c : Nat} {qs : List Q4} (h : Row4 w B T (.slice va n c) qs) {i : Nat} {q : Q4} (hq : qs[i]? = some q) : ∃ g, va = some ⟨g, 0, none⟩ ∧ g < w.heap.size ∧ B ≤ g ∧ FourX w ((⟨g, 0, none⟩ : Addr).add (i * 4)) q.1 q.2.1 q.2.2.1 q.2.2.2 := by
  have hi : i < qs.length := (List.getElem?_eq_some_iff.1 hq).1
  rcases h.2 with ⟨hv, h0⟩ | ⟨b, cp, cur, hv, hb, hg, hc, _, hsz, htk⟩
  · omega
  · injection hv with e1 e2 e3
    refine ⟨b, e1, lt_of_heap hg, hb, ?_⟩
    have hcell : ∀ k, k < 4 → w.cell? ⟨b, i * 4 + k, none⟩ = [q.1, q.2.1, q.2.2.1, q.2.2.2][k]? := by
      intro k hk
      rw [cell_blk hg, ← flat4_get qs i q hq k hk, ← htk, List.getElem?_take_of_lt (by omega)]
      simp
    have ea : ∀ j, (⟨b, 0, none⟩ : Addr).add j = ⟨b, j, none⟩ := fun j => by unfold Addr.add; split <;> simp_all
    rw [ea]
    exact ⟨hcell 0 (by omega), hcell 1 (by omega), hcell 2 (by omega), hcell 3 (by omega)⟩
/-- What the four values of an expression are. -/
def QX (S : Nat → Prop) (w : World) (x : Xp) (q : Q4) : Prop := ∃ bo k, q = (.int .i64 x.op, .int .i64 x.n, .string x.nm, .slice bo x.args.length k) ∧ x.args.length ≤ k ∧ ExL S w x.args bo
def QT (S : Nat → Prop) (w : World) (x : Tr) (q : Q4) : Prop := ∃ eo ek tb tk, q = (.int .i64 x.op, .string x.nm, .slice eo x.exprs.length ek, .slice tb x.terms.length tk) ∧ x.exprs.length ≤ ek ∧ x.terms.length ≤ tk ∧ ExL S w x.exprs eo ∧ TrL S w x.terms tb
theorem QX.stay {S T : Nat → Prop} {w w' : World} {x : Xp} {q : Q4} (h : QX S w x q) (hT : ∀ b, S b → T b) (hS : ∀ b, S b → w'.heap[b]? = w.heap[b]?) : QX T w' x q := by
  obtain ⟨bo, k, h1, h2, h3⟩ := h
  exact ⟨bo, k, h1, h2, h3.stay hT hS⟩
theorem QT.stay {S T : Nat → Prop} {w w' : World} {x : Tr} {q : Q4} (h : QT S w x q) (hT : ∀ b, S b → T b) (hS : ∀ b, S b → w'.heap[b]? = w.heap[b]?) : QT T w' x q := by
  obtain ⟨eo, ek, tb, tk, h1, h2, h3, h4, h5⟩ := h
  exact ⟨eo, ek, tb, tk, h1, h2, h3, h4.stay hT hS, h5.stay hT hS⟩
/-- A row that holds a list. -/
def Fits {α : Type} (R : α → Q4 → Prop) (l : List α) (qs : List Q4) : Prop := l.length = qs.length ∧ ∀ (i : Nat) x q, l[i]? = some x → qs[i]? = some q → R x q
theorem Fits.nil {α : Type} (R : α → Q4 → Prop) : Fits R [] [] := ⟨rfl, fun i x q h => by simp at h⟩
theorem Fits.snoc {α : Type} {R : α → Q4 → Prop} {l : List α} {qs : List Q4} (h : Fits R l qs) {x : α} {q : Q4} (hx : R x q) : Fits R (l ++ [x]) (qs ++ [q]) := by
  refine ⟨by simp [h.1], fun i y p hy hp => ?_⟩
  rcases Nat.lt_or_ge i l.length with hi | hi
  · rw [List.getElem?_append_left hi] at hy
    rw [List.getElem?_append_left (by rw [← h.1]; exact hi)] at hp
    exact h.2 i y p hy hp
  · rw [List.getElem?_append_right hi] at hy
    rw [List.getElem?_append_right (by rw [← h.1]; exact hi)] at hp
    rw [← h.1] at hp
    cases hk : i - l.length with
    | zero => rw [hk] at hy hp; simp at hy hp; subst hy hp; exact hx
    | succ k => rw [hk] at hy; simp at hy
theorem Fits.imp {α : Type} {R R' : α → Q4 → Prop} {l : List α} {qs : List Q4} (h : Fits R l qs) (hi : ∀ x q, R x q → R' x q) : Fits R' l qs := ⟨h.1, fun i x q hx hq => hi _ _ (h.2 i x q hx hq)⟩
theorem Fits.get {α : Type} {R : α → Q4 → Prop} {l : List α} {qs : List Q4} (h : Fits R l qs) {i : Nat} {x : α} (hx : l[i]? = some x) : ∃ q, qs[i]? = some q ∧ R x q := by
  have hi : i < l.length := (List.getElem?_eq_some_iff.1 hx).1
  exact ⟨_, List.getElem?_eq_getElem (by rw [← h.1]; exact hi), h.2 i x _ hx (List.getElem?_eq_getElem _)⟩
theorem ExR.mk {S : Nat → Prop} {w : World} : ∀ {l : List Xp} {a : Addr} {j : Nat}, (∀ (i : Nat) (x : Xp), l[i]? = some x → ∃ bo k, x.args.length ≤ k ∧ FourX w (a.add ((j + i) * 4)) (.int .i64 x.op) (.int .i64 x.n) (.string x.nm) (.slice bo x.args.length k) ∧ ExL S w x.args bo) → ExR S w l a j
  | [], _, _, _ => by unfold ExR; trivial
  | x :: t, a, j, h => by
    unfold ExR
    obtain ⟨bo, k, h1, h2, h3⟩ := h 0 x rfl
    refine ⟨⟨bo, k, h1, h2, h3.mk⟩, ExR.mk fun i y hy => ?_⟩
    have := h (i + 1) y (by simpa using hy)
    rwa [show j + (i + 1) = j + 1 + i from by omega] at this
theorem TrR.mk {S : Nat → Prop} {w : World} : ∀ {l : List Tr} {a : Addr} {j : Nat}, (∀ (i : Nat) (x : Tr), l[i]? = some x → ∃ eo ek tb tk, x.exprs.length ≤ ek ∧ x.terms.length ≤ tk ∧ FourX w (a.add ((j + i) * 4)) (.int .i64 x.op) (.string x.nm) (.slice eo x.exprs.length ek) (.slice tb x.terms.length tk) ∧ ExL S w x.exprs eo ∧ TrL S w x.terms tb) → TrR S w l a j
  | [], _, _, _ => by unfold TrR; trivial
  | x :: t, a, j, h => by
    unfold TrR
    obtain ⟨eo, ek, tb, tk, h1, h1', h2, h3, h4⟩ := h 0 x rfl
    refine ⟨⟨eo, ek, tb, tk, h1, h1', h2, TrA.mk h3 h4⟩, TrR.mk fun i y hy => ?_⟩
    have := h (i + 1) y (by simpa using hy)
    rwa [show j + (i + 1) = j + 1 + i from by omega] at this
/-- A row is a list in memory. -/
theorem Row4.toX {S : Nat → Prop} {w : World} {B : Nat} {T : TypeId} {va : Option Addr} {n c : Nat} {qs : List Q4} {l : List Xp} (h : Row4 w B T (.slice va n c) qs) (hf : Fits (QX S w) l qs) : ExL (fun b => S b ∨ (Value.slice va n c).ownBlock = some b) w l va := by
  intro hl
  have hp : 0 < l.length := by cases l; exact absurd rfl hl; simp
  obtain ⟨q0, hq0, _⟩ := hf.get (List.getElem?_eq_getElem hp)
  obtain ⟨g, rfl, hg, _, _⟩ := h.get hq0
  refine ⟨_, rfl, .inr rfl, ExR.mk fun i x hx => ?_⟩
  obtain ⟨q, hq, bo, k, rfl, h2, h3⟩ := hf.get hx
  obtain ⟨g', e, _, _, h4⟩ := h.get hq
  cases e
  rw [Nat.zero_add]
  exact ⟨bo, k, h2, h4, h3.stay (fun b hb => .inl hb) (fun _ _ => rfl)⟩
theorem Row4.toT {S : Nat → Prop} {w : World} {B : Nat} {T : TypeId} {va : Option Addr} {n c : Nat} {qs : List Q4} {l : List Tr} (h : Row4 w B T (.slice va n c) qs) (hf : Fits (QT S w) l qs) : TrL (fun b => S b ∨ (Value.slice va n c).ownBlock = some b) w l va := by
  intro hl
  have hp : 0 < l.length := by cases l; exact absurd rfl hl; simp
  obtain ⟨q0, hq0, _⟩ := hf.get (List.getElem?_eq_getElem hp)
  obtain ⟨g, rfl, hg, _, _⟩ := h.get hq0
  refine ⟨_, rfl, .inr rfl, TrR.mk fun i x hx => ?_⟩
  obtain ⟨q, hq, eo, ek, tb, tk, rfl, h2, h2', h3, h3'⟩ := hf.get hx
  obtain ⟨g', e, _, _, h4⟩ := h.get hq
  cases e
  rw [Nat.zero_add]
  exact ⟨eo, ek, tb, tk, h2, h2', h4, h3.stay (fun b hb => .inl hb) (fun _ _ => rfl), h3'.stay (fun b hb => .inl hb) (fun _ _ => rfl)⟩
theorem exprInfo : (Try.prog.info? 53).map (fun i => (i.zero, i.size, i.bytes)) = some (some (.agg #[.int .i64 0, .int .i64 0, .string ⟨#[]⟩, .slice none 0 0]), 4, 56) := by kernel_rfl
/-- append(l, e), of an expression in a new block. -/
theorem wpList_appX {w : World} {ops : Array Oper} {rest : List Oper} {o : Oper} {a : Act} {Q : Exit → Act → World → Prop} (hgd : o.guard = none) (s x : Operand)
    (ho : o.op = .call { callee := .builtin .append, args := #[s, x], argTypes := #[29, 29] })
    (B : Nat) (v : Value) (qs : List Q4) (hs : a.eval s = v) (hown : Row4 w B 53 v qs) (g : Nat) (i0 i1 : Int) (t1 : ByteArray) (a3 : Option Addr) (n3 m3 : Nat) (hx : a.eval x = .slice (some ⟨g, 0, none⟩) 1 1)
    (hc : w.heap[g]? = some (.cells #[.int .i64 i0, .int .i64 i1, .string t1, .slice a3 n3 m3] 53 (0, 0))) (hl : qs.length ≤ 1000) (hB : B ≤ w.heap.size)
    (h : ∀ g' cap w', Row4 w' B 53 (.slice (some ⟨g', 0, none⟩) (qs.length + 1) cap) (qs ++ [(.int .i64 i0, .int .i64 i1, .string t1, .slice a3 n3 m3)]) → w.grownBy w' v.ownBlock → (v.ownBlock = some g' ∨ g' = w.heap.size) → g' < w'.heap.size → wpList Try.prog ops Q rest (a.put o.dst (.slice (some ⟨g', 0, none⟩) (qs.length + 1) cap)) w') :
    wpList Try.prog ops Q (o :: rest) a w := by
  obtain ⟨i, hi, hz0, hz1, hz2⟩ := info_parts exprInfo
  refine wpList_plain hgd fun _ hK => wp_append_lies w s x 29 ho B 53 i (.agg #[.int .i64 0, .int .i64 0, .string ⟨#[]⟩, .slice none 0 0]) 4 56 Try.underlying29 hi hz0 hz1 hz2 rfl (by decide) v qs.length (flat4 qs) hs hown ⟨g, 0, none⟩ 1 1 [.int .i64 i0, .int .i64 i1, .string t1, .slice a3 n3 m3] hx rfl ?_ ?_ (by decide) ?_ ?_ hB _ rfl ?_
  · intro j u hj
    match j, hj with
    | 0, hj => simp at hj; subst hj; exact cell_blk hc 0
    | 1, hj => simp at hj; subst hj; exact cell_blk hc 1
    | 2, hj => simp at hj; subst hj; exact cell_blk hc 2
    | 3, hj => simp at hj; subst hj; exact cell_blk hc 3
  · intro u hu
    simp at hu
    rcases hu with rfl | rfl | rfl | rfl <;> rfl
  · unfold maxLen; omega
  · omega
  · intro g' cap w' h1 h2 h3 h4
    refine hK _ _ (h g' cap w' ?_ h2 h3 h4)
    unfold Row4
    rw [flat4_snoc, List.length_append]
    exact h1
/-- append(l, t), of a term in a new block. -/
theorem wpList_appR {w : World} {ops : Array Oper} {rest : List Oper} {o : Oper} {a : Act} {Q : Exit → Act → World → Prop} (hgd : o.guard = none) (s x : Operand)
    (ho : o.op = .call { callee := .builtin .append, args := #[s, x], argTypes := #[30, 30] })
    (B : Nat) (v : Value) (qs : List Q4) (hs : a.eval s = v) (hown : Row4 w B 32 v qs) (g : Nat) (i0 : Int) (t1 : ByteArray) (a2 a3 : Option Addr) (n2 m2 n3 m3 : Nat) (hx : a.eval x = .slice (some ⟨g, 0, none⟩) 1 1)
    (hc : w.heap[g]? = some (.cells #[.int .i64 i0, .string t1, .slice a2 n2 m2, .slice a3 n3 m3] 32 (0, 0))) (hl : qs.length ≤ 1000) (hB : B ≤ w.heap.size)
    (h : ∀ g' cap w', Row4 w' B 32 (.slice (some ⟨g', 0, none⟩) (qs.length + 1) cap) (qs ++ [(.int .i64 i0, .string t1, .slice a2 n2 m2, .slice a3 n3 m3)]) → w.grownBy w' v.ownBlock → (v.ownBlock = some g' ∨ g' = w.heap.size) → g' < w'.heap.size → wpList Try.prog ops Q rest (a.put o.dst (.slice (some ⟨g', 0, none⟩) (qs.length + 1) cap)) w') :
    wpList Try.prog ops Q (o :: rest) a w := by
  obtain ⟨i, hi, hz0, hz1, hz2⟩ := info_parts termInfo
  refine wpList_plain hgd fun _ hK => wp_append_lies w s x 30 ho B 32 i (.agg #[.int .i64 0, .string ⟨#[]⟩, .slice none 0 0, .slice none 0 0]) 4 72 Try.underlying30 hi hz0 hz1 hz2 rfl (by decide) v qs.length (flat4 qs) hs hown ⟨g, 0, none⟩ 1 1 [.int .i64 i0, .string t1, .slice a2 n2 m2, .slice a3 n3 m3] hx rfl ?_ ?_ (by decide) ?_ ?_ hB _ rfl ?_
  · intro j u hj
    match j, hj with
    | 0, hj => simp at hj; subst hj; exact cell_blk hc 0
    | 1, hj => simp at hj; subst hj; exact cell_blk hc 1
    | 2, hj => simp at hj; subst hj; exact cell_blk hc 2
    | 3, hj => simp at hj; subst hj; exact cell_blk hc 3
  · intro u hu
    simp at hu
    rcases hu with rfl | rfl | rfl | rfl <;> rfl
  · unfold maxLen; omega
  · omega
  · intro g' cap w' h1 h2 h3 h4
    refine hK _ _ (h g' cap w' ?_ h2 h3 h4)
    unfold Row4
    rw [flat4_snoc, List.length_append]
    exact h1
end Go.Proofs.Ythhimllddgfddaa
