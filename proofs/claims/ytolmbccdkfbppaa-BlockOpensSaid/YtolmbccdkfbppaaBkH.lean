/- A builder refuses a pair; a slice of the document's pairs grows. Conditions: those written at each theorem. -/
import Derived.Test.YtolmbccdkfbppaaBkG
namespace Go.Proofs.Ytolmbccdkfbppaa
open Go.RowKit
set_option linter.unusedVariables false
set_option linter.unusedSimpArgs false

set_option maxRecDepth 100000 in
set_option maxHeartbeats 2000000 in
theorem add_no {B b : Nat} {S : BS} {w : World} (h : BkAt B b S w) (p : PB) (hx : p.k.size ≤ maxLen ∧ p.v.size ≤ maxLen) (hno : rightP p = false ∨ leS p.k S.last = true) :
    Calls Try.prog 12 #[.pointer (some ⟨b, 0, none⟩), .string p.k, .string p.v] w fun e w' => e = .returned (.int .i64 1) ∧ w = w' := by
  obtain ⟨_, v1, v2, hb, _, _⟩ := h
  have c3 : w.cell? ⟨b, 3, none⟩ = some (.string S.last) := cell_blk hb 3
  obtain ⟨x0, x1⟩ := hx
  unfold maxLen at x0 x1
  have hc : ¬ (1 ≤ p.k.size ∧ p.k.size ≤ 80 ∧ p.v.size ≤ 16000) ∨ (Op.bytesLess p.k.toList S.last.toList = true ∨ (p.k.toList == S.last.toList) = true) := by
    rcases hno with h | h
    · left; intro h2; rw [rightP_iff.2 h2] at h; cases h
    · right; unfold leS at h; simpa using h
  generalize p.k = K at *
  generalize p.v = V at *
  generalize S.last = Q at *
  clear hb hno
  by_cases h1 : 1 ≤ K.size
  · have h1i : (1 : Int) ≤ (K.size : Int) := by omega
    by_cases h2 : K.size ≤ 80
    · have h2i : (K.size : Int) ≤ 80 := by omega
      by_cases h3 : V.size ≤ 16000
      · have h3i : (V.size : Int) ≤ 16000 := by omega
        rcases hc with hc | hc | hc
        · exact absurd ⟨h1, h2, h3⟩ hc
        · go_enter Try.func12, Try.ntmps12
          go_wp2_with fail
          go_ret
          exact ⟨rfl, rfl⟩
        · go_enter Try.func12, Try.ntmps12
          go_wp2_with fail
          go_ret
          exact ⟨rfl, rfl⟩
      · have h3i : ¬ (V.size : Int) ≤ 16000 := by omega
        have h3j : (16000 : Int) < (V.size : Int) := by omega
        clear hc
        go_enter Try.func12, Try.ntmps12
        go_wp2_with fail
        go_ret
        exact ⟨rfl, rfl⟩
    · have h2i : ¬ (K.size : Int) ≤ 80 := by omega
      have h2j : (80 : Int) < (K.size : Int) := by omega
      clear hc
      go_enter Try.func12, Try.ntmps12
      go_wp2_with fail
      go_ret
      exact ⟨rfl, rfl⟩
  · have h1i : ¬ (1 : Int) ≤ (K.size : Int) := by omega
    have h1j : (K.size : Int) < 1 := by omega
    clear hc
    go_enter Try.func12, Try.ntmps12
    go_wp2_with fail
    go_ret
    exact ⟨rfl, rfl⟩
theorem pInfo : (Try.prog.info? 33).map (fun i => (i.zero, i.size, i.bytes)) = some (some (.agg #[.string ⟨#[]⟩, .string ⟨#[]⟩]), 2, 32) := by kernel_rfl
/-- append(l, p), at a slice of the walk's own with one pair of the document's. -/
theorem wpList_appP {w : World} {ops : Array Oper} {rest : List Oper} {o : Oper} {a : Act} {Q : Exit → Act → World → Prop} (hgd : o.guard = none) (s x : Operand)
    (ho : o.op = .call { callee := .builtin .append, args := #[s, x], argTypes := #[22, 22] })
    (B n : Nat) (v : Value) (l : List PB) (p : PB) (hn : n = l.length) (hs : a.eval s = v) (hown : w.ownsRow B 33 2 v n (pCells l)) (g : Nat) (hx : a.eval x = .slice (some ⟨g, 0, none⟩) 1 1)
    (hc : w.cell? ⟨g, 0, none⟩ = some (.string p.k) ∧ w.cell? ⟨g, 1, none⟩ = some (.string p.v)) (hl : n ≤ 100000) (hB : B ≤ w.heap.size)
    (h : ∀ v' w', w'.ownsRow B 33 2 v' (n + 1) (pCells (l ++ [p])) → w.grownBy w' v.ownBlock → wpList Try.prog ops Q rest (a.put o.dst v') w') :
    wpList Try.prog ops Q (o :: rest) a w := by
  obtain ⟨i, hi, he⟩ := Option.map_eq_some_iff.1 pInfo
  simp only [Prod.mk.injEq] at he
  refine wpList_append_own w hgd s x 22 ho B 33 i (.agg #[.string ⟨#[]⟩, .string ⟨#[]⟩]) 2 32 Try.underlying22 hi he.1 he.2.1 he.2.2 rfl (by decide) v n (pCells l) hs hown ⟨g, 0, none⟩ 1 1 [.string p.k, .string p.v] hx rfl ?_ ?_ ?_ ?_ hB ?_
  · intro j u hj
    match j, hj with
    | 0, hj => simp at hj; subst hj; exact hc.1
    | 1, hj => simp at hj; subst hj; exact hc.2
  · intro u hu
    simp at hu
    rcases hu with rfl | rfl <;> rfl
  · unfold maxLen; omega
  · omega
  · intro v' w' h1 h2 _
    refine h v' w' ?_ h2
    rw [pCells_snoc]
    exact h1
theorem leS_none (k : ByteArray) (h : 1 ≤ k.size) : leS k ⟨#[]⟩ = false := by
  have e1 : (⟨#[]⟩ : ByteArray).toList = [] := by rw [ByteArray.toList_eq]
  have hk : k.toList ≠ [] := by
    intro e
    have := isEmpty_false (s := k) (by omega)
    rw [e] at this
    cases this
  unfold leS
  rw [e1]
  cases hl : k.toList with
  | nil => exact absurd hl hk
  | cons a r => rfl
theorem lastB_nil : lastB [] = ⟨#[]⟩ := rfl
theorem lastB_get (l : List PB) (m : Nat) (h : l.length = m + 1) : lastB l = (l[m]'(by omega)).k := by
  unfold lastB
  rw [List.getLast?_eq_getElem?]
  have : l.length - 1 = m := by omega
  rw [this, List.getElem?_eq_getElem (by omega)]
  rfl
end Go.Proofs.Ytolmbccdkfbppaa
