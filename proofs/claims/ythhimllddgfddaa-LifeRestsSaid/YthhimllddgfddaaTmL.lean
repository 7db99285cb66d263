/- Layer 18: a term that gives one of one unit, made simple. Conditions: those written at each theorem. -/
import Derived.Test.YthhimllddgfddaaTmK
namespace Go.Proofs.Ythhimllddgfddaa
open Go.RowKit Go.PlainAid
set_option linter.unusedVariables false
set_option linter.unusedSimpArgs false
theorem row_form {B n : Nat} {e : TypeId} {z : Nat} {v : Value} {xs : List Value} {w : World} (h : w.ownsRow B e z v n xs) : ∃ a c, v = .slice a n c := by
  rcases h.2 with ⟨rfl, h0⟩ | ⟨g, cap, cur, rfl, _⟩
  · subst h0; exact ⟨none, 0, rfl⟩
  · exact ⟨_, _, rfl⟩
theorem row_stay {B n : Nat} {e : TypeId} {z : Nat} {v : Value} {xs : List Value} {w w' : World} (h : w.ownsRow B e z v n xs) (hg : ∀ g, v.ownBlock = some g → w'.heap[g]? = w.heap[g]?) : w'.ownsRow B e z v n xs := by
  refine ⟨h.1, ?_⟩
  rcases h.2 with hn | ⟨g, cap, cur, rfl, hb, hgg, rest⟩
  · exact .inl hn
  · exact .inr ⟨g, cap, cur, rfl, hb, (hg g rfl).trans hgg, rest⟩
theorem row_mono {B B' n : Nat} {e : TypeId} {z : Nat} {v : Value} {xs : List Value} {w : World} (h : w.ownsRow B' e z v n xs) (hB : B ≤ B') : w.ownsRow B e z v n xs := by
  refine ⟨h.1, ?_⟩
  rcases h.2 with hn | ⟨g, cap, cur, rfl, hb, rest⟩
  · exact .inl hn
  · exact .inr ⟨g, cap, cur, rfl, by omega, rest⟩
theorem row_one {B c : Nat} {T : TypeId} {va : Option Addr} {x0 x1 x2 x3 : Value} {w : World} (h : w.ownsRow B T 4 (.slice va 1 c) 1 [x0, x1, x2, x3]) : ∃ g, va = some ⟨g, 0, none⟩ ∧ g < w.heap.size ∧ B ≤ g ∧ w.cell? ⟨g, 0, none⟩ = some x0 ∧ w.cell? ⟨g, 1, none⟩ = some x1 ∧ w.cell? ⟨g, 2, none⟩ = some x2 ∧ w.cell? ⟨g, 3, none⟩ = some x3 := by
  rcases h.2 with ⟨hv, h0⟩ | ⟨b, cp, cur, hv, hb, hg, hc, _, hsz, htk⟩
  · omega
  · injection hv with e1 _ e3
    subst e1 e3
    have hcell : ∀ m y, m < 4 → [x0, x1, x2, x3][m]? = some y → w.cell? ⟨b, m, none⟩ = some y := fun m y hm hy => by
      rw [cell_blk hg, ← hy, ← htk, List.getElem?_take_of_lt (by omega)]
      simp
    exact ⟨b, rfl, lt_of_heap hg, by omega, hcell 0 _ (by omega) rfl, hcell 1 _ (by omega) rfl, hcell 2 _ (by omega) rfl, hcell 3 _ (by omega) rfl⟩
end Go.Proofs.Ythhimllddgfddaa
