/- Plain: a list in order whose runs are made one: strictly in order, and of the same members. -/
import Derived.Test.YtknahehmkjaelabHelp
import Derived.Lib.SlicesCompact
namespace Go.Proofs.Ytknahehmkjaelab
open Go.Lib

theorem compact_ordered (zs : List Int) (h : zs.Pairwise (· ≤ ·)) : (compact zs).Pairwise (· < ·) ∧ ∀ x, x ∈ compact zs ↔ x ∈ zs := by
  have hget : ∀ j (hj : j < zs.length), (zs.toArray)[j]! = zs[j] := fun j hj => by simp [hj]
  have key : ∀ m, m ≤ zs.length → (compactUpTo zs.toArray m).Pairwise (· < ·) ∧ (∀ x, x ∈ compactUpTo zs.toArray m ↔ x ∈ zs.take m) := by
    intro m
    induction m with
    | zero => intro _; simp [compactUpTo]
    | succ m ih =>
      intro hm
      obtain ⟨i1, i2⟩ := ih (by omega)
      rw [compactUpTo_succ, hget m (by omega), List.take_succ_eq_append_getElem (by omega)]
      have hle : ∀ x ∈ compactUpTo zs.toArray m, ∀ (h0 : 0 < m), x ≤ zs[m - 1] := fun x hx h0 => by
        obtain ⟨j, hj, rfl⟩ := List.getElem_of_mem ((i2 x).1 hx)
        have hj' : j < m := by simp at hj; omega
        simp only [List.getElem_take]
        rcases Nat.lt_or_ge j (m - 1) with hl | hg
        · exact List.pairwise_iff_getElem.1 h j (m - 1) (by omega) (by omega) hl
        · have : j = m - 1 := by omega
          subst this; exact Int.le_refl _
      by_cases hk : keeps zs.toArray m = true
      · rw [if_pos hk]
        refine ⟨List.pairwise_append.2 ⟨i1, by simp, fun x hx y hy => ?_⟩, fun x => by simp only [List.mem_append, i2]⟩
        simp only [List.mem_singleton] at hy
        subst hy
        rcases Nat.eq_zero_or_pos m with h0 | h0
        · subst h0; simp [compactUpTo] at hx
        · have a := hle x hx h0
          have b := List.pairwise_iff_getElem.1 h (m - 1) m (by omega) (by omega) (by omega)
          have c : zs[m] ≠ zs[m - 1] := by
            unfold keeps at hk
            have h1 := hget (m - 1) (by omega)
            have h2 := hget m (by omega)
            rw [h1, h2] at hk
            intro e
            rw [e] at hk
            simp at hk
            omega
          omega
      · rw [if_neg hk, List.append_nil]
        refine ⟨i1, fun x => ?_⟩
        rw [i2]
        simp only [List.mem_append, List.mem_singleton]
        constructor
        · exact .inl
        · rintro (h | rfl)
          · exact h
          · have h0 : 0 < m := by
              rcases Nat.eq_zero_or_pos m with h0 | h0
              · subst h0; exact absurd (by simp [keeps]) hk
              · exact h0
            have c : zs[m] = zs[m - 1] := by
              refine Classical.byContradiction fun hne => hk ?_
              unfold keeps
              rw [hget (m - 1) (by omega), hget m (by omega)]
              simp [hne]
            rw [c]
            refine List.mem_of_getElem (i := m - 1) (h := by simp; omega) ?_
            simp
  have hf := key zs.length (Nat.le_refl _)
  rw [List.take_length] at hf
  exact hf
end Go.Proofs.Ytknahehmkjaelab
