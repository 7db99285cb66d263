/- Layer 15: what the law takes of a level. Conditions: those written at each theorem. -/
import Derived.Test.YthodlkacfcnhnaaLvT
namespace Go.Proofs.Ythodlkacfcnhnaa
open Go.RowKit Go.Sort
set_option linter.unusedVariables false
set_option linter.unusedSimpArgs false
/-- The least one so far, when one more comes. -/
theorem eldF_snoc (l : List Fl) (f : Fl) : eldF (l ++ [f]) = match eldF l with | [] => [f] | e :: _ => [if f.num < e.num then f else e] := by
  cases l with
  | nil => simp [eldF]
  | cons x t => simp [eldF, List.foldl_append]
theorem eldF_cases (l : List Fl) : eldF l = [] ∨ ∃ e, eldF l = [e] := by
  cases l with
  | nil => exact .inl rfl
  | cons x t => exact .inr ⟨_, rfl⟩
theorem fromW_out {l : List Fl} {lv : Int} (h : lv < 0 ∨ 3 < lv) : fromW l lv = [] := by unfold fromW; rw [if_pos h]
theorem fromW_zero (l : List Fl) : fromW l 0 = l.filter (byLvl 0) := by unfold fromW fromL; rw [if_neg (by omega), if_pos rfl]
theorem fromW_more {l : List Fl} {lv : Int} (h : 0 < lv ∧ lv ≤ 3) : fromW l lv = eldF (l.filter (byLvl lv)) := by unfold fromW fromL; rw [if_neg (by omega), if_neg (by omega)]
theorem fromW_len (l : List Fl) (lv : Int) : (fromW l lv).length ≤ l.length := by
  unfold fromW
  split
  · simp
  · unfold fromL
    split
    · exact List.length_filter_le _ _
    · have h1 := List.length_filter_le (byLvl lv) l
      rcases eldF_cases (l.filter (byLvl lv)) with h | ⟨e, h⟩
      · rw [h]; simp
      · rw [h]
        have : (l.filter (byLvl lv)).length ≠ 0 := by
          intro h0
          rw [List.length_eq_zero_iff.1 h0] at h
          simp [eldF] at h
        simp
        omega
/-- No file goes on, one more goes on: what the law's first loop does at a file. -/
theorem fromW_skip {l : List Fl} {j : Nat} {f : Fl} {lv : Int} (hf : l[j]? = some f) (h : f.lvl ≠ lv ∨ lv < 0 ∨ 3 < lv) : fromW (l.take (j + 1)) lv = fromW (l.take j) lv := by
  by_cases ho : lv < 0 ∨ 3 < lv
  · rw [fromW_out ho, fromW_out ho]
  · have hne : f.lvl ≠ lv := by rcases h with h | h; exact h; exact absurd h ho
    have := take_filter_no (p := byLvl lv) hf (by simp [byLvl, hne])
    by_cases hz : lv = 0
    · subst hz; rw [fromW_zero, fromW_zero, this]
    · rw [fromW_more (by omega), fromW_more (by omega), this]
theorem fromW_first {l : List Fl} {j : Nat} {f : Fl} {lv : Int} (hf : l[j]? = some f) (h : f.lvl = lv) (hin : 0 ≤ lv ∧ lv ≤ 3) (ha : lv = 0 ∨ fromW (l.take j) lv = []) : fromW (l.take (j + 1)) lv = fromW (l.take j) lv ++ [f] := by
  have := take_filter_yes (p := byLvl lv) hf (by simp [byLvl, h])
  by_cases hz : lv = 0
  · subst hz; rw [fromW_zero, fromW_zero, this]
  · rcases ha with ha | ha
    · exact absurd ha hz
    · rw [ha]
      rw [fromW_more (by omega)] at ha ⊢
      rw [this, eldF_snoc, ha]
      rfl
theorem fromW_less {l : List Fl} {j : Nat} {f e : Fl} {lv : Int} (hf : l[j]? = some f) (h : f.lvl = lv) (hin : 0 < lv ∧ lv ≤ 3) (ha : fromW (l.take j) lv = [e]) : fromW (l.take (j + 1)) lv = [if f.num < e.num then f else e] := by
  have := take_filter_yes (p := byLvl lv) hf (by simp [byLvl, h])
  rw [fromW_more hin] at ha ⊢
  rw [this, eldF_snoc, ha]
end Go.Proofs.Ythodlkacfcnhnaa
