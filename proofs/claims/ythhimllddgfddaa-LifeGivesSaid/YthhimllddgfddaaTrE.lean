/- Trees: whether an expression is built as it must be, walked. Conditions: those written at each theorem. -/
import Derived.Test.YthhimllddgfddaaTrD
namespace Go.Proofs.Ythhimllddgfddaa
open Go.RowKit Go.PlainAid
set_option linter.unusedVariables false
set_option linter.unusedSimpArgs false
set_option maxRecDepth 100000 in
set_option maxHeartbeats 4000000 in
theorem operands_any (op : Int) (w : World) : Calls Try.prog 58 #[.int .i64 op] w fun e w' => e = .returned (.int .i64 (if op = 4 then 0 else if op = 19 ∨ op = 20 then 1 else if 5 ≤ op ∧ op ≤ 18 then 2 else if op = 21 then 3 else -1)) ∧ w = w' := by
  by_cases h1 : op = 4
  · subst h1
    go_enter Try.func58, Try.ntmps58
    go_wp2_with fail
    go_ret
    exact ⟨rfl, rfl⟩
  · by_cases h2 : op = 19
    · subst h2
      go_enter Try.func58, Try.ntmps58
      go_wp2_with fail
      go_ret
      exact ⟨rfl, rfl⟩
    · by_cases h3 : op = 20
      · subst h3
        go_enter Try.func58, Try.ntmps58
        go_wp2_with fail
        go_ret
        exact ⟨rfl, rfl⟩
      · have e1 : (op == 4) = false := by simp [h1]
        have e2 : (op == 19) = false := by simp [h2]
        have e3 : (op == 20) = false := by simp [h3]
        by_cases h4 : 5 ≤ op
        · by_cases h5 : op ≤ 18
          · go_enter Try.func58, Try.ntmps58
            go_wp2_with fail
            go_ret
            exact ⟨by simp [h1, h2, h3, h4, h5], rfl⟩
          · have e5 : (op ≤ 18) = False := by simp; omega
            by_cases h6 : op = 21
            · subst h6
              go_enter Try.func58, Try.ntmps58
              go_wp2_with fail
              go_ret
              exact ⟨rfl, rfl⟩
            · have e6 : (op == 21) = false := by simp [h6]
              go_enter Try.func58, Try.ntmps58
              go_wp2_with fail
              go_ret
              exact ⟨by simp [h1, h2, h3, h5, h6], rfl⟩
        · have e5 : (5 ≤ op) = False := by simp; omega
          have h6 : ¬ op = 21 := by omega
          have e6 : (op == 21) = false := by simp [h6]
          go_enter Try.func58, Try.ntmps58
          go_wp2_with fail
          go_ret
          exact ⟨by simp [h1, h2, h3, h4, h6], rfl⟩
set_option maxRecDepth 100000 in
set_option maxHeartbeats 4000000 in
theorem kids_any (op : Int) (w : World) : Calls Try.prog 72 #[.int .i64 op] w fun e w' => e = .returned (.int .i64 (kidsX op)) ∧ w = w' := by
  unfold kidsX
  by_cases h1 : 1 ≤ op
  · by_cases h2 : op ≤ 4
    · rw [if_pos (by omega)]
      go_enter Try.func72, Try.ntmps72
      go_wp2_with fail
      go_ret
      exact ⟨rfl, rfl⟩
    · have e2 : (op ≤ 4) = False := by simp; omega
      rw [if_neg (by omega)]
      by_cases h5 : op ≤ 18
      · have e3 : 5 ≤ op := by omega
        rw [if_pos (by omega)]
        go_enter Try.func72, Try.ntmps72
        go_wp2_with fail
        go_ret
        exact ⟨rfl, rfl⟩
      · have e5 : (op ≤ 18) = False := by simp; omega
        rw [if_neg (by omega)]
        by_cases h3 : op = 19
        · subst h3
          go_enter Try.func72, Try.ntmps72
          go_wp2_with fail
          go_ret
          exact ⟨rfl, rfl⟩
        · by_cases h4 : op = 20
          · subst h4
            go_enter Try.func72, Try.ntmps72
            go_wp2_with fail
            go_ret
            exact ⟨rfl, rfl⟩
          · by_cases h6 : op = 21
            · subst h6
              go_enter Try.func72, Try.ntmps72
              go_wp2_with fail
              go_ret
              exact ⟨rfl, rfl⟩
            · have e3 : (op == 19) = false := by simp [h3]
              have e4 : (op == 20) = false := by simp [h4]
              have e6 : (op == 21) = false := by simp [h6]
              go_enter Try.func72, Try.ntmps72
              go_wp2_with fail
              go_ret
              exact ⟨by simp [h3, h4, h6], rfl⟩
  · have e1 : (1 ≤ op) = False := by simp; omega
    have e3 : (5 ≤ op) = False := by simp; omega
    have h3 : ¬ op = 19 := by omega
    have h4 : ¬ op = 20 := by omega
    have h6 : ¬ op = 21 := by omega
    have e4 : (op == 19) = false := by simp [h3]
    have e5 : (op == 20) = false := by simp [h4]
    have e6 : (op == 21) = false := by simp [h6]
    rw [if_neg (by omega), if_neg (by omega), if_neg (by omega), if_neg (by omega)]
    go_enter Try.func72, Try.ntmps72
    go_wp2_with fail
    go_ret
    exact ⟨rfl, rfl⟩
end Go.Proofs.Ythhimllddgfddaa
