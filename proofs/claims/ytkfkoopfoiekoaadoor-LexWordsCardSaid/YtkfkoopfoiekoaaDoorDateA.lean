/- What the Go functions none, Leap, Days, ahead, firstOf, Of, Civil, Weekday of package date answer, as contracts over plain mathematics. Conditions: those written at each theorem. -/
import Derived.Test.YtkfkoopfoiekoaaDoorHelp
import Derived.WalkKit
import Derived.Lib.Hide
import Derived.Test.YtkfkoopfoiekoaaDoorDMath
namespace Go.Proofs.YtkfkoopfoiekoaaDoor
open Go.RowKit

def lpB (y : Int) : Bool := decide (Cal.lp y = 1)
theorem tmod0 (a b : Int) : a.tmod b = 0 ↔ a % b = 0 := ⟨fun h => Int.emod_eq_zero_of_dvd (Int.dvd_of_tmod_eq_zero h), fun h => Int.tmod_eq_zero_of_dvd (Int.dvd_of_emod_eq_zero h)⟩
theorem lpB_iff (y : Int) : lpB y = true ↔ (y % 4 = 0 ∧ (y % 100 ≠ 0 ∨ y % 400 = 0)) := by
  unfold lpB Cal.lp
  split <;> simp_all
theorem lpB_no (y : Int) (h : ¬ (y % 4 = 0 ∧ (y % 100 ≠ 0 ∨ y % 400 = 0))) : lpB y = false := by
  rw [Bool.eq_false_iff]; exact fun e => h ((lpB_iff y).1 e)
theorem lp_true {y : Int} (h : lpB y = true) : Cal.lp y = 1 := by simpa [lpB] using h
theorem lp_false {y : Int} (h : lpB y = false) : Cal.lp y = 0 := by
  have := Cal.lp_01 y
  have h' : ¬ Cal.lp y = 1 := by simpa [lpB] using h
  omega

theorem leap_any (y : Int) (w : World) :
    Calls Tryd.prog 64 #[.int .i64 y] w fun e w' => e = .returned (.bool (lpB y)) ∧ w = w' := by
  go_enter Tryd.func64, Tryd.ntmps64
  go_wp2
  all_goals go_ret
  all_goals refine ⟨ret_bool ?_, rfl⟩
  · rename_i h1 h2
    rw [tmod0] at h1 h2
    rw [Bool.eq_iff_iff, lpB_iff, beq_iff_eq, tmod0]
    omega
  · rename_i h1 h2
    rw [tmod0] at h1 h2
    exact ((lpB_iff y).2 ⟨h1, .inl h2⟩).symm
  · rename_i h1
    rw [tmod0] at h1
    exact (lpB_no y (by omega)).symm

def noneB (n : Int) : Bool := decide (n < 0) || decide (2932896 < n)
theorem noneB_true {n : Int} (h : n < 0 ∨ 2932896 < n) : noneB n = true := by simp [noneB, h]
theorem noneB_false {n : Int} (h : 0 ≤ n) (h' : n ≤ 2932896) : noneB n = false := by simp [noneB]; omega

set_option maxHeartbeats 400000 in
theorem days_any (y m : Int) (w : World) :
    Calls Tryd.prog 57 #[.int .i64 y, .int .i64 m] w fun e w' => e = .returned (.int .i64 (Cal.dim y m)) ∧ w = w' := by
  by_cases hl : lpB y = true
  · have hl' := Lib.hid (lp_true hl)
    go_enter Tryd.func57, Tryd.ntmps57
    go_wp2_with (go_at_call 64; refine (leap_any _ _).mono ?_; rintro e w' ⟨rfl, rfl⟩)
    all_goals (go_ret; refine ⟨ret_int ?_, rfl⟩; have hq := hl'.out; clear hl hl'; simp only [beq_iff_eq, beq_eq_false_iff_ne, ne_eq] at *; unfold Cal.dim; repeat' split)
    all_goals omega
  · have hl : lpB y = false := by simpa using hl
    have hl' := Lib.hid (lp_false hl)
    go_enter Tryd.func57, Tryd.ntmps57
    go_wp2_with (go_at_call 64; refine (leap_any _ _).mono ?_; rintro e w' ⟨rfl, rfl⟩)
    all_goals (go_ret; refine ⟨ret_int ?_, rfl⟩; have hq := hl'.out; clear hl hl'; simp only [beq_iff_eq, beq_eq_false_iff_ne, ne_eq] at *; unfold Cal.dim; repeat' split)
    all_goals omega

theorem ahead_any (y : Int) (h1 : 1 ≤ y) (h2 : y ≤ 1000000) (w : World) :
    Calls Tryd.prog 65 #[.int .i64 y] w fun e w' => e = .returned (.int .i64 (Cal.dby y + 719162)) ∧ w = w' := by
  go_enter Tryd.func65, Tryd.ntmps65
  go_wp2
  go_ret
  exact ⟨ret_int (by unfold Cal.dby; omega), rfl⟩

theorem firstOf_any (y m : Int) (h1 : 1 ≤ y) (h2 : y ≤ 1000000) (m1 : 1 ≤ m) (m2 : m ≤ 13) (w : World) :
    Calls Tryd.prog 58 #[.int .i64 y, .int .i64 m] w fun e w' => e = .returned (.int .i64 (Cal.dby y + Cal.cum y m)) ∧ w = w' := by
  have d0 : -719162 ≤ Cal.dby y := by unfold Cal.dby; omega
  have d1 : Cal.dby y ≤ 370000000 := by unfold Cal.dby; omega
  have e0 : Cal.dby 1970 = 0 := Cal.dby_1970
  go_enter Tryd.func58, Tryd.ntmps58
  go_wp2_with (go_at_call 65; refine (ahead_any _ (by omega) (by omega) _).mono ?_; rintro e w' ⟨rfl, rfl⟩)
  clear e0
  go_loop [5, 6] (fun t k => ∃ j : Int, 1 ≤ j ∧ j ≤ m ∧ k = .int .i64 j ∧ t = .int .i64 (Cal.dby y + Cal.cum y j)) (fun _ k => (m - intOf k).toNat)
  case atStart => exact ⟨1, by omega, m1, rfl, by rw [Cal.cum_one]; simp⟩
  case round =>
    obtain ⟨j, j1, j2, rfl, rfl⟩ := hrel
    have c1 := Cal.cum_lo y j
    have c2 := Cal.cum_hi y j
    have c3 := (Cal.lp_01 y).2
    have c4 := Cal.dim_lo y j
    have c5 := Cal.dim_hi y j
    by_cases hj : j < m
    · go_wp2_with (go_at_call 57; refine (days_any _ _ _).mono ?_; rintro e w' ⟨rfl, rfl⟩)
      go_round
      case rel => exact ⟨j + 1, by omega, by omega, rfl, by rw [Cal.cum_succ y j j1 (by omega)]; go_num⟩
      case measure => simp [intOf]; omega
    · obtain rfl : j = m := by omega
      go_wp2
      go_ret
      exact ⟨rfl, rfl⟩

theorem of_yes (n y m d : Int) (h : Cal.Is n y m d) (w : World) :
    Calls Tryd.prog 53 #[.int .i64 y, .int .i64 m, .int .i64 d] w fun e w' => e = .returned (.tuple #[.int .i64 n, .bool true]) ∧ w = w' := by
  have hr := h.range
  obtain ⟨a, b, c, e, f, g, hn⟩ := h
  have HN := Lib.hid hn
  have hn1 : Cal.dby y + Cal.cum y m + d ≤ n + 1 := by omega
  have hn2 : n + 1 ≤ Cal.dby y + Cal.cum y m + d := by omega
  clear hn
  have d0 : -719162 ≤ Cal.dby y := by unfold Cal.dby; omega
  have d1 : Cal.dby y ≤ 370000000 := by unfold Cal.dby; omega
  have c1 := Cal.cum_lo y m
  have c2 := Cal.cum_hi y m
  have c3 := (Cal.lp_01 y).2
  have c5 := Cal.dim_hi y m
  go_enter Tryd.func53, Tryd.ntmps53
  go_wp2_with (first | (go_at_call 57; refine (days_any _ _ _).mono ?_; rintro e w' ⟨rfl, rfl⟩) | (go_at_call 58; refine (firstOf_any _ _ (by omega) (by omega) (by omega) (by omega) _).mono ?_; rintro e w' ⟨rfl, rfl⟩))
  go_ret2
  exact ⟨by rw [← HN.out]; rfl, rfl⟩

theorem of_no (y m d : Int) (h : y < 1970 ∨ 9999 < y ∨ d < 1 ∨ Cal.dim y m < d) (w : World) :
    Calls Tryd.prog 53 #[.int .i64 y, .int .i64 m, .int .i64 d] w fun e w' => e = .returned (.tuple #[.int .i64 0, .bool false]) ∧ w = w' := by
  by_cases h1 : y < 1970
  · go_enter Tryd.func53, Tryd.ntmps53
    go_wp2_with fail
    go_ret2
    exact ⟨rfl, rfl⟩
  · by_cases h2 : 9999 < y
    · go_enter Tryd.func53, Tryd.ntmps53
      go_wp2_with fail
      go_ret2
      exact ⟨rfl, rfl⟩
    · by_cases h3 : d < 1
      · go_enter Tryd.func53, Tryd.ntmps53
        go_wp2_with fail
        go_ret2
        exact ⟨rfl, rfl⟩
      · have h4 : Cal.dim y m < d := by omega
        clear h
        go_enter Tryd.func53, Tryd.ntmps53
        go_wp2_with (go_at_call 57; refine (days_any _ _ _).mono ?_; rintro e w' ⟨rfl, rfl⟩)
        go_ret2
        exact ⟨rfl, rfl⟩

theorem firstOf_one (y : Int) (h1 : 1 ≤ y) (h2 : y ≤ 1000000) (w : World) :
    Calls Tryd.prog 58 #[.int .i64 y, .int .i64 1] w fun e w' => e = .returned (.int .i64 (Cal.dby y)) ∧ w = w' :=
  (firstOf_any y 1 h1 h2 (by omega) (by omega) w).mono fun e w' ⟨he, hw⟩ => ⟨by rw [he, Cal.cum_one, Int.add_zero], hw⟩

theorem guess (n : Int) (h : 0 ≤ n) : Cal.dby (1970 + n / 366) ≤ n := by unfold Cal.dby; omega

end Go.Proofs.YtkfkoopfoiekoaaDoor
