/- What the document's own answers Leap, Days, Of, Civil, Months of layer 2 and the law's told are, as contracts over plain mathematics. Conditions: those written at each theorem. -/
import Derived.Test.YtkfkoopfoiekoaaDoorDateA
namespace Go.Proofs.YtkfkoopfoiekoaaDoor
open Go.RowKit
set_option linter.unusedSimpArgs false

theorem rleap_any (y : Int) (w : World) :
    Calls Tryd.prog 43 #[.int .i64 y] w fun e w' => e = .returned (.bool (lpB y)) ∧ w = w' := by
  by_cases h4 : y % 400 = 0
  · have e1 : lpB y = true := (lpB_iff y).2 (by omega)
    have t1 : (y.tmod 400 == 0) = true := by simp [tmod0, h4]
    have E1 := Lib.hid e1
    clear e1 h4
    go_enter Tryd.func43, Tryd.ntmps43
    go_wp2
    go_ret
    exact ⟨ret_bool E1.out.symm, rfl⟩
  · have t1 : (y.tmod 400 == 0) = false := by simp [tmod0, h4]
    by_cases h1 : y % 4 = 0
    · have t2 : (y.tmod 4 == 0) = true := by simp [tmod0, h1]
      by_cases h2 : y % 100 = 0
      · have t3 : (y.tmod 100 != 0) = false := by simp [tmod0, h2]
        have E1 := Lib.hid (lpB_no y (by omega))
        clear h4 h1 h2
        go_enter Tryd.func43, Tryd.ntmps43
        go_wp2
        go_ret
        exact ⟨ret_bool E1.out.symm, rfl⟩
      · have t3 : (y.tmod 100 != 0) = true := by simp [tmod0, h2]
        have E1 := Lib.hid ((lpB_iff y).2 (by omega))
        clear h4 h1 h2
        go_enter Tryd.func43, Tryd.ntmps43
        go_wp2
        go_ret
        exact ⟨ret_bool E1.out.symm, rfl⟩
    · have t2 : (y.tmod 4 == 0) = false := by simp [tmod0, h1]
      have E1 := Lib.hid (lpB_no y (by omega))
      clear h4 h1
      go_enter Tryd.func43, Tryd.ntmps43
      go_wp2
      go_ret
      exact ⟨ret_bool E1.out.symm, rfl⟩

theorem rdays_out (y m : Int) (h : m < 1 ∨ 12 < m) (w : World) :
    Calls Tryd.prog 42 #[.int .i64 y, .int .i64 m] w fun e w' => e = .returned (.int .i64 (Cal.dim y m)) ∧ Below w.heap.size w w' := by
  have E1 := Lib.hid (Cal.dim_out y m h)
  by_cases h1 : m < 1
  · clear h
    go_enter Tryd.func42, Tryd.ntmps42
    go_wp2_with fail
    go_ret
    exact ⟨ret_int E1.out.symm, Below.refl _ _⟩
  · have h2 : 12 < m := by omega
    clear h
    go_enter Tryd.func42, Tryd.ntmps42
    go_wp2_with fail
    go_ret
    exact ⟨ret_int E1.out.symm, Below.refl _ _⟩

set_option maxHeartbeats 2000000 in
theorem rdays_in (y m : Int) (h1 : 1 ≤ m) (h2 : m ≤ 12) (w : World) :
    Calls Tryd.prog 42 #[.int .i64 y, .int .i64 m] w fun e w' => e = .returned (.int .i64 (Cal.dim y m)) ∧ Below w.heap.size w w' := by
  by_cases h : m = 2
  · subst h
    by_cases hl : lpB y = true
    · have E1 := Lib.hid (show Cal.dim y 2 = 29 by simp [Cal.dim, lp_true hl])
      go_enter Tryd.func42, Tryd.ntmps42
      go_wp2_with (go_at_call 43; refine (rleap_any _ _).mono ?_; rintro e w' ⟨rfl, rfl⟩)
      go_ret
      exact ⟨ret_int E1.out.symm, (Below.refl _ _).alloc (Nat.le_refl _) _⟩
    · have hl : lpB y = false := by simpa using hl
      have E1 := Lib.hid (show Cal.dim y 2 = 28 by simp [Cal.dim, lp_false hl])
      go_enter Tryd.func42, Tryd.ntmps42
      go_wp2_with (go_at_call 43; refine (rleap_any _ _).mono ?_; rintro e w' ⟨rfl, rfl⟩)
      go_ret
      exact ⟨ret_int E1.out.symm, (Below.refl _ _).alloc (Nat.le_refl _) _⟩
  · have : m = 1 ∨ m = 3 ∨ m = 4 ∨ m = 5 ∨ m = 6 ∨ m = 7 ∨ m = 8 ∨ m = 9 ∨ m = 10 ∨ m = 11 ∨ m = 12 := by omega
    clear h1 h2 h
    rcases this with rfl | rfl | rfl | rfl | rfl | rfl | rfl | rfl | rfl | rfl | rfl
    all_goals
      go_enter Tryd.func42, Tryd.ntmps42
      go_wp2_with fail
      go_ret
      exact ⟨ret_int (by simp [Cal.dim]), (Below.refl _ _).alloc (Nat.le_refl _) _⟩

theorem rdays_any (y m : Int) (w : World) :
    Calls Tryd.prog 42 #[.int .i64 y, .int .i64 m] w fun e w' => e = .returned (.int .i64 (Cal.dim y m)) ∧ Below w.heap.size w w' := by
  by_cases h : m < 1 ∨ 12 < m
  · exact rdays_out y m h w
  · exact rdays_in y m (by omega) (by omega) w

end Go.Proofs.YtkfkoopfoiekoaaDoor
