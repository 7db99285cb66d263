/- The law DateMonths walked: for every number and every count of months the call returns true. No conditions. -/
import Derived.Test.YtknahehmkjaelabDateW
import Derived.Test.YtknahehmkjaelabDateRe3
namespace Go.Proofs.Ytknahehmkjaelab
open Go.RowKit
set_option linter.unusedSimpArgs false
set_option linter.unusedVariables false

set_option maxHeartbeats 1000000 in
theorem dateMonths_of (n k : Int) (w : World) (R : Int) (b : Bool) (Q : Int)
    (hp : ∀ w : World, Calls Try.prog 10 #[.int .i64 n, .int .i64 k] w fun e w' => e = .returned (.tuple #[.int .i64 R, .bool b]) ∧ w = w')
    (hr : ∀ w : World, Calls Try.prog 12 #[.int .i64 n, .int .i64 k] w fun e w' => e = .returned (.int .i64 Q) ∧ Below w.heap.size w w')
    (ht : ∀ w : World, Calls Try.prog 11 #[.int .i64 R, .bool b, .int .i64 Q] w fun e w' => e = .returned (.bool true) ∧ w = w') :
    Calls Try.prog 3 #[.int .i64 n, .int .i64 k] w fun e w' => e = .returned (.bool true) ∧ Below w.heap.size w w' := by
  have HP := Lib.hid hp
  have HR := Lib.hid hr
  have HT := Lib.hid ht
  clear hp hr ht
  go_enter Try.func3, Try.ntmps3
  go_wp2_with fail
  refine (HP.out _).mono ?_
  rintro e1 w1 ⟨rfl, rfl⟩
  go_wp2_with fail
  refine (HR.out _).mono ?_
  rintro e1 w1 ⟨rfl, hB1⟩
  go_wp2_with fail
  refine (HT.out _).mono ?_
  rintro e2 w2 ⟨rfl, rfl⟩
  go_wp2_with (go_at_call 13; refine (awake_any _).mono ?_; rintro e2 w2 ⟨rfl, hB⟩)
  go_ret
  exact ⟨rfl, below_mono hB1 hB (Nat.le_refl _)⟩

theorem dateMonths_walk (n k : Int) (w0 : (Lit.int .i64 n).wf = true) (w1 : (Lit.int .i64 k).wf = true) (w : World) :
    Calls Try.prog 3 #[.int .i64 n, .int .i64 k] w fun e w' => e = .returned (.bool true) ∧ Below w.heap.size w w' := by
  by_cases hn : n < 0 ∨ 2932896 < n
  · exact dateMonths_of n k w 0 false (-1) (months_no n k hn) (rmonths_no n k hn) told_no
  · obtain ⟨y, m, d, hi⟩ := Cal.Is.exists_ (n := n) (by omega) (by omega)
    have hi' := hi
    obtain ⟨y1, y2, m1, m2, d1, d2, _⟩ := hi'
    by_cases h2 : k < -200000 ∨ 200000 < k
    · exact dateMonths_of n k w 0 false (-1) (months_far n k y m d hi (by omega)) (rmonths_far n k y m d hi h2) told_no
    · obtain ⟨z, hz⟩ : ∃ z, (12 * y + m - 1 + k) / 12 = z := ⟨_, rfl⟩
      obtain ⟨o, ho⟩ : ∃ o, (12 * y + m - 1 + k) % 12 + 1 = o := ⟨_, rfl⟩
      obtain ⟨D, hD⟩ : ∃ D, (if Cal.dim z o < d then Cal.dim z o else d) = D := ⟨_, rfl⟩
      have d28 := Cal.dim_28 z o (by omega) (by omega)
      have hD1 : 1 ≤ D ∧ D ≤ Cal.dim z o := by rw [← hD]; split <;> omega
      by_cases hr : z < 1970 ∨ 9999 < z
      · refine dateMonths_of n k w 0 false (-1) ?_ (rmonths_mid n k y m d z o D (-1) hi (by omega) (by omega) hz ho hD (rof_no z o D (by omega))) told_no
        by_cases h3 : k < -96360 ∨ 96360 < k
        · exact months_far n k y m d hi h3
        · exact months_out n k y m d hi (by omega) (by omega) (by rw [hz]; exact hr)
      · have ha : Cal.Is (Cal.dayNum z o D) z o D := Cal.is_dayNum (by omega) (by omega) (by omega) (by omega) (by omega) (by omega)
        refine dateMonths_of n k w (Cal.dayNum z o D) true (Cal.dayNum z o D) (months_yes n k y m d _ hi (by omega) (by omega) (by rw [hz, ho, hD]; exact ha))
          (rmonths_mid n k y m d z o D _ hi (by omega) (by omega) hz ho hD (rof_yes _ z o D ha)) (told_yes _ ha.range.1)
end Go.Proofs.Ytknahehmkjaelab
