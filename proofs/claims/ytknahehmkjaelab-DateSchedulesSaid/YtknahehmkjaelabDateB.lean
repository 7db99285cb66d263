/- What the Go functions Months, Years, Parse, Print of package date answer, as contracts over plain mathematics. Conditions: those written at each theorem. -/
import Derived.Test.YtknahehmkjaelabDateA
import Derived.BigQuiet
import Derived.Deep.QuietTactic
import Derived.Deep.RegionWith
import Derived.WalkLawsBesides
import Derived.WalkSpells
import Derived.Handy
namespace Go.Proofs.Ytknahehmkjaelab
open Go.RowKit

theorem months_no (n k : Int) (h : n < 0 ∨ 2932896 < n) (w : World) :
    Calls Try.prog 10 #[.int .i64 n, .int .i64 k] w fun e w' => e = .returned (.tuple #[.int .i64 0, .bool false]) ∧ w = w' := by
  go_enter Try.func10, Try.ntmps10
  go_wp2_with (go_at_call 23; refine (civil_no n h _).mono ?_; rintro e w' ⟨rfl, rfl⟩)
  go_ret2
  exact ⟨rfl, rfl⟩

theorem months_far (n k y m d : Int) (hi : Cal.Is n y m d) (h : k < -96360 ∨ 96360 < k) (w : World) :
    Calls Try.prog 10 #[.int .i64 n, .int .i64 k] w fun e w' => e = .returned (.tuple #[.int .i64 0, .bool false]) ∧ w = w' := by
  have HI := Lib.hid hi
  clear hi
  rcases h with h | h
  · go_enter Try.func10, Try.ntmps10
    go_wp2_with (go_at_call 23; refine (civil_is n y m d HI.out _).mono ?_; rintro e w' ⟨rfl, rfl⟩)
    go_ret2
    exact ⟨rfl, rfl⟩
  · have h' : ¬ k < -96360 := by omega
    go_enter Try.func10, Try.ntmps10
    go_wp2_with (go_at_call 23; refine (civil_is n y m d HI.out _).mono ?_; rintro e w' ⟨rfl, rfl⟩)
    go_ret2
    exact ⟨rfl, rfl⟩

theorem months_yes (n k y m d N : Int) (hi : Cal.Is n y m d) (h1 : -96360 ≤ k) (h2 : k ≤ 96360)
    (hN : Cal.Is N ((12 * y + m - 1 + k) / 12) ((12 * y + m - 1 + k) % 12 + 1) (if Cal.dim ((12 * y + m - 1 + k) / 12) ((12 * y + m - 1 + k) % 12 + 1) < d then Cal.dim ((12 * y + m - 1 + k) / 12) ((12 * y + m - 1 + k) % 12 + 1) else d)) (w : World) :
    Calls Try.prog 10 #[.int .i64 n, .int .i64 k] w fun e w' => e = .returned (.tuple #[.int .i64 N, .bool true]) ∧ w = w' := by
  have HI := Lib.hid hi
  obtain ⟨y1, y2, m1, m2, _⟩ := hi
  have hy := hN.1
  have h0 : 0 ≤ 12 * y + m - 1 + k := by omega
  by_cases hd : Cal.dim ((12 * y + m - 1 + k) / 12) ((12 * y + m - 1 + k) % 12 + 1) < d
  · rw [if_pos hd] at hN
    have HN := Lib.hid hN
    clear hN hy
    go_enter Try.func10, Try.ntmps10
    go_wp2_with (first | (go_at_call 23; refine (civil_is n y m d HI.out _).mono ?_; rintro e w' ⟨rfl, rfl⟩) | (go_at_call 28; refine (days_any _ _ _).mono ?_; rintro e w' ⟨rfl, rfl⟩) | (go_at_call 24; refine (of_yes N _ _ _ HN.out _).mono ?_; rintro e w' ⟨rfl, rfl⟩))
    go_ret2
    exact ⟨rfl, rfl⟩
  · rw [if_neg hd] at hN
    have HN := Lib.hid hN
    clear hN hy
    go_enter Try.func10, Try.ntmps10
    go_wp2_with (first | (go_at_call 23; refine (civil_is n y m d HI.out _).mono ?_; rintro e w' ⟨rfl, rfl⟩) | (go_at_call 28; refine (days_any _ _ _).mono ?_; rintro e w' ⟨rfl, rfl⟩) | (go_at_call 24; refine (of_yes N _ _ _ HN.out _).mono ?_; rintro e w' ⟨rfl, rfl⟩))
    go_ret2
    exact ⟨rfl, rfl⟩

theorem months_out (n k y m d : Int) (hi : Cal.Is n y m d) (h1 : -96360 ≤ k) (h2 : k ≤ 96360)
    (hN : (12 * y + m - 1 + k) / 12 < 1970 ∨ 9999 < (12 * y + m - 1 + k) / 12) (w : World) :
    Calls Try.prog 10 #[.int .i64 n, .int .i64 k] w fun e w' => e = .returned (.tuple #[.int .i64 0, .bool false]) ∧ w = w' := by
  have HI := Lib.hid hi
  obtain ⟨y1, y2, m1, m2, _⟩ := hi
  by_cases h0 : 0 ≤ 12 * y + m - 1 + k
  · have HN := Lib.hid hN
    clear hN
    go_enter Try.func10, Try.ntmps10
    go_wp2_with (first | (go_at_call 23; refine (civil_is n y m d HI.out _).mono ?_; rintro e w' ⟨rfl, rfl⟩) | (go_at_call 28; refine (days_any _ _ _).mono ?_; rintro e w' ⟨rfl, rfl⟩) | (go_at_call 24; refine (of_no _ _ _ (by rcases HN.out with h | h; exact .inl h; exact .inr (.inl h)) _).mono ?_; rintro e w' ⟨rfl, rfl⟩))
    all_goals go_ret2
    all_goals exact ⟨rfl, rfl⟩
  · have ht : (12 * y + m - 1 + k).tdiv 12 < 1970 := by
      obtain ⟨j, hj⟩ : ∃ j : Int, j = -(12 * y + m - 1 + k) := ⟨_, rfl⟩
      have e : 12 * y + m - 1 + k = -j := by omega
      rw [e, Int.neg_tdiv, Int.tdiv_eq_ediv_of_nonneg (by omega)]
      omega
    have HT := Lib.hid ht
    clear hN ht
    go_enter Try.func10, Try.ntmps10
    go_wp2_with (first | (go_at_call 23; refine (civil_is n y m d HI.out _).mono ?_; rintro e w' ⟨rfl, rfl⟩) | (go_at_call 28; refine (days_any _ _ _).mono ?_; rintro e w' ⟨rfl, rfl⟩) | (go_at_call 24; refine (of_no _ _ _ (.inl HT.out) _).mono ?_; rintro e w' ⟨rfl, rfl⟩))
    all_goals go_ret2
    all_goals exact ⟨rfl, rfl⟩

end Go.Proofs.Ytknahehmkjaelab
