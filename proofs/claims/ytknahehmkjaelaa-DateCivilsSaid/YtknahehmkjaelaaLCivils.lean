/- The law DateCivils walked: for every number, year, month and day the call returns true. No conditions. -/
import Derived.Test.YtknahehmkjaelaaDateW
import Derived.Test.YtknahehmkjaelaaDateRe2
namespace Go.Proofs.Ytknahehmkjaelaa
open Go.RowKit
set_option linter.unusedSimpArgs false
set_option linter.unusedVariables false

set_option maxRecDepth 100000 in
set_option maxHeartbeats 1000000 in
theorem dateCivils_of (n year month day : Int) (w : World) (y m d : Int) (ok : Bool) (o : Int) (is : Bool) (q wd : Int)
    (hp : ∀ w : World, Calls Try.prog 5 #[.int .i64 n] w fun e w' => e = .returned (.tuple #[.int .i64 y, .int .i64 m, .int .i64 d, .bool ok]) ∧ w = w')
    (hr : ∀ w : World, Calls Try.prog 6 #[.int .i64 n] w fun e w' => e = .returned (.tuple #[.int .i64 y, .int .i64 m, .int .i64 d]) ∧ Below w.heap.size w w')
    (hk : ok = decide (0 < y)) (hn : 0 < y → 0 ≤ n ∧ n ≤ 2932896)
    (hwd : ∀ w : World, Calls Try.prog 14 #[.int .i64 n] w fun e w' => e = .returned (.int .i64 wd) ∧ w = w')
    (hw1 : 0 < y → wd = (n + 3) % 7) (hw2 : ¬ 0 < y → wd = -1)
    (ho : ∀ w : World, Calls Try.prog 7 #[.int .i64 year, .int .i64 month, .int .i64 day] w fun e w' => e = .returned (.tuple #[.int .i64 o, .bool is]) ∧ w = w')
    (hq : ∀ w : World, Calls Try.prog 9 #[.int .i64 year, .int .i64 month, .int .i64 day] w fun e w' => e = .returned (.int .i64 q) ∧ Below w.heap.size w w')
    (ht : ∀ w : World, Calls Try.prog 8 #[.int .i64 o, .bool is, .int .i64 q] w fun e w' => e = .returned (.bool true) ∧ w = w') :
    Calls Try.prog 3 #[.int .i64 n, .int .i64 year, .int .i64 month, .int .i64 day] w fun e w' => e = .returned (.bool true) ∧ Below w.heap.size w w' := by
  have HP := Lib.hid hp
  have HR := Lib.hid hr
  have HWD := Lib.hid hwd
  have HO := Lib.hid ho
  have HQ := Lib.hid hq
  have HT := Lib.hid ht
  clear hp hr hwd ho hq ht
  by_cases hy : 0 < y
  · have hk' : ok = true := by rw [hk]; simpa using hy
    subst hk'
    obtain ⟨n0, n1⟩ := hn hy
    have hw := hw1 hy
    subst hw
    clear hk hn hw1 hw2
    go_enter Try.func3, Try.ntmps3
    go_wp2_with fail
    refine (HP.out _).mono ?_
    rintro e1 w1 ⟨rfl, rfl⟩
    go_wp2_with fail
    refine (HR.out _).mono ?_
    rintro e1 w1 ⟨rfl, hB1⟩
    go_wp2_with fail
    refine (HO.out _).mono ?_
    rintro e2 w2 ⟨rfl, rfl⟩
    go_wp2_with fail
    refine (HQ.out _).mono ?_
    rintro e2 w2 ⟨rfl, hB2⟩
    have hB := below_mono hB1 hB2 (Nat.le_refl _)
    clear hB1 hB2
    go_wp2_with fail
    refine (HT.out _).mono ?_
    rintro e3 w3 ⟨rfl, rfl⟩
    go_wp2_with fail
    refine (leap_any _ _).mono ?_
    rintro e3 w3 ⟨rfl, rfl⟩
    go_wp2_with fail
    refine (rleap_any _ _).mono ?_
    rintro e3 w3 ⟨rfl, rfl⟩
    go_wp2_with fail
    refine (days_any _ _ _).mono ?_
    rintro e3 w3 ⟨rfl, rfl⟩
    go_wp2_with fail
    refine (rdays_any _ _ _).mono ?_
    rintro e3 w3 ⟨rfl, hB3⟩
    have hC := below_mono hB hB3 (Nat.le_refl _)
    clear hB hB3
    go_wp2_with fail
    refine (HWD.out _).mono ?_
    rintro e4 w4 ⟨rfl, rfl⟩
    go_wp2_with (go_at_call 15; refine (awake_any _).mono ?_; rintro e4 w4 ⟨rfl, hB4⟩)
    go_ret
    exact ⟨rfl, below_mono hC hB4 (Nat.le_refl _)⟩
  · have hk' : ok = false := by rw [hk]; simpa using hy
    subst hk'
    have hw := hw2 hy
    subst hw
    clear hk hn hw1 hw2
    go_enter Try.func3, Try.ntmps3
    go_wp2_with fail
    refine (HP.out _).mono ?_
    rintro e1 w1 ⟨rfl, rfl⟩
    go_wp2_with fail
    refine (HR.out _).mono ?_
    rintro e1 w1 ⟨rfl, hB1⟩
    go_wp2_with fail
    refine (HO.out _).mono ?_
    rintro e2 w2 ⟨rfl, rfl⟩
    go_wp2_with fail
    refine (HQ.out _).mono ?_
    rintro e2 w2 ⟨rfl, hB2⟩
    have hB := below_mono hB1 hB2 (Nat.le_refl _)
    clear hB1 hB2
    go_wp2_with fail
    refine (HT.out _).mono ?_
    rintro e3 w3 ⟨rfl, rfl⟩
    go_wp2_with fail
    refine (leap_any _ _).mono ?_
    rintro e3 w3 ⟨rfl, rfl⟩
    go_wp2_with fail
    refine (rleap_any _ _).mono ?_
    rintro e3 w3 ⟨rfl, rfl⟩
    go_wp2_with fail
    refine (days_any _ _ _).mono ?_
    rintro e3 w3 ⟨rfl, rfl⟩
    go_wp2_with fail
    refine (rdays_any _ _ _).mono ?_
    rintro e3 w3 ⟨rfl, hB3⟩
    have hC := below_mono hB hB3 (Nat.le_refl _)
    clear hB hB3
    go_wp2_with fail
    refine (HWD.out _).mono ?_
    rintro e4 w4 ⟨rfl, rfl⟩
    go_wp2_with (go_at_call 15; refine (awake_any _).mono ?_; rintro e4 w4 ⟨rfl, hB4⟩)
    go_ret
    exact ⟨by show Ending.returned (Value.bool (!decide (0 < y))) = _; exact ret_bool (by simp; omega), below_mono hC hB4 (Nat.le_refl _)⟩

theorem dateCivils_at (n year month day : Int) (w : World) (o : Int) (is : Bool) (q : Int)
    (ho : ∀ w : World, Calls Try.prog 7 #[.int .i64 year, .int .i64 month, .int .i64 day] w fun e w' => e = .returned (.tuple #[.int .i64 o, .bool is]) ∧ w = w')
    (hq : ∀ w : World, Calls Try.prog 9 #[.int .i64 year, .int .i64 month, .int .i64 day] w fun e w' => e = .returned (.int .i64 q) ∧ Below w.heap.size w w')
    (ht : ∀ w : World, Calls Try.prog 8 #[.int .i64 o, .bool is, .int .i64 q] w fun e w' => e = .returned (.bool true) ∧ w = w') :
    Calls Try.prog 3 #[.int .i64 n, .int .i64 year, .int .i64 month, .int .i64 day] w fun e w' => e = .returned (.bool true) ∧ Below w.heap.size w w' := by
  by_cases hn : n < 0 ∨ 2932896 < n
  · exact dateCivils_of n year month day w 0 0 0 false o is q (-1) (civil_no n hn) (fun w => (rcivil_no n hn w).mono fun _ _ ⟨a, b⟩ => ⟨a, b ▸ Below.refl _ _⟩) rfl (fun h => by omega)
      (fun w => by have := weekday_any n w; rwa [if_neg (by omega)] at this) (fun h => by omega) (fun _ => rfl) ho hq ht
  · obtain ⟨y, m, d, hi⟩ := Cal.Is.exists_ (n := n) (by omega) (by omega)
    have y1 := hi.1
    exact dateCivils_of n year month day w y m d true o is q ((n + 3) % 7) (civil_is n y m d hi) (rcivil_is n y m d hi) (by simp; omega) (fun _ => by omega)
      (fun w => by have := weekday_any n w; rwa [if_pos (by omega)] at this) (fun _ => rfl) (fun h => by omega) ho hq ht

theorem dateCivils_walk (n year month day : Int) (w0 : (Lit.int .i64 n).wf = true) (w1 : (Lit.int .i64 year).wf = true) (w2 : (Lit.int .i64 month).wf = true) (w3 : (Lit.int .i64 day).wf = true) (w : World) :
    Calls Try.prog 3 #[.int .i64 n, .int .i64 year, .int .i64 month, .int .i64 day] w fun e w' => e = .returned (.bool true) ∧ Below w.heap.size w w' := by
  by_cases h : year < 1970 ∨ 9999 < year ∨ day < 1 ∨ Cal.dim year month < day
  · exact dateCivils_at n year month day w 0 false (-1) (of_no year month day h) (rof_no year month day h) told_no
  · have hm : 1 ≤ month ∧ month ≤ 12 := by
      rcases Int.lt_or_le month 1 with h' | h'
      · have := Cal.dim_out year month (.inl h'); omega
      · rcases Int.lt_or_le 12 month with h'' | h''
        · have := Cal.dim_out year month (.inr h''); omega
        · exact ⟨h', h''⟩
    have hi : Cal.Is (Cal.dayNum year month day) year month day := Cal.is_dayNum (by omega) (by omega) hm.1 hm.2 (by omega) (by omega)
    exact dateCivils_at n year month day w _ true _ (of_yes _ year month day hi) (rof_yes _ year month day hi) (told_yes _ hi.range.1)
end Go.Proofs.Ytknahehmkjaelaa
