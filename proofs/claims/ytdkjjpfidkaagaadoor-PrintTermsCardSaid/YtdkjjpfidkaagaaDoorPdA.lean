/- Layer 2: date.Print, the document's Print. Conditions: those written at each theorem. -/
import Init.Data.Int
import Init.Omega
import Derived.Test.YtdkjjpfidkaagaaDoorHelp
import Derived.WalkKit
import Derived.Lib.Hide
import Derived.Test.YtdkjjpfidkaagaaDoorChecked
import Derived.Lib.Builder
import Derived.Lib.UnsafeStr
import Derived.Laws.NewBlocks
import Derived.OwnWalk
import Derived.Test.YtdkjjpfidkaagaaDoorShelf
import Derived.WalkLawsBesides
import Derived.WalkSpells
import Derived.Lib.ConvBytes
namespace Go.Proofs.YtdkjjpfidkaagaaDoor
namespace Cal

def lp (y : Int) : Int := if y % 4 = 0 ∧ (y % 100 ≠ 0 ∨ y % 400 = 0) then 1 else 0
def dby (y : Int) : Int := 365 * (y - 1) + (y - 1) / 4 - (y - 1) / 100 + (y - 1) / 400 - 719162
def dim (y m : Int) : Int := if m = 2 then 28 + lp y else if m = 4 ∨ m = 6 ∨ m = 9 ∨ m = 11 then 30 else if 1 ≤ m ∧ m ≤ 12 then 31 else 0
def cum (y m : Int) : Int :=
  if m ≤ 1 then 0 else if m = 2 then 31 else if m = 3 then 59 + lp y else if m = 4 then 90 + lp y else if m = 5 then 120 + lp y else if m = 6 then 151 + lp y
  else if m = 7 then 181 + lp y else if m = 8 then 212 + lp y else if m = 9 then 243 + lp y else if m = 10 then 273 + lp y else if m = 11 then 304 + lp y
  else if m = 12 then 334 + lp y else 365 + lp y

theorem lp_01 (y : Int) : 0 ≤ lp y ∧ lp y ≤ 1 := by unfold lp; split <;> omega
theorem dby_succ (y : Int) : dby (y + 1) = dby y + 365 + lp y := by unfold dby lp; split <;> omega
theorem dby_1970 : dby 1970 = 0 := by decide
theorem dby_10000 : dby 10000 = 2932897 := by decide
theorem dby_mono (a b : Int) (h : a ≤ b) : dby a ≤ dby b := by unfold dby; omega
theorem dby_lt (a b : Int) (h : a < b) : dby a + 365 ≤ dby b := by
  have h1 := dby_succ a
  have h2 := dby_mono (a + 1) b (by omega)
  have h3 := lp_01 a
  omega
theorem dim_lo (y m : Int) : 0 ≤ dim y m := by have := lp_01 y; unfold dim; split <;> (try split) <;> (try split) <;> omega
theorem dim_hi (y m : Int) : dim y m ≤ 31 := by have := lp_01 y; unfold dim; split <;> (try split) <;> (try split) <;> omega
theorem dim_28 (y m : Int) (h1 : 1 ≤ m) (h2 : m ≤ 12) : 28 ≤ dim y m := by have := lp_01 y; unfold dim; split <;> (try split) <;> (try split) <;> omega
theorem dim_out (y m : Int) (h : m < 1 ∨ 12 < m) : dim y m = 0 := by unfold dim; rw [if_neg (by omega), if_neg (by omega), if_neg (by omega)]
theorem months {P : Int → Prop} (m : Int) (h1 : 1 ≤ m) (h2 : m ≤ 12) (p1 : P 1) (p2 : P 2) (p3 : P 3) (p4 : P 4) (p5 : P 5) (p6 : P 6) (p7 : P 7) (p8 : P 8) (p9 : P 9) (p10 : P 10) (p11 : P 11) (p12 : P 12) : P m := by
  have : m = 1 ∨ m = 2 ∨ m = 3 ∨ m = 4 ∨ m = 5 ∨ m = 6 ∨ m = 7 ∨ m = 8 ∨ m = 9 ∨ m = 10 ∨ m = 11 ∨ m = 12 := by omega
  rcases this with rfl | rfl | rfl | rfl | rfl | rfl | rfl | rfl | rfl | rfl | rfl | rfl <;> assumption
theorem cum_one (y : Int) : cum y 1 = 0 := by unfold cum; rw [if_pos (by omega)]
theorem cum_13 (y : Int) : cum y 13 = 365 + lp y := by simp [cum]
theorem cum_succ (y m : Int) (h1 : 1 ≤ m) (h2 : m ≤ 12) : cum y (m + 1) = cum y m + dim y m := by
  have := lp_01 y
  refine months (P := fun m => cum y (m + 1) = cum y m + dim y m) m h1 h2 ?_ ?_ ?_ ?_ ?_ ?_ ?_ ?_ ?_ ?_ ?_ ?_ <;> simp [cum, dim] <;> omega
theorem cum_13up (y m : Int) (h : 13 ≤ m) : cum y m = 365 + lp y := by
  unfold cum
  rw [if_neg (by omega), if_neg (by omega), if_neg (by omega), if_neg (by omega), if_neg (by omega), if_neg (by omega), if_neg (by omega), if_neg (by omega), if_neg (by omega), if_neg (by omega), if_neg (by omega), if_neg (by omega)]
theorem cum_bd (y m : Int) : 0 ≤ cum y m ∧ cum y m ≤ 365 + lp y := by
  have := lp_01 y
  by_cases a : m ≤ 1
  · unfold cum; rw [if_pos a]; omega
  · by_cases b : 13 ≤ m
    · rw [cum_13up y m b]; omega
    · refine months (P := fun m => 0 ≤ cum y m ∧ cum y m ≤ 365 + lp y) m (by omega) (by omega) ?_ ?_ ?_ ?_ ?_ ?_ ?_ ?_ ?_ ?_ ?_ ?_ <;> simp [cum] <;> omega
theorem cum_lo (y m : Int) : 0 ≤ cum y m := (cum_bd y m).1
theorem cum_hi (y m : Int) : cum y m ≤ 365 + lp y := (cum_bd y m).2
theorem cum_mono_nat (y m : Int) (h1 : 1 ≤ m) (k : Nat) : m + k ≤ 13 → cum y m ≤ cum y (m + k) := by
  induction k with
  | zero => intro _; simp
  | succ k ih =>
    intro h
    have e := cum_succ y (m + k) (by omega) (by omega)
    have d := dim_lo y (m + k)
    have i := ih (by omega)
    have : m + ((k + 1 : Nat) : Int) = m + k + 1 := by omega
    rw [this]
    omega
theorem cum_mono (y m m' : Int) (h1 : 1 ≤ m) (h2 : m ≤ m') (h3 : m' ≤ 13) : cum y m ≤ cum y m' := by
  have := cum_mono_nat y m h1 (m' - m).toNat (by omega)
  have e : m + ((m' - m).toNat : Int) = m' := by omega
  rwa [e] at this

/-- Day n is the d-th of month m of year y. -/
def Is (n y m d : Int) : Prop := 1970 ≤ y ∧ y ≤ 9999 ∧ 1 ≤ m ∧ m ≤ 12 ∧ 1 ≤ d ∧ d ≤ dim y m ∧ dby y + cum y m + d - 1 = n
theorem Is.range {n y m d : Int} (h : Is n y m d) : 0 ≤ n ∧ n ≤ 2932896 := by
  obtain ⟨a, b, c, e, f, g, rfl⟩ := h
  have h1 := dby_mono 1970 y a
  have h2 := dby_mono (y + 1) 10000 (by omega)
  have h3 := dby_succ y
  have h4 := cum_lo y m
  have h5 := cum_succ y m c e
  have h6 := cum_hi y (m + 1)
  rw [dby_1970] at h1
  rw [dby_10000] at h2
  omega
theorem Is.year {n y m d : Int} (h : Is n y m d) : dby y ≤ n ∧ n < dby (y + 1) := by
  obtain ⟨a, b, c, e, f, g, rfl⟩ := h
  have h3 := dby_succ y
  have h4 := cum_lo y m
  have h5 := cum_succ y m c e
  have h6 := cum_hi y (m + 1)
  omega
theorem year_unique {n y z : Int} (h1 : dby y ≤ n) (h2 : n < dby (y + 1)) (k1 : dby z ≤ n) (k2 : n < dby (z + 1)) : y = z := by
  rcases Int.lt_trichotomy y z with h | h | h
  · have := dby_mono (y + 1) z (by omega); omega
  · exact h
  · have := dby_mono (z + 1) y (by omega); omega
theorem month_unique {r y m k : Int} (a1 : 1 ≤ m) (a2 : m ≤ 12) (b1 : 1 ≤ k) (b2 : k ≤ 12) (h1 : cum y m ≤ r) (h2 : r < cum y (m + 1)) (k1 : cum y k ≤ r) (k2 : r < cum y (k + 1)) : m = k := by
  rcases Int.lt_trichotomy m k with h | h | h
  · have := cum_mono y (m + 1) k (by omega) (by omega) (by omega); omega
  · exact h
  · have := cum_mono y (k + 1) m (by omega) (by omega) (by omega); omega
theorem Is.unique {n y m d z k e : Int} (h : Is n y m d) (h' : Is n z k e) : y = z ∧ m = k ∧ d = e := by
  obtain ⟨p1, p2⟩ := h.year
  obtain ⟨q1, q2⟩ := h'.year
  obtain rfl := year_unique p1 p2 q1 q2
  obtain ⟨a, b, c, e1, f, g, hn⟩ := h
  obtain ⟨a', b', c', e1', f', g', hn'⟩ := h'
  have s1 := cum_succ y m c e1
  have s2 := cum_succ y k c' e1'
  obtain rfl := month_unique (r := n - dby y) (y := y) c e1 c' e1' (by omega) (by omega) (by omega) (by omega)
  exact ⟨rfl, rfl, by omega⟩
def dayNum (y m d : Int) : Int := dby y + cum y m + d - 1
theorem is_dayNum {y m d : Int} (a : 1970 ≤ y) (b : y ≤ 9999) (c : 1 ≤ m) (e : m ≤ 12) (f : 1 ≤ d) (g : d ≤ dim y m) : Is (dayNum y m d) y m d := ⟨a, b, c, e, f, g, rfl⟩
theorem Is.num {n y m d : Int} (h : Is n y m d) : n = dayNum y m d := h.2.2.2.2.2.2.symm
theorem Is.next {n y m d : Int} (h : Is n y m d) (hn : n < 2932896) : ∃ y' m' d', Is (n + 1) y' m' d' := by
  obtain ⟨a, b, c, e, f, g, rfl⟩ := h
  have cs := cum_succ y m c e
  by_cases h1 : d < dim y m
  · exact ⟨y, m, d + 1, a, b, c, e, by omega, by omega, by omega⟩
  · by_cases h2 : m < 12
    · refine ⟨y, m + 1, 1, a, b, by omega, by omega, by omega, ?_, by omega⟩
      have := dim_28 y (m + 1) (by omega) (by omega)
      omega
    · obtain rfl : m = 12 := by omega
      have c13 := cum_13 y
      have cs : cum y 13 = cum y 12 + dim y 12 := cs
      have ds := dby_succ y
      have c1 := cum_one (y + 1)
      have hy : y < 9999 := by
        rcases Int.lt_or_le y 9999 with h | h
        · exact h
        · obtain rfl : y = 9999 := by omega
          have := dby_10000
          have ds : dby 10000 = dby 9999 + 365 + lp 9999 := ds
          omega
      refine ⟨y + 1, 1, 1, by omega, by omega, by omega, by omega, by omega, ?_, by omega⟩
      have := dim_28 (y + 1) 1 (by omega) (by omega)
      omega
theorem Is.exists_nat (k : Nat) : k ≤ 2932896 → ∃ y m d, Is k y m d := by
  induction k with
  | zero => intro _; exact ⟨1970, 1, 1, by unfold Is; decide⟩
  | succ k ih =>
    intro h
    obtain ⟨y, m, d, hi⟩ := ih (by omega)
    have := hi.next (by omega)
    simpa using this
theorem Is.exists_ {n : Int} (h1 : 0 ≤ n) (h2 : n ≤ 2932896) : ∃ y m d, Is n y m d := by
  have := Is.exists_nat n.toNat (by omega)
  rwa [Int.toNat_of_nonneg h1] at this
end Cal
end Go.Proofs.YtdkjjpfidkaagaaDoor
namespace Go.Proofs.YtdkjjpfidkaagaaDoor
open Go.RowKit

def lpB (y : Int) : Bool := decide (Cal.lp y = 1)
theorem tmod0 (a b : Int) : a.tmod b = 0 ↔ a % b = 0 := ⟨fun h => Int.emod_eq_zero_of_dvd (Int.dvd_of_tmod_eq_zero h), fun h => Int.tmod_eq_zero_of_dvd (Int.dvd_of_emod_eq_zero h)⟩
theorem lpB_iff (y : Int) : lpB y = true ↔ (y % 4 = 0 ∧ (y % 100 ≠ 0 ∨ y % 400 = 0)) := by
  unfold lpB Cal.lp
  split <;> simp_all
theorem lpB_no (y : Int) (h : ¬ (y % 4 = 0 ∧ (y % 100 ≠ 0 ∨ y % 400 = 0))) : lpB y = false := by
  rw [Bool.eq_false_iff]; exact fun e => h ((lpB_iff y).1 e)
theorem lp_true {y : Int} (h : lpB y = true) : Cal.lp y = 1 := by simpa [lpB] using h
theorem lp_false {y : Int} (h : lpB y = false) : Cal.lp y = 0 := by
  have := Cal.lp_01 y
  have h' : ¬ Cal.lp y = 1 := by simpa [lpB] using h
  omega

theorem leap_any (y : Int) (w : World) :
    Calls Tryd.prog 143 #[.int .i64 y] w fun e w' => e = .returned (.bool (lpB y)) ∧ w = w' := by
  go_enter Tryd.func143, Tryd.ntmps143
  go_wp2
  all_goals go_ret
  all_goals refine ⟨ret_bool ?_, rfl⟩
  · rename_i h1 h2
    rw [tmod0] at h1 h2
    rw [Bool.eq_iff_iff, lpB_iff, beq_iff_eq, tmod0]
    omega
  · rename_i h1 h2
    rw [tmod0] at h1 h2
    exact ((lpB_iff y).2 ⟨h1, .inl h2⟩).symm
  · rename_i h1
    rw [tmod0] at h1
    exact (lpB_no y (by omega)).symm

def noneB (n : Int) : Bool := decide (n < 0) || decide (2932896 < n)
theorem none_any (n : Int) (w : World) :
    Calls Tryd.prog 140 #[.int .i64 n] w fun e w' => e = .returned (.bool (noneB n)) ∧ w = w' := by
  go_enter Tryd.func140, Tryd.ntmps140
  go_wp2
  all_goals go_ret
  · exact ⟨rfl, rfl⟩
  · rename_i h
    exact ⟨ret_bool (by simp [noneB, h]), rfl⟩
theorem noneB_true {n : Int} (h : n < 0 ∨ 2932896 < n) : noneB n = true := by simp [noneB, h]
theorem noneB_false {n : Int} (h : 0 ≤ n) (h' : n ≤ 2932896) : noneB n = false := by simp [noneB]; omega

set_option maxHeartbeats 400000 in
theorem days_any (y m : Int) (w : World) :
    Calls Tryd.prog 132 #[.int .i64 y, .int .i64 m] w fun e w' => e = .returned (.int .i64 (Cal.dim y m)) ∧ w = w' := by
  by_cases hl : lpB y = true
  · have hl' := Lib.hid (lp_true hl)
    go_enter Tryd.func132, Tryd.ntmps132
    go_wp2_with (go_at_call 143; refine (leap_any _ _).mono ?_; rintro e w' ⟨rfl, rfl⟩)
    all_goals (go_ret; refine ⟨ret_int ?_, rfl⟩; have hq := hl'.out; clear hl hl'; simp only [beq_iff_eq, beq_eq_false_iff_ne, ne_eq] at *; unfold Cal.dim; repeat' split)
    all_goals omega
  · have hl : lpB y = false := by simpa using hl
    have hl' := Lib.hid (lp_false hl)
    go_enter Tryd.func132, Tryd.ntmps132
    go_wp2_with (go_at_call 143; refine (leap_any _ _).mono ?_; rintro e w' ⟨rfl, rfl⟩)
    all_goals (go_ret; refine ⟨ret_int ?_, rfl⟩; have hq := hl'.out; clear hl hl'; simp only [beq_iff_eq, beq_eq_false_iff_ne, ne_eq] at *; unfold Cal.dim; repeat' split)
    all_goals omega

theorem ahead_any (y : Int) (h1 : 1 ≤ y) (h2 : y ≤ 1000000) (w : World) :
    Calls Tryd.prog 144 #[.int .i64 y] w fun e w' => e = .returned (.int .i64 (Cal.dby y + 719162)) ∧ w = w' := by
  go_enter Tryd.func144, Tryd.ntmps144
  go_wp2
  go_ret
  exact ⟨ret_int (by unfold Cal.dby; omega), rfl⟩

theorem firstOf_any (y m : Int) (h1 : 1 ≤ y) (h2 : y ≤ 1000000) (m1 : 1 ≤ m) (m2 : m ≤ 13) (w : World) :
    Calls Tryd.prog 133 #[.int .i64 y, .int .i64 m] w fun e w' => e = .returned (.int .i64 (Cal.dby y + Cal.cum y m)) ∧ w = w' := by
  have d0 : -719162 ≤ Cal.dby y := by unfold Cal.dby; omega
  have d1 : Cal.dby y ≤ 370000000 := by unfold Cal.dby; omega
  have e0 : Cal.dby 1970 = 0 := Cal.dby_1970
  go_enter Tryd.func133, Tryd.ntmps133
  go_wp2_with (go_at_call 144; refine (ahead_any _ (by omega) (by omega) _).mono ?_; rintro e w' ⟨rfl, rfl⟩)
  clear e0
  go_loop [5, 6] (fun t k => ∃ j : Int, 1 ≤ j ∧ j ≤ m ∧ k = .int .i64 j ∧ t = .int .i64 (Cal.dby y + Cal.cum y j)) (fun _ k => (m - intOf k).toNat)
  case atStart => exact ⟨1, by omega, m1, rfl, by rw [Cal.cum_one]; simp⟩
  case round =>
    obtain ⟨j, j1, j2, rfl, rfl⟩ := hrel
    have c1 := Cal.cum_lo y j
    have c2 := Cal.cum_hi y j
    have c3 := (Cal.lp_01 y).2
    have c4 := Cal.dim_lo y j
    have c5 := Cal.dim_hi y j
    by_cases hj : j < m
    · go_wp2_with (go_at_call 132; refine (days_any _ _ _).mono ?_; rintro e w' ⟨rfl, rfl⟩)
      go_round
      case rel => exact ⟨j + 1, by omega, by omega, rfl, by rw [Cal.cum_succ y j j1 (by omega)]; go_num⟩
      case measure => simp [intOf]; omega
    · obtain rfl : j = m := by omega
      go_wp2
      go_ret
      exact ⟨rfl, rfl⟩

theorem of_yes (n y m d : Int) (h : Cal.Is n y m d) (w : World) :
    Calls Tryd.prog 117 #[.int .i64 y, .int .i64 m, .int .i64 d] w fun e w' => e = .returned (.tuple #[.int .i64 n, .bool true]) ∧ w = w' := by
  have hr := h.range
  obtain ⟨a, b, c, e, f, g, hn⟩ := h
  have HN := Lib.hid hn
  have hn1 : Cal.dby y + Cal.cum y m + d ≤ n + 1 := by omega
  have hn2 : n + 1 ≤ Cal.dby y + Cal.cum y m + d := by omega
  clear hn
  have d0 : -719162 ≤ Cal.dby y := by unfold Cal.dby; omega
  have d1 : Cal.dby y ≤ 370000000 := by unfold Cal.dby; omega
  have c1 := Cal.cum_lo y m
  have c2 := Cal.cum_hi y m
  have c3 := (Cal.lp_01 y).2
  have c5 := Cal.dim_hi y m
  go_enter Tryd.func117, Tryd.ntmps117
  go_wp2_with (first | (go_at_call 132; refine (days_any _ _ _).mono ?_; rintro e w' ⟨rfl, rfl⟩) | (go_at_call 133; refine (firstOf_any _ _ (by omega) (by omega) (by omega) (by omega) _).mono ?_; rintro e w' ⟨rfl, rfl⟩))
  go_ret2
  exact ⟨by rw [← HN.out]; rfl, rfl⟩

theorem of_no (y m d : Int) (h : y < 1970 ∨ 9999 < y ∨ d < 1 ∨ Cal.dim y m < d) (w : World) :
    Calls Tryd.prog 117 #[.int .i64 y, .int .i64 m, .int .i64 d] w fun e w' => e = .returned (.tuple #[.int .i64 0, .bool false]) ∧ w = w' := by
  by_cases h1 : y < 1970
  · go_enter Tryd.func117, Tryd.ntmps117
    go_wp2_with fail
    go_ret2
    exact ⟨rfl, rfl⟩
  · by_cases h2 : 9999 < y
    · go_enter Tryd.func117, Tryd.ntmps117
      go_wp2_with fail
      go_ret2
      exact ⟨rfl, rfl⟩
    · by_cases h3 : d < 1
      · go_enter Tryd.func117, Tryd.ntmps117
        go_wp2_with fail
        go_ret2
        exact ⟨rfl, rfl⟩
      · have h4 : Cal.dim y m < d := by omega
        clear h
        go_enter Tryd.func117, Tryd.ntmps117
        go_wp2_with (go_at_call 132; refine (days_any _ _ _).mono ?_; rintro e w' ⟨rfl, rfl⟩)
        go_ret2
        exact ⟨rfl, rfl⟩

theorem firstOf_one (y : Int) (h1 : 1 ≤ y) (h2 : y ≤ 1000000) (w : World) :
    Calls Tryd.prog 133 #[.int .i64 y, .int .i64 1] w fun e w' => e = .returned (.int .i64 (Cal.dby y)) ∧ w = w' :=
  (firstOf_any y 1 h1 h2 (by omega) (by omega) w).mono fun e w' ⟨he, hw⟩ => ⟨by rw [he, Cal.cum_one, Int.add_zero], hw⟩

theorem civil_no (n : Int) (h : n < 0 ∨ 2932896 < n) (w : World) :
    Calls Tryd.prog 124 #[.int .i64 n] w fun e w' => e = .returned (.tuple #[.int .i64 0, .int .i64 0, .int .i64 0, .bool false]) ∧ w = w' := by
  have hb := noneB_true h
  clear h
  go_enter Tryd.func124, Tryd.ntmps124
  go_wp2_with (go_at_call 140; refine (none_any _ _).mono ?_; rintro e w' ⟨rfl, rfl⟩)
  exact bodyPost_ret (results_tmp4 rfl _ _ _) rfl ⟨rfl, rfl⟩

theorem guess (n : Int) (h : 0 ≤ n) : Cal.dby (1970 + n / 366) ≤ n := by unfold Cal.dby; omega

set_option maxHeartbeats 400000 in
theorem civil_yes (n : Int) (h1 : 0 ≤ n) (h2 : n ≤ 2932896) (w : World) :
    Calls Tryd.prog 124 #[.int .i64 n] w fun e w' => ∃ y m d : Int, Cal.Is n y m d ∧ e = .returned (.tuple #[.int .i64 y, .int .i64 m, .int .i64 d, .bool true]) ∧ w = w' := by
  have hb := noneB_false h1 h2
  have g0 := guess n h1
  go_enter Tryd.func124, Tryd.ntmps124
  go_wp2_with (go_at_call 140; refine (none_any _ _).mono ?_; rintro e w' ⟨rfl, rfl⟩)
  clear hb
  go_loop [6] (fun t => ∃ y : Int, 1970 ≤ y ∧ y ≤ 9999 ∧ Cal.dby y ≤ n ∧ t = .int .i64 y) (fun t => (9999 - intOf t).toNat)
  case atStart => exact ⟨_, by omega, by omega, g0, rfl⟩
  case round =>
    obtain ⟨y, hy1, hy2, hy3, rfl⟩ := hrel
    by_cases hc : Cal.dby (y + 1) ≤ n
    · have hy9 : y < 9999 := by
        rcases Int.lt_or_le y 9999 with h | h
        · exact h
        · have := Cal.dby_mono 10000 (y + 1) (by omega)
          rw [Cal.dby_10000] at this
          omega
      go_wp2_with (go_at_call 133; refine (firstOf_one _ (by omega) (by omega) _).mono ?_; rintro e w' ⟨rfl, rfl⟩)
      go_round
      case rel => exact ⟨y + 1, by omega, by omega, hc, rfl⟩
      case measure => simp [intOf]; omega
    · have hs := Lib.hid (Cal.dby_succ y)
      have hl := Cal.lp_01 y
      have d0 : -719162 ≤ Cal.dby y := by unfold Cal.dby; omega
      go_wp2_with (go_at_call 133; refine (firstOf_one _ (by omega) (by omega) _).mono ?_; rintro e w' ⟨rfl, rfl⟩)
      go_loop [7, 8] (fun t k => ∃ m : Int, 1 ≤ m ∧ m ≤ 12 ∧ k = .int .i64 m ∧ 0 ≤ n - Cal.dby y - Cal.cum y m ∧ t = .int .i64 (n - Cal.dby y - Cal.cum y m)) (fun _ k => (12 - intOf k).toNat)
      case atStart => exact ⟨1, by omega, by omega, rfl, by rw [Cal.cum_one]; omega, by rw [Cal.cum_one]; simp⟩
      case round =>
        obtain ⟨m, m1, m2, rfl, hr, rfl⟩ := hrel
        have c1 := Cal.cum_lo y m
        have c2 := Cal.cum_hi y m
        have c4 := Cal.dim_lo y m
        have c5 := Cal.dim_hi y m
        have cs := Lib.hid (Cal.cum_succ y m m1 m2)
        by_cases hd : Cal.dim y m ≤ n - Cal.dby y - Cal.cum y m
        · have hm : m < 12 := by
            rcases Int.lt_or_le m 12 with h | h
            · exact h
            · obtain rfl : m = 12 := by omega
              have h13 := Cal.cum_13 y
              have h1 : Cal.cum y 13 = _ := cs.out
              have h2 := hs.out
              omega
          go_wp2_with (go_at_call 132; refine (days_any _ _ _).mono ?_; rintro e w' ⟨rfl, rfl⟩)
          go_round
          case rel => exact ⟨m + 1, by omega, by omega, rfl, by rw [cs.out]; omega, by rw [cs.out]; go_num⟩
          case measure => simp [intOf]; omega
        · go_wp2_with (go_at_call 132; refine (days_any _ _ _).mono ?_; rintro e w' ⟨rfl, rfl⟩)
          refine bodyPost_ret (results_tmp4 rfl _ _ _) rfl ⟨y, m, n - Cal.dby y - Cal.cum y m + 1, ?_, rfl, rfl⟩
          exact ⟨hy1, hy2, m1, m2, by omega, by omega, by omega⟩

theorem civil_is (n y m d : Int) (h : Cal.Is n y m d) (w : World) :
    Calls Tryd.prog 124 #[.int .i64 n] w fun e w' => e = .returned (.tuple #[.int .i64 y, .int .i64 m, .int .i64 d, .bool true]) ∧ w = w' := by
  have hr := h.range
  refine (civil_yes n hr.1 hr.2 w).mono ?_
  rintro e w' ⟨y', m', d', h', he, hw⟩
  obtain ⟨rfl, rfl, rfl⟩ := h'.unique h
  exact ⟨he, hw⟩
end Go.Proofs.YtdkjjpfidkaagaaDoor
namespace Go.Proofs.YtdkjjpfidkaagaaDoor
open Go.RowKit

theorem bldSize : (Tryd.prog.info? 79).map (·.size) = some 2 := by kernel_rfl
theorem bldLies : liesAt Tryd.prog Tryd.prog.depth 79 (2 / Tryd.prog.cellsOf 79) 0 79 1 = true := by kernel_rfl
theorem byteInfo : (Tryd.prog.info? 5).map (fun i => (i.zero, i.size, i.bytes)) = some (some (.int .u8 0), 1, 1) := by kernel_rfl

set_option maxHeartbeats 1000000 in
set_option maxRecDepth 100000 in
theorem copyCheck_used (b : Nat) (w : World) (h0 : w.cell? ⟨b, 0, none⟩ = some (.pointer (some ⟨b, 0, none⟩))) :
    Calls Tryd.prog 100 #[.pointer (some ⟨b, 0, none⟩)] w fun e w' => e = .returned (.tuple #[]) ∧ w = w' := by
  obtain ⟨j, hj, _⟩ := Option.map_eq_some_iff.1 bldSize
  go_enter Tryd.func100, Tryd.ntmps100
  go_wp2
  rw [Lib.run_neq_ptr_same w _ Tryd.underlying76 hj]
  go_wp2
  go_end0
  exact ⟨rfl, rfl⟩

set_option maxHeartbeats 1000000 in
set_option maxRecDepth 100000 in
theorem copyCheck_fresh (b : Nat) (w : World) (h0 : w.cell? ⟨b, 0, none⟩ = some (.pointer none)) (hsh : w.shape? b = some (79, 2)) (hfz : w.frozen? ⟨b, 0, none⟩ = false) :
    Calls Tryd.prog 100 #[.pointer (some ⟨b, 0, none⟩)] w fun e w' => e = .returned (.tuple #[]) ∧ w.setCell ⟨b, 0, none⟩ (.pointer (some ⟨b, 0, none⟩)) = w' := by
  obtain ⟨j, hj, hjs⟩ := Option.map_eq_some_iff.1 bldSize
  go_enter Tryd.func100, Tryd.ntmps100
  go_wp2
  rw [Lib.run_to_unsafe w ⟨b, 0, none⟩ Tryd.underlying76 Tryd.underlying144 hj (by rw [hjs]; decide) hsh (Nat.zero_lt_succ 1)]
  simp only [Result.andThen]
  rw [Oper.upon_value]
  go_wp2
  rw [run_callFunc_extern Tryd.func121 (by kernel_rfl) (by kernel_rfl) (by kernel_rfl) (e := Extern.AbiNoEscape.same) (by kernel_rfl)]
  rw [Lib.run_noEscape]
  simp only [Result.andThen]
  rw [Oper.upon_value]
  go_wp2
  rw [Lib.run_from_unsafe w ⟨b, 0, none⟩ Tryd.underlying144 Tryd.underlying76 hj hsh bldLies]
  simp only [Result.andThen]
  rw [Oper.upon_value]
  go_wp2
  go_end0
  exact ⟨rfl, rfl⟩

theorem copyCheck_any (B b : Nat) (bs : List Value) (w : World) (h : Lib.IsBuilder 79 5 B b bs w) :
    Calls Tryd.prog 100 #[.pointer (some ⟨b, 0, none⟩)] w fun e w' => e = .returned (.tuple #[]) ∧ (Lib.BuilderAt 79 5 B b (.pointer (some ⟨b, 0, none⟩)) bs w' ∧ Below B w w') := by
  rcases h with h | h
  · refine (copyCheck_fresh b w h.cell0 h.shape h.frozen0).mono ?_
    rintro e w' ⟨rfl, rfl⟩
    exact ⟨rfl, h.used _, (Below.refl B w).setCell (p := ⟨b, 0, none⟩) h.1 _⟩
  · refine (copyCheck_used b w h.cell0).mono ?_
    rintro e w' ⟨rfl, rfl⟩
    exact ⟨rfl, h, Below.refl B _⟩

set_option maxHeartbeats 2000000 in
set_option maxRecDepth 100000 in
theorem writeByte_any (B b : Nat) (bs : List Value) (c : Int) (w : World) (h : Lib.IsBuilder 79 5 B b bs w) (hlen : bs.length + 1 ≤ 140737488355328) (hBw : B ≤ w.heap.size) :
    Calls Tryd.prog 126 #[.pointer (some ⟨b, 0, none⟩), .int .u8 c] w fun e w' => e = .returned .nilIface ∧ (Lib.BuilderAt 79 5 B b (.pointer (some ⟨b, 0, none⟩)) (bs ++ [.int .u8 c]) w' ∧ Below B w w') := by
  obtain ⟨i0, hi, hz0, hz1, hz2⟩ := info_parts byteInfo
  go_enter Tryd.func126, Tryd.ntmps126
  go_wp2_with (go_at_call 100; refine (copyCheck_any B b bs _ h).mono ?_)
  rintro e w1 ⟨rfl, h1, hb1⟩
  obtain ⟨hB, v, hbk, hown, hne⟩ := h1
  have c0 : w1.cell? ⟨b, 0, none⟩ = some (.pointer (some ⟨b, 0, none⟩)) := by rw [Lib.cell_of_heap hbk]; rfl
  have c1 : w1.cell? ⟨b, 1, none⟩ = some v := by rw [Lib.cell_of_heap hbk]; rfl
  go_wp2_with (at_builtin; refine wpList_append_own _ rfl _ _ 77 rfl B 5 i0 (.int .u8 0) 1 1 Tryd.underlying77 hi hz0 hz1 hz2 rfl (by decide) _ _ _ rfl (hown.alloc _) ⟨w1.heap.size, 0, none⟩ 1 1 [.int .u8 c] rfl rfl ?c1 ?c2 ?c3 ?c4 ?c5 ?_)
  case c1 =>
    intro j u hj
    match j, hj with
    | 0, hj => simp at hj; subst hj; simp [Addr.add]
  case c2 => intro u hu; simp at hu; subst hu; rfl
  case c3 => unfold maxLen; omega
  case c4 => omega
  case c5 => have := hb1.size; simp; omega
  intro v' w2 hown' hgrow _
  have hlt : b < w1.heap.size := by
    rcases Nat.lt_or_ge b w1.heap.size with h' | h'
    · exact h'
    · simp [Array.getElem?_eq_none h'] at hbk
  have hb2 : w2.heap[b]? = some (.cells #[.pointer (some ⟨b, 0, none⟩), v] 79 (0, 0)) := by
    rw [hgrow.block b (by simp; omega) (fun e => hne e.symm), Below.heap_alloc w1 _ b hlt]
    exact hbk
  have d0 : w2.cell? ⟨b, 0, none⟩ = some (.pointer (some ⟨b, 0, none⟩)) := by rw [Lib.cell_of_heap hb2]; rfl
  have d1 : w2.cell? ⟨b, 1, none⟩ = some v := by rw [Lib.cell_of_heap hb2]; rfl
  have f1 : w2.frozen? ⟨b, 1, none⟩ = false := Lib.frozen_of_heap hb2 1
  obtain ⟨g, cap, rfl⟩ : ∃ g cap, v' = .slice (some ⟨g, 0, none⟩) (bs.length + 1) cap := by
    rcases hown'.2 with ⟨_, h0⟩ | ⟨g, cap, cur, hv, _⟩
    · omega
    · exact ⟨g, cap, hv⟩
  go_wp2
  go_ret
  refine ⟨rfl, ?_, ?_⟩
  · exact Lib.BuilderAt.put (T := 79) (e := 5) hB hb2 (bs' := bs ++ [.int .u8 c]) (by simpa using hown') (by decide)
  · exact ((hb1.alloc (by have := hb1.size; omega) _).grown hgrow (by have := hb1.size; simp; omega) (fun k hk => (hown.lt k hk).1)).setCell (p := ⟨b, 1, none⟩) hB _
end Go.Proofs.YtdkjjpfidkaagaaDoor
namespace Go.Proofs.YtdkjjpfidkaagaaDoor
open Go.RowKit
set_option linter.unusedSimpArgs false

def dgt (n : Int) : UInt8 := UInt8.ofNat (48 + n % 10).toNat
def digs (n : Int) : Nat → List UInt8
  | 0 => []
  | j + 1 => dgt (n / 10 ^ j) :: digs n j
def tenp : Nat → Int
  | 0 => 0
  | j + 1 => 10 ^ j
theorem dgt_val (n : Int) : ((dgt n).toNat : Int) = 48 + n % 10 := by
  unfold dgt
  rw [UInt8.toNat_ofNat']
  omega
theorem digs_length (n : Int) (k : Nat) : (digs n k).length = k := by
  induction k with
  | zero => rfl
  | succ k ih => simp [digs, ih]

def PutRel (B b : Nat) (n : Int) (l : List UInt8) (K j : Nat) (W w : World) : Prop :=
  ∃ r : List UInt8, r ++ digs n j = l ++ digs n K ∧ Lib.IsBuilder 79 5 B b (Lib.byteCells r) w ∧ Below B W w

theorem PutRel.step {B b : Nat} {n : Int} {l : List UInt8} {K j : Nat} {W w w1 : World} {r : List UInt8} (hr : r ++ digs n (j + 1) = l ++ digs n K) (hb : Below B W w)
    (h : Lib.BuilderAt 79 5 B b (.pointer (some ⟨b, 0, none⟩)) (Lib.byteCells r ++ [.int .u8 (48 + n / 10 ^ j % 10)]) w1) (hw : Below B w w1) : PutRel B b n l K j W w1 := by
  refine ⟨r ++ [dgt (n / 10 ^ j)], by rw [← hr]; simp [digs], ?_, hb.trans hw⟩
  have e : Lib.byteCells (r ++ [dgt (n / 10 ^ j)]) = Lib.byteCells r ++ [.int .u8 (48 + n / 10 ^ j % 10)] := by
    simp only [Lib.byteCells, List.map_append, List.map_cons, List.map_nil, dgt_val]
  rw [e]
  exact .inr h
theorem PutRel.len {n : Int} {l : List UInt8} {K j : Nat} {r : List UInt8} (hr : r ++ digs n j = l ++ digs n K) (hl : l.length ≤ 1000) (hK : K ≤ 4) : (Lib.byteCells r).length + 1 ≤ 140737488355328 := by
  have := congrArg List.length hr
  simp only [List.length_append, digs_length] at this
  rw [Lib.byteCells_length]
  omega

set_option maxHeartbeats 800000 in
theorem put_any (n : Int) (h0 : 0 ≤ n) (h1 : n ≤ 9999) (K : Nat) (hK : K ≤ 4) (B b : Nat) (l : List UInt8) (hl : l.length ≤ 1000) (w : World) (hb : Lib.IsBuilder 79 5 B b (Lib.byteCells l) w) (hB : B ≤ w.heap.size) :
    Calls Tryd.prog 125 #[.int .i64 n, .int .i64 (tenp K), .pointer (some ⟨b, 0, none⟩)] w fun e w' => e = .returned (.tuple #[]) ∧ Lib.IsBuilder 79 5 B b (Lib.byteCells (l ++ digs n K)) w' ∧ Below B w w' := by
  have hst : PutRel B b n l K K w w := ⟨l, rfl, hb, Below.refl _ _⟩
  clear hb
  obtain ⟨W, rfl⟩ : ∃ W : World, W = w := ⟨_, rfl⟩
  go_enter Tryd.func125, Tryd.ntmps125
  go_wp2_with fail
  go_loopw [1] (fun k wr => ∃ j : Nat, j ≤ K ∧ k = .int .i64 (tenp j) ∧ PutRel B b n l K j W wr) (fun k _ => (intOf k).toNat)
  case atStart => exact ⟨K, by omega, rfl, hst⟩
  case round =>
    obtain ⟨j, hj, rfl, hrel⟩ := hrel
    clear hst
    obtain ⟨r, hr, hbr, hbw⟩ := hrel
    have HR := Lib.hid hr
    have HBR := Lib.hid hbr
    have hlen := PutRel.len hr hl hK
    have HLEN := Lib.hid hlen
    have hsz := hbw.size
    clear hr hbr hlen
    obtain rfl | rfl | rfl | rfl | rfl : j = 0 ∨ j = 1 ∨ j = 2 ∨ j = 3 ∨ j = 4 := by omega
    · simp only [tenp]
      go_wp2_with fail
      go_end0
      have hr := HR.out
      simp only [digs, List.append_nil] at hr
      subst hr
      exact ⟨rfl, HBR.out, hbw⟩
    · simp only [tenp, Int.reducePow, Int.pow_zero]
      go_wp2_with (go_at_call 126; refine (writeByte_any B b _ _ _ HBR.out HLEN.out (by omega)).mono ?_; rintro e w1 ⟨rfl, hq1, hq2⟩)
      have hp := PutRel.step (W := W) HR.out hbw (by simpa using hq1) hq2
      go_roundw
      case rel => exact ⟨0, by omega, by simp [tenp], hp⟩
      case measure => simp [intOf]
    · simp only [tenp, Int.reducePow, Int.pow_zero]
      go_wp2_with (go_at_call 126; refine (writeByte_any B b _ _ _ HBR.out HLEN.out (by omega)).mono ?_; rintro e w1 ⟨rfl, hq1, hq2⟩)
      have hp := PutRel.step (W := W) HR.out hbw (by simpa using hq1) hq2
      go_roundw
      case rel => exact ⟨1, by omega, by simp [tenp], hp⟩
      case measure => simp [intOf]
    · simp only [tenp, Int.reducePow, Int.pow_zero]
      go_wp2_with (go_at_call 126; refine (writeByte_any B b _ _ _ HBR.out HLEN.out (by omega)).mono ?_; rintro e w1 ⟨rfl, hq1, hq2⟩)
      have hp := PutRel.step (W := W) HR.out hbw (by simpa using hq1) hq2
      go_roundw
      case rel => exact ⟨2, by omega, by simp [tenp], hp⟩
      case measure => simp [intOf]
    · simp only [tenp, Int.reducePow, Int.pow_zero]
      go_wp2_with (go_at_call 126; refine (writeByte_any B b _ _ _ HBR.out HLEN.out (by omega)).mono ?_; rintro e w1 ⟨rfl, hq1, hq2⟩)
      have hp := PutRel.step (W := W) HR.out hbw (by simpa using hq1) hq2
      go_roundw
      case rel => exact ⟨3, by omega, by simp [tenp], hp⟩
      case measure => simp [intOf]

/-- The text of a day. -/
def dayText (y m d : Int) : List UInt8 := digs y 4 ++ [45] ++ digs m 2 ++ [45] ++ digs d 2

theorem print_no (n : Int) (h : n < 0 ∨ 2932896 < n) (w : World) :
    Calls Tryd.prog 102 #[.int .i64 n] w fun e w' => e = .returned (.string ⟨#[]⟩) ∧ w = w' := by
  go_enter Tryd.func102, Tryd.ntmps102
  go_wp2_with (go_at_call 124; refine (civil_no n h _).mono ?_; rintro e w' ⟨rfl, rfl⟩)
  go_ret
  exact ⟨rfl, rfl⟩

theorem isB_snoc {T e : TypeId} {B b : Nat} {l : List UInt8} {w : World} (h : Lib.BuilderAt T e B b (.pointer (some ⟨b, 0, none⟩)) (Lib.byteCells l ++ [.int .u8 45]) w) : Lib.IsBuilder T e B b (Lib.byteCells (l ++ [45])) w := by
  have e' : Lib.byteCells (l ++ [45]) = Lib.byteCells l ++ [.int .u8 45] := by simp [Lib.byteCells]
  rw [e']
  exact .inr h

theorem fresh_builder (w : World) : Lib.IsBuilder 79 5 w.heap.size w.heap.size (Lib.byteCells []) (w.alloc (.cells #[.pointer none, .slice none 0 0] 79)) :=
  .inl ⟨Nat.le_refl _, .slice none 0 0, heap_alloc_new w _, ⟨by simp [Lib.byteCells], .inl ⟨rfl, rfl⟩⟩, by simp [Value.ownBlock]⟩

set_option maxHeartbeats 1000000 in
theorem print_yes (n y m d : Int) (hi : Cal.Is n y m d) (w : World) :
    Calls Tryd.prog 102 #[.int .i64 n] w fun e w' => e = .returned (.string ⟨(dayText y m d).toArray⟩) ∧ Below w.heap.size w w' := by
  have HI := Lib.hid hi
  have hd31 := Cal.dim_hi y m
  obtain ⟨y1, y2, m1, m2, d1, d2, _⟩ := hi
  have hB0 : Below w.heap.size w (w.alloc (.cells #[.pointer none, .slice none 0 0] 79)) := (Below.refl _ _).alloc (Nat.le_refl _) _
  have hb0 := Lib.hid (fresh_builder w)
  go_enter Tryd.func102, Tryd.ntmps102
  go_wp2_with (go_at_call 124; refine (civil_is n y m d HI.out _).mono ?_; rintro e w' ⟨rfl, rfl⟩)
  refine (put_any y (by omega) (by omega) 4 (by omega) w.heap.size w.heap.size [] (by simp) _ hb0.out hB0.size).mono ?_
  rintro e w1 ⟨rfl, hb1, hB1⟩
  have HB1 := Lib.hid hb1
  clear hb1
  have s1 := hB1.size
  simp only [List.nil_append] at HB1
  have t1 : w.heap.size ≤ w1.heap.size := by simp at s1; omega
  clear s1
  go_wp2_with (go_at_call 126; refine (writeByte_any w.heap.size w.heap.size _ _ _ HB1.out (by rw [Lib.byteCells_length, digs_length]; omega) t1).mono ?_; rintro e w2 ⟨rfl, hb2, hB2⟩)
  have t2 : w.heap.size ≤ w2.heap.size := Nat.le_trans t1 hB2.size
  have HB2 := Lib.hid (isB_snoc hb2)
  clear hb2 HB1
  refine (put_any m (by omega) (by omega) 2 (by omega) w.heap.size w.heap.size _ (by simp [digs_length]) _ HB2.out t2).mono ?_
  rintro e w3 ⟨rfl, hb3, hB3⟩
  have t3 : w.heap.size ≤ w3.heap.size := Nat.le_trans t2 hB3.size
  have HB3 := Lib.hid hb3
  clear hb3 HB2
  go_wp2_with (go_at_call 126; refine (writeByte_any w.heap.size w.heap.size _ _ _ HB3.out (by rw [Lib.byteCells_length]; simp [digs_length]) t3).mono ?_; rintro e w4 ⟨rfl, hb4, hB4⟩)
  have t4 : w.heap.size ≤ w4.heap.size := Nat.le_trans t3 hB4.size
  have HB4 := Lib.hid (isB_snoc hb4)
  clear hb4 HB3
  refine (put_any d (by omega) (by omega) 2 (by omega) w.heap.size w.heap.size _ (by simp [digs_length]) _ HB4.out t4).mono ?_
  rintro e w5 ⟨rfl, hb5, hB5⟩
  have t5 : w.heap.size ≤ w5.heap.size := Nat.le_trans t4 hB5.size
  have HB5 := Lib.hid hb5
  clear hb5 HB4
  go_wp2_with (go_at_call 37; refine (Tryd.Builder_String_any w.heap.size w.heap.size _ _ HB5.out t5).mono ?_; rintro e w6 ⟨rfl, hB6⟩)
  go_ret
  exact ⟨rfl, ((((((hB0.trans hB1).trans hB2).trans hB3).trans hB4).trans hB5).trans hB6)⟩
end Go.Proofs.YtdkjjpfidkaagaaDoor
namespace Go.Proofs.YtdkjjpfidkaagaaDoor
open Go.RowKit
set_option linter.unusedSimpArgs false

theorem rleap_any (y : Int) (w : World) :
    Calls Tryd.prog 105 #[.int .i64 y] w fun e w' => e = .returned (.bool (lpB y)) ∧ w = w' := by
  by_cases h4 : y % 400 = 0
  · have e1 : lpB y = true := (lpB_iff y).2 (by omega)
    have t1 : (y.tmod 400 == 0) = true := by simp [tmod0, h4]
    have E1 := Lib.hid e1
    clear e1 h4
    go_enter Tryd.func105, Tryd.ntmps105
    go_wp2
    go_ret
    exact ⟨ret_bool E1.out.symm, rfl⟩
  · have t1 : (y.tmod 400 == 0) = false := by simp [tmod0, h4]
    by_cases h1 : y % 4 = 0
    · have t2 : (y.tmod 4 == 0) = true := by simp [tmod0, h1]
      by_cases h2 : y % 100 = 0
      · have t3 : (y.tmod 100 != 0) = false := by simp [tmod0, h2]
        have E1 := Lib.hid (lpB_no y (by omega))
        clear h4 h1 h2
        go_enter Tryd.func105, Tryd.ntmps105
        go_wp2
        go_ret
        exact ⟨ret_bool E1.out.symm, rfl⟩
      · have t3 : (y.tmod 100 != 0) = true := by simp [tmod0, h2]
        have E1 := Lib.hid ((lpB_iff y).2 (by omega))
        clear h4 h1 h2
        go_enter Tryd.func105, Tryd.ntmps105
        go_wp2
        go_ret
        exact ⟨ret_bool E1.out.symm, rfl⟩
    · have t2 : (y.tmod 4 == 0) = false := by simp [tmod0, h1]
      have E1 := Lib.hid (lpB_no y (by omega))
      clear h4 h1
      go_enter Tryd.func105, Tryd.ntmps105
      go_wp2
      go_ret
      exact ⟨ret_bool E1.out.symm, rfl⟩

theorem rdays_out (y m : Int) (h : m < 1 ∨ 12 < m) (w : World) :
    Calls Tryd.prog 106 #[.int .i64 y, .int .i64 m] w fun e w' => e = .returned (.int .i64 (Cal.dim y m)) ∧ Below w.heap.size w w' := by
  have E1 := Lib.hid (Cal.dim_out y m h)
  by_cases h1 : m < 1
  · clear h
    go_enter Tryd.func106, Tryd.ntmps106
    go_wp2_with fail
    go_ret
    exact ⟨ret_int E1.out.symm, Below.refl _ _⟩
  · have h2 : 12 < m := by omega
    clear h
    go_enter Tryd.func106, Tryd.ntmps106
    go_wp2_with fail
    go_ret
    exact ⟨ret_int E1.out.symm, Below.refl _ _⟩

set_option maxHeartbeats 2000000 in
theorem rdays_in (y m : Int) (h1 : 1 ≤ m) (h2 : m ≤ 12) (w : World) :
    Calls Tryd.prog 106 #[.int .i64 y, .int .i64 m] w fun e w' => e = .returned (.int .i64 (Cal.dim y m)) ∧ Below w.heap.size w w' := by
  by_cases h : m = 2
  · subst h
    by_cases hl : lpB y = true
    · have E1 := Lib.hid (show Cal.dim y 2 = 29 by simp [Cal.dim, lp_true hl])
      go_enter Tryd.func106, Tryd.ntmps106
      go_wp2_with (go_at_call 105; refine (rleap_any _ _).mono ?_; rintro e w' ⟨rfl, rfl⟩)
      go_ret
      exact ⟨ret_int E1.out.symm, (Below.refl _ _).alloc (Nat.le_refl _) _⟩
    · have hl : lpB y = false := by simpa using hl
      have E1 := Lib.hid (show Cal.dim y 2 = 28 by simp [Cal.dim, lp_false hl])
      go_enter Tryd.func106, Tryd.ntmps106
      go_wp2_with (go_at_call 105; refine (rleap_any _ _).mono ?_; rintro e w' ⟨rfl, rfl⟩)
      go_ret
      exact ⟨ret_int E1.out.symm, (Below.refl _ _).alloc (Nat.le_refl _) _⟩
  · have : m = 1 ∨ m = 3 ∨ m = 4 ∨ m = 5 ∨ m = 6 ∨ m = 7 ∨ m = 8 ∨ m = 9 ∨ m = 10 ∨ m = 11 ∨ m = 12 := by omega
    clear h1 h2 h
    rcases this with rfl | rfl | rfl | rfl | rfl | rfl | rfl | rfl | rfl | rfl | rfl
    all_goals
      go_enter Tryd.func106, Tryd.ntmps106
      go_wp2_with fail
      go_ret
      exact ⟨ret_int (by simp [Cal.dim]), (Below.refl _ _).alloc (Nat.le_refl _) _⟩

theorem rdays_any (y m : Int) (w : World) :
    Calls Tryd.prog 106 #[.int .i64 y, .int .i64 m] w fun e w' => e = .returned (.int .i64 (Cal.dim y m)) ∧ Below w.heap.size w w' := by
  by_cases h : m < 1 ∨ 12 < m
  · exact rdays_out y m h w
  · exact rdays_in y m (by omega) (by omega) w

theorem rcivil_no (n : Int) (h : n < 0 ∨ 2932896 < n) (w : World) :
    Calls Tryd.prog 81 #[.int .i64 n] w fun e w' => e = .returned (.tuple #[.int .i64 0, .int .i64 0, .int .i64 0]) ∧ w = w' := by
  by_cases h1 : n < 0
  · clear h
    go_enter Tryd.func81, Tryd.ntmps81
    go_wp2_with fail
    go_ret3
    exact ⟨rfl, rfl⟩
  · have h2 : 2932896 < n := by omega
    clear h
    go_enter Tryd.func81, Tryd.ntmps81
    go_wp2_with fail
    go_ret3
    exact ⟨rfl, rfl⟩

set_option maxHeartbeats 2000000 in
theorem rcivil_yes (n : Int) (h1 : 0 ≤ n) (h2 : n ≤ 2932896) (w : World) :
    Calls Tryd.prog 81 #[.int .i64 n] w fun e w' => ∃ y m d : Int, Cal.Is n y m d ∧ e = .returned (.tuple #[.int .i64 y, .int .i64 m, .int .i64 d]) ∧ Below w.heap.size w w' := by
  obtain ⟨B, hB0⟩ : ∃ B, B = w.heap.size := ⟨_, rfl⟩
  have hst : B ≤ w.heap.size := by omega
  rw [← hB0]
  clear hB0
  have d1970 := Cal.dby_1970
  have h0 : n - Cal.dby 1970 = n := by omega
  have H0 := Lib.hid h0
  clear h0 d1970
  have hr := Below.refl B w
  go_enter Tryd.func81, Tryd.ntmps81
  go_wp2_with fail
  go_loop [0, 5] (fun t u => ∃ x : Int, 1970 ≤ x ∧ x ≤ 9999 ∧ Cal.dby x ≤ n ∧ u = .int .i64 x ∧ t = .int .i64 (n - Cal.dby x)) (fun _ u => (9999 - intOf u).toNat)
  case atStart => exact ⟨1970, by omega, by omega, by have := H0.out; omega, rfl, by rw [H0.out]⟩
  case round =>
    obtain ⟨x, x1, x2, x3, rfl, rfl⟩ := hrel
    have d0 : -719162 ≤ Cal.dby x := by unfold Cal.dby; omega
    have d1 : Cal.dby x ≤ 370000000 := by unfold Cal.dby; omega
    have hup : Cal.dby (x + 1) ≤ n → x < 9999 := fun h => by
      rcases Int.lt_or_le x 9999 with h' | h'
      · exact h'
      · have := Cal.dby_mono 10000 (x + 1) (by omega)
        rw [Cal.dby_10000] at this
        omega
    have HUP := Lib.hid hup
    clear hup
    by_cases hl : lpB x = true
    · have hs : Cal.dby (x + 1) = Cal.dby x + 365 + 1 := by rw [Cal.dby_succ, lp_true hl]
      have HS := Lib.hid hs
      by_cases hc : 366 ≤ n - Cal.dby x
      · have hx9 : x < 9999 := HUP.out (by omega)
        clear hs
        go_wp2_with (go_at_call 105; refine (rleap_any _ _).mono ?_; rintro e w' ⟨rfl, rfl⟩)
        go_round
        case rel => exact ⟨x + 1, by omega, by omega, by rw [HS.out]; omega, rfl, by rw [HS.out]; go_num⟩
        case measure => simp [intOf]; omega
      · have hlast : n < Cal.dby (x + 1) := by omega
        have HL := Lib.hid hlast
        clear hs hlast
        by_cases hc2 : 365 ≤ n - Cal.dby x
        all_goals
          go_wp2_with (go_at_call 105; refine (rleap_any _ _).mono ?_; rintro e w' ⟨rfl, rfl⟩)
          go_loopw [0, 6] (fun t k wr => ∃ m : Int, 1 ≤ m ∧ m ≤ 12 ∧ k = .int .i64 m ∧ 0 ≤ n - Cal.dby x - Cal.cum x m ∧ t = .int .i64 (n - Cal.dby x - Cal.cum x m) ∧ Below B w wr) (fun _ k _ => (12 - intOf k).toNat)
          case atStart => exact ⟨1, by omega, by omega, rfl, by rw [Cal.cum_one]; omega, by rw [Cal.cum_one]; simp, hr⟩
          case round =>
            obtain ⟨m, m1, m2, rfl, hrest, rfl, hBr⟩ := hrel
            have HBr := Lib.hid hBr
            clear hBr
            have c1 := Cal.cum_lo x m
            have c2 := Cal.cum_hi x m
            have c3 := Cal.lp_01 x
            have c4 := Cal.dim_lo x m
            have c5 := Cal.dim_hi x m
            have CS := Lib.hid (Cal.cum_succ x m m1 m2)
            by_cases hd : Cal.dim x m ≤ n - Cal.dby x - Cal.cum x m
            · have hm : m < 12 := by
                rcases Int.lt_or_le m 12 with h | h
                · exact h
                · obtain rfl : m = 12 := by omega
                  have h13 := Cal.cum_13 x
                  have h1 : Cal.cum x 13 = _ := CS.out
                  have h2 := Cal.dby_succ x
                  have h3 := HL.out
                  omega
              go_wp2_with fail
              refine (rdays_any _ _ _).mono ?_
              rintro e w3 ⟨rfl, hB3⟩
              have HB3 := Lib.hid (below_mono HBr.out hB3 hst)
              clear hB3
              go_wp2_with fail
              refine (rdays_any _ _ _).mono ?_
              rintro e w4 ⟨rfl, hB4⟩
              have hBB := below_mono HB3.out hB4 hst
              clear hB4
              go_wp2_with fail
              go_roundw
              case rel => exact ⟨m + 1, by omega, by omega, rfl, by rw [CS.out]; omega, by rw [CS.out]; go_num, hBB⟩
              case measure => simp [intOf]; omega
            · go_wp2_with fail
              refine (rdays_any _ _ _).mono ?_
              rintro e w3 ⟨rfl, hB3⟩
              have HB3 := Lib.hid (below_mono HBr.out hB3 hst)
              clear hB3
              go_wp2_with fail
              go_ret3
              exact ⟨x, m, n - Cal.dby x - Cal.cum x m + 1, ⟨x1, x2, m1, m2, by omega, by omega, by omega⟩, rfl, HB3.out⟩
    · have hl : lpB x = false := by simpa using hl
      have hs : Cal.dby (x + 1) = Cal.dby x + 365 := by rw [Cal.dby_succ, lp_false hl]; omega
      have HS := Lib.hid hs
      by_cases hc : 365 ≤ n - Cal.dby x
      · have hx9 : x < 9999 := HUP.out (by omega)
        clear hs
        by_cases hc3 : 366 ≤ n - Cal.dby x
        all_goals
          go_wp2_with (go_at_call 105; refine (rleap_any _ _).mono ?_; rintro e w' ⟨rfl, rfl⟩)
          go_round
          case rel => exact ⟨x + 1, by omega, by omega, by rw [HS.out]; omega, rfl, by rw [HS.out]; go_num⟩
          case measure => simp [intOf]; omega
      · have hlast : n < Cal.dby (x + 1) := by omega
        have HL := Lib.hid hlast
        clear hs hlast
        all_goals
          go_wp2_with (go_at_call 105; refine (rleap_any _ _).mono ?_; rintro e w' ⟨rfl, rfl⟩)
          go_loopw [0, 6] (fun t k wr => ∃ m : Int, 1 ≤ m ∧ m ≤ 12 ∧ k = .int .i64 m ∧ 0 ≤ n - Cal.dby x - Cal.cum x m ∧ t = .int .i64 (n - Cal.dby x - Cal.cum x m) ∧ Below B w wr) (fun _ k _ => (12 - intOf k).toNat)
          case atStart => exact ⟨1, by omega, by omega, rfl, by rw [Cal.cum_one]; omega, by rw [Cal.cum_one]; simp, hr⟩
          case round =>
            obtain ⟨m, m1, m2, rfl, hrest, rfl, hBr⟩ := hrel
            have HBr := Lib.hid hBr
            clear hBr
            have c1 := Cal.cum_lo x m
            have c2 := Cal.cum_hi x m
            have c3 := Cal.lp_01 x
            have c4 := Cal.dim_lo x m
            have c5 := Cal.dim_hi x m
            have CS := Lib.hid (Cal.cum_succ x m m1 m2)
            by_cases hd : Cal.dim x m ≤ n - Cal.dby x - Cal.cum x m
            · have hm : m < 12 := by
                rcases Int.lt_or_le m 12 with h | h
                · exact h
                · obtain rfl : m = 12 := by omega
                  have h13 := Cal.cum_13 x
                  have h1 : Cal.cum x 13 = _ := CS.out
                  have h2 := Cal.dby_succ x
                  have h3 := HL.out
                  omega
              go_wp2_with fail
              refine (rdays_any _ _ _).mono ?_
              rintro e w3 ⟨rfl, hB3⟩
              have HB3 := Lib.hid (below_mono HBr.out hB3 hst)
              clear hB3
              go_wp2_with fail
              refine (rdays_any _ _ _).mono ?_
              rintro e w4 ⟨rfl, hB4⟩
              have hBB := below_mono HB3.out hB4 hst
              clear hB4
              go_wp2_with fail
              go_roundw
              case rel => exact ⟨m + 1, by omega, by omega, rfl, by rw [CS.out]; omega, by rw [CS.out]; go_num, hBB⟩
              case measure => simp [intOf]; omega
            · go_wp2_with fail
              refine (rdays_any _ _ _).mono ?_
              rintro e w3 ⟨rfl, hB3⟩
              have HB3 := Lib.hid (below_mono HBr.out hB3 hst)
              clear hB3
              go_wp2_with fail
              go_ret3
              exact ⟨x, m, n - Cal.dby x - Cal.cum x m + 1, ⟨x1, x2, m1, m2, by omega, by omega, by omega⟩, rfl, HB3.out⟩

theorem rcivil_is (n y m d : Int) (h : Cal.Is n y m d) (w : World) :
    Calls Tryd.prog 81 #[.int .i64 n] w fun e w' => e = .returned (.tuple #[.int .i64 y, .int .i64 m, .int .i64 d]) ∧ Below w.heap.size w w' := by
  have hr := h.range
  refine (rcivil_yes n hr.1 hr.2 w).mono ?_
  rintro e w' ⟨y', m', d', h', he, hw⟩
  obtain ⟨rfl, rfl, rfl⟩ := h'.unique h
  exact ⟨he, hw⟩

end Go.Proofs.YtdkjjpfidkaagaaDoor
namespace Go.Proofs.YtdkjjpfidkaagaaDoor
open Go.RowKit
set_option linter.unusedSimpArgs false
set_option linter.unusedVariables false

theorem one_byte (w : World) (c : Int) : (convert 77 9 (.slice (some ⟨w.heap.size, 0, none⟩) 1 1)).run Tryd.prog (w.alloc (.cells #[.int .u8 c] 5)) = .ok (.string (strOfNums [c])) (w.alloc (.cells #[.int .u8 c] 5)) :=
  run_convert_bytes_arg (P := Tryd.prog) _ 77 5 Tryd.underlying77 Tryd.underlying5 w.heap.size 0 1 1 [c] rfl (fun i hi => by
    obtain rfl : i = 0 := by omega
    simp) _ Tryd.underlying9

theorem digs_cons (v : Int) (j : Nat) (q : Int) (hq : v / 10 ^ j = q) (st : ByteArray) (hs : st = ⟨(digs v j).toArray⟩) : strOfNums [48 + q % 10] ++ st = ⟨(digs v (j + 1)).toArray⟩ := by
  subst hs hq
  apply ByteArray.ext
  simp [strOfNums, digs, dgt, ByteArray.append_eq, ByteArray.append]

set_option maxRecDepth 100000 in
set_option maxHeartbeats 1000000 in
theorem rdigits_any (v : Int) (K : Nat) (h0 : 0 ≤ v) (h1 : v ≤ 9999) (hK : K ≤ 4) (w : World) :
    Calls Tryd.prog 82 #[.int .i64 v, .int .i64 K] w fun e w' => e = .returned (.string ⟨(digs v K).toArray⟩) ∧ Below w.heap.size w w' := by
  obtain ⟨B, hB0⟩ : ∃ B, B = w.heap.size := ⟨_, rfl⟩
  have hst : B ≤ w.heap.size := by omega
  rw [← hB0]
  clear hB0
  have hr := Below.refl B w
  have hcv := one_byte
  go_enter Tryd.func82, Tryd.ntmps82
  go_wp2_with fail
  go_loopw [0, 5, 6] (fun a s c wr => ∃ j : Nat, j ≤ K ∧ a = .int .i64 (v / 10 ^ j) ∧ c = .int .i64 j ∧ s = .string ⟨(digs v j).toArray⟩ ∧ Below B w wr) (fun _ _ c _ => K - (intOf c).toNat)
  case atStart => exact ⟨0, by omega, by simp, rfl, rfl, hr⟩
  case round =>
    obtain ⟨j, hj, ha, rfl, hs, hBr⟩ := hrel
    obtain ⟨q, hq⟩ : ∃ q : Int, v / 10 ^ j = q := ⟨_, rfl⟩
    obtain ⟨st, hs'⟩ : ∃ st : ByteArray, st = ⟨(digs v j).toArray⟩ := ⟨_, rfl⟩
    rw [hq] at ha
    rw [← hs'] at hs
    subst ha
    subst hs
    have hsz : st.size ≤ 4 := by rw [hs']; show (digs v j).toArray.size ≤ 4; simp [digs_length]; omega
    have q0 : 0 ≤ q := by rw [← hq]; exact Int.ediv_nonneg h0 (Int.pow_nonneg (by omega))
    have q1 : q ≤ 9999 := by
      rw [← hq]
      exact Int.le_trans (Int.ediv_le_self _ h0) h1
    have HQ := Lib.hid hq
    have HS := Lib.hid hs'
    clear hq hs'
    have HBr := Lib.hid hBr
    clear hBr
    by_cases hlt : j < K
    · have hz1 : (strOfNums [48 + q % 10]).size ≤ 1 := by rw [strOfNums_size]; simp
      go_wp2_with fail
      go_roundw
      case rel => exact ⟨j + 1, by omega, by rw [Int.pow_succ, ← Int.ediv_ediv_of_nonneg (Int.pow_nonneg (by omega)), HQ.out], by go_num, by rw [digs_cons v j q HQ.out st HS.out], HBr.out.alloc (Nat.le_trans hst HBr.out.size) _⟩
      case measure => simp [intOf]; omega
    · obtain rfl : j = K := by omega
      go_wp2_with fail
      go_ret
      exact ⟨by rw [HS.out]; rfl, HBr.out⟩

theorem rdig4 (v : Int) (h0 : 0 ≤ v) (h1 : v ≤ 9999) (w : World) :
    Calls Tryd.prog 82 #[.int .i64 v, .int .i64 4] w fun e w' => e = .returned (.string ⟨(digs v 4).toArray⟩) ∧ Below w.heap.size w w' := rdigits_any v 4 h0 h1 (by omega) w
theorem rdig2 (v : Int) (h0 : 0 ≤ v) (h1 : v ≤ 9999) (w : World) :
    Calls Tryd.prog 82 #[.int .i64 v, .int .i64 2] w fun e w' => e = .returned (.string ⟨(digs v 2).toArray⟩) ∧ Below w.heap.size w w' := rdigits_any v 2 h0 h1 (by omega) w

theorem rprint_no (n : Int) (h : n < 0 ∨ 2932896 < n) (w : World) :
    Calls Tryd.prog 41 #[.int .i64 n] w fun e w' => e = .returned (.string ⟨#[]⟩) ∧ w = w' := by
  go_enter Tryd.func41, Tryd.ntmps41
  go_wp2_with (go_at_call 81; refine (rcivil_no n h _).mono ?_; rintro e w' ⟨rfl, rfl⟩)
  go_ret
  exact ⟨rfl, rfl⟩

theorem str_size (l : List UInt8) : (⟨l.toArray⟩ : ByteArray).size = l.length := by simp [ByteArray.size]

set_option maxRecDepth 100000 in
set_option maxHeartbeats 1000000 in
theorem rprint_yes (n y m d : Int) (hi : Cal.Is n y m d) (w : World) :
    Calls Tryd.prog 41 #[.int .i64 n] w fun e w' => e = .returned (.string ⟨(dayText y m d).toArray⟩) ∧ Below w.heap.size w w' := by
  have hd31 := Cal.dim_hi y m
  have hi' := hi
  obtain ⟨y1, y2, m1, m2, d1, d2, _⟩ := hi'
  have HI := Lib.hid hi
  have hy0 : (y == 0) = false := by simp; omega
  clear hi
  obtain ⟨sy, hsy⟩ : ∃ s : ByteArray, s = ⟨(digs y 4).toArray⟩ := ⟨_, rfl⟩
  obtain ⟨sm, hsm⟩ : ∃ s : ByteArray, s = ⟨(digs m 2).toArray⟩ := ⟨_, rfl⟩
  obtain ⟨sd, hsd⟩ : ∃ s : ByteArray, s = ⟨(digs d 2).toArray⟩ := ⟨_, rfl⟩
  have zy : sy.size ≤ 4 := by rw [hsy, str_size, digs_length]; omega
  have zm : sm.size ≤ 4 := by rw [hsm, str_size, digs_length]; omega
  have zd : sd.size ≤ 4 := by rw [hsd, str_size, digs_length]; omega
  have HSY := Lib.hid hsy
  have HSM := Lib.hid hsm
  have HSD := Lib.hid hsd
  clear hsy hsm hsd
  go_enter Tryd.func41, Tryd.ntmps41
  go_wp2_with fail
  refine (rcivil_is n y m d HI.out _).mono ?_
  rintro e w1 ⟨rfl, hB1⟩
  go_wp2_with fail
  refine (rdig4 y (by omega) (by omega) _).mono ?_
  rw [← HSY.out]
  rintro e w2 ⟨rfl, hB2⟩
  have hC2 := below_mono hB1 hB2 (Nat.le_refl _)
  clear hB1 hB2
  go_wp2_with fail
  refine (rdig2 m (by omega) (by omega) _).mono ?_
  rw [← HSM.out]
  rintro e w3 ⟨rfl, hB3⟩
  have hC3 := below_mono hC2 hB3 (Nat.le_refl _)
  clear hC2 hB3
  go_wp2_with fail
  refine (rdig2 d (by omega) (by omega) _).mono ?_
  rw [← HSD.out]
  rintro e w4 ⟨rfl, hB4⟩
  have hC4 := below_mono hC3 hB4 (Nat.le_refl _)
  clear hC3 hB4
  go_wp2_with fail
  go_ret
  refine ⟨?_, hC4⟩
  have e : sy ++ ⟨#[45]⟩ ++ sm ++ ⟨#[45]⟩ ++ sd = (⟨(dayText y m d).toArray⟩ : ByteArray) := by
    rw [HSY.out, HSM.out, HSD.out]
    apply ByteArray.ext
    simp [dayText, ByteArray.append_eq, ByteArray.append]
  rw [← e]
  rfl
end Go.Proofs.YtdkjjpfidkaagaaDoor
