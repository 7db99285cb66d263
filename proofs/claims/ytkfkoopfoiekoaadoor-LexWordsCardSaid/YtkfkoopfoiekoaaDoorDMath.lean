/- The calendar as plain mathematics: days before a year, days before a month, which year, month and day a day number has, and that this is unique. No Go text here. No conditions beyond those written at each theorem. -/
import Init.Data.Int
import Init.Omega
namespace Go.Proofs.YtkfkoopfoiekoaaDoor
namespace Cal

def lp (y : Int) : Int := if y % 4 = 0 ∧ (y % 100 ≠ 0 ∨ y % 400 = 0) then 1 else 0
def dby (y : Int) : Int := 365 * (y - 1) + (y - 1) / 4 - (y - 1) / 100 + (y - 1) / 400 - 719162
def dim (y m : Int) : Int := if m = 2 then 28 + lp y else if m = 4 ∨ m = 6 ∨ m = 9 ∨ m = 11 then 30 else if 1 ≤ m ∧ m ≤ 12 then 31 else 0
def cum (y m : Int) : Int :=
  if m ≤ 1 then 0 else if m = 2 then 31 else if m = 3 then 59 + lp y else if m = 4 then 90 + lp y else if m = 5 then 120 + lp y else if m = 6 then 151 + lp y
  else if m = 7 then 181 + lp y else if m = 8 then 212 + lp y else if m = 9 then 243 + lp y else if m = 10 then 273 + lp y else if m = 11 then 304 + lp y
  else if m = 12 then 334 + lp y else 365 + lp y

theorem lp_01 (y : Int) : 0 ≤ lp y ∧ lp y ≤ 1 := by unfold lp; split <;> omega
theorem dby_succ (y : Int) : dby (y + 1) = dby y + 365 + lp y := by unfold dby lp; split <;> omega
theorem dby_1970 : dby 1970 = 0 := by decide
theorem dby_10000 : dby 10000 = 2932897 := by decide
theorem dby_mono (a b : Int) (h : a ≤ b) : dby a ≤ dby b := by unfold dby; omega
theorem dby_lt (a b : Int) (h : a < b) : dby a + 365 ≤ dby b := by
  have h1 := dby_succ a
  have h2 := dby_mono (a + 1) b (by omega)
  have h3 := lp_01 a
  omega
theorem dim_lo (y m : Int) : 0 ≤ dim y m := by have := lp_01 y; unfold dim; split <;> (try split) <;> (try split) <;> omega
theorem dim_hi (y m : Int) : dim y m ≤ 31 := by have := lp_01 y; unfold dim; split <;> (try split) <;> (try split) <;> omega
theorem dim_28 (y m : Int) (h1 : 1 ≤ m) (h2 : m ≤ 12) : 28 ≤ dim y m := by have := lp_01 y; unfold dim; split <;> (try split) <;> (try split) <;> omega
theorem dim_out (y m : Int) (h : m < 1 ∨ 12 < m) : dim y m = 0 := by unfold dim; rw [if_neg (by omega), if_neg (by omega), if_neg (by omega)]
theorem months {P : Int → Prop} (m : Int) (h1 : 1 ≤ m) (h2 : m ≤ 12) (p1 : P 1) (p2 : P 2) (p3 : P 3) (p4 : P 4) (p5 : P 5) (p6 : P 6) (p7 : P 7) (p8 : P 8) (p9 : P 9) (p10 : P 10) (p11 : P 11) (p12 : P 12) : P m := by
  have : m = 1 ∨ m = 2 ∨ m = 3 ∨ m = 4 ∨ m = 5 ∨ m = 6 ∨ m = 7 ∨ m = 8 ∨ m = 9 ∨ m = 10 ∨ m = 11 ∨ m = 12 := by omega
  rcases this with rfl | rfl | rfl | rfl | rfl | rfl | rfl | rfl | rfl | rfl | rfl | rfl <;> assumption
theorem cum_one (y : Int) : cum y 1 = 0 := by unfold cum; rw [if_pos (by omega)]
theorem cum_13 (y : Int) : cum y 13 = 365 + lp y := by simp [cum]
theorem cum_succ (y m : Int) (h1 : 1 ≤ m) (h2 : m ≤ 12) : cum y (m + 1) = cum y m + dim y m := by
  have := lp_01 y
  refine months (P := fun m => cum y (m + 1) = cum y m + dim y m) m h1 h2 ?_ ?_ ?_ ?_ ?_ ?_ ?_ ?_ ?_ ?_ ?_ ?_ <;> simp [cum, dim] <;> omega
theorem cum_13up (y m : Int) (h : 13 ≤ m) : cum y m = 365 + lp y := by
  unfold cum
  rw [if_neg (by omega), if_neg (by omega), if_neg (by omega), if_neg (by omega), if_neg (by omega), if_neg (by omega), if_neg (by omega), if_neg (by omega), if_neg (by omega), if_neg (by omega), if_neg (by omega), if_neg (by omega)]
theorem cum_bd (y m : Int) : 0 ≤ cum y m ∧ cum y m ≤ 365 + lp y := by
  have := lp_01 y
  by_cases a : m ≤ 1
  · unfold cum; rw [if_pos a]; omega
  · by_cases b : 13 ≤ m
    · rw [cum_13up y m b]; omega
    · refine months (P := fun m => 0 ≤ cum y m ∧ cum y m ≤ 365 + lp y) m (by omega) (by omega) ?_ ?_ ?_ ?_ ?_ ?_ ?_ ?_ ?_ ?_ ?_ ?_ <;> simp [cum] <;> omega
theorem cum_lo (y m : Int) : 0 ≤ cum y m := (cum_bd y m).1
theorem cum_hi (y m : Int) : cum y m ≤ 365 + lp y := (cum_bd y m).2
theorem cum_mono_nat (y m : Int) (h1 : 1 ≤ m) (k : Nat) : m + k ≤ 13 → cum y m ≤ cum y (m + k) := by
  induction k with
  | zero => intro _; simp
  | succ k ih =>
    intro h
    have e := cum_succ y (m + k) (by omega) (by omega)
    have d := dim_lo y (m + k)
    have i := ih (by omega)
    have : m + ((k + 1 : Nat) : Int) = m + k + 1 := by omega
    rw [this]
    omega
theorem cum_mono (y m m' : Int) (h1 : 1 ≤ m) (h2 : m ≤ m') (h3 : m' ≤ 13) : cum y m ≤ cum y m' := by
  have := cum_mono_nat y m h1 (m' - m).toNat (by omega)
  have e : m + ((m' - m).toNat : Int) = m' := by omega
  rwa [e] at this

/-- Day n is the d-th of month m of year y. -/
def Is (n y m d : Int) : Prop := 1970 ≤ y ∧ y ≤ 9999 ∧ 1 ≤ m ∧ m ≤ 12 ∧ 1 ≤ d ∧ d ≤ dim y m ∧ dby y + cum y m + d - 1 = n
theorem Is.range {n y m d : Int} (h : Is n y m d) : 0 ≤ n ∧ n ≤ 2932896 := by
  obtain ⟨a, b, c, e, f, g, rfl⟩ := h
  have h1 := dby_mono 1970 y a
  have h2 := dby_mono (y + 1) 10000 (by omega)
  have h3 := dby_succ y
  have h4 := cum_lo y m
  have h5 := cum_succ y m c e
  have h6 := cum_hi y (m + 1)
  rw [dby_1970] at h1
  rw [dby_10000] at h2
  omega
theorem Is.year {n y m d : Int} (h : Is n y m d) : dby y ≤ n ∧ n < dby (y + 1) := by
  obtain ⟨a, b, c, e, f, g, rfl⟩ := h
  have h3 := dby_succ y
  have h4 := cum_lo y m
  have h5 := cum_succ y m c e
  have h6 := cum_hi y (m + 1)
  omega
theorem year_unique {n y z : Int} (h1 : dby y ≤ n) (h2 : n < dby (y + 1)) (k1 : dby z ≤ n) (k2 : n < dby (z + 1)) : y = z := by
  rcases Int.lt_trichotomy y z with h | h | h
  · have := dby_mono (y + 1) z (by omega); omega
  · exact h
  · have := dby_mono (z + 1) y (by omega); omega
theorem month_unique {r y m k : Int} (a1 : 1 ≤ m) (a2 : m ≤ 12) (b1 : 1 ≤ k) (b2 : k ≤ 12) (h1 : cum y m ≤ r) (h2 : r < cum y (m + 1)) (k1 : cum y k ≤ r) (k2 : r < cum y (k + 1)) : m = k := by
  rcases Int.lt_trichotomy m k with h | h | h
  · have := cum_mono y (m + 1) k (by omega) (by omega) (by omega); omega
  · exact h
  · have := cum_mono y (k + 1) m (by omega) (by omega) (by omega); omega
theorem Is.unique {n y m d z k e : Int} (h : Is n y m d) (h' : Is n z k e) : y = z ∧ m = k ∧ d = e := by
  obtain ⟨p1, p2⟩ := h.year
  obtain ⟨q1, q2⟩ := h'.year
  obtain rfl := year_unique p1 p2 q1 q2
  obtain ⟨a, b, c, e1, f, g, hn⟩ := h
  obtain ⟨a', b', c', e1', f', g', hn'⟩ := h'
  have s1 := cum_succ y m c e1
  have s2 := cum_succ y k c' e1'
  obtain rfl := month_unique (r := n - dby y) (y := y) c e1 c' e1' (by omega) (by omega) (by omega) (by omega)
  exact ⟨rfl, rfl, by omega⟩
def dayNum (y m d : Int) : Int := dby y + cum y m + d - 1
theorem is_dayNum {y m d : Int} (a : 1970 ≤ y) (b : y ≤ 9999) (c : 1 ≤ m) (e : m ≤ 12) (f : 1 ≤ d) (g : d ≤ dim y m) : Is (dayNum y m d) y m d := ⟨a, b, c, e, f, g, rfl⟩
theorem Is.num {n y m d : Int} (h : Is n y m d) : n = dayNum y m d := h.2.2.2.2.2.2.symm
theorem Is.next {n y m d : Int} (h : Is n y m d) (hn : n < 2932896) : ∃ y' m' d', Is (n + 1) y' m' d' := by
  obtain ⟨a, b, c, e, f, g, rfl⟩ := h
  have cs := cum_succ y m c e
  by_cases h1 : d < dim y m
  · exact ⟨y, m, d + 1, a, b, c, e, by omega, by omega, by omega⟩
  · by_cases h2 : m < 12
    · refine ⟨y, m + 1, 1, a, b, by omega, by omega, by omega, ?_, by omega⟩
      have := dim_28 y (m + 1) (by omega) (by omega)
      omega
    · obtain rfl : m = 12 := by omega
      have c13 := cum_13 y
      have cs : cum y 13 = cum y 12 + dim y 12 := cs
      have ds := dby_succ y
      have c1 := cum_one (y + 1)
      have hy : y < 9999 := by
        rcases Int.lt_or_le y 9999 with h | h
        · exact h
        · obtain rfl : y = 9999 := by omega
          have := dby_10000
          have ds : dby 10000 = dby 9999 + 365 + lp 9999 := ds
          omega
      refine ⟨y + 1, 1, 1, by omega, by omega, by omega, by omega, by omega, ?_, by omega⟩
      have := dim_28 (y + 1) 1 (by omega) (by omega)
      omega
theorem Is.exists_nat (k : Nat) : k ≤ 2932896 → ∃ y m d, Is k y m d := by
  induction k with
  | zero => intro _; exact ⟨1970, 1, 1, by unfold Is; decide⟩
  | succ k ih =>
    intro h
    obtain ⟨y, m, d, hi⟩ := ih (by omega)
    have := hi.next (by omega)
    simpa using this
theorem Is.exists_ {n : Int} (h1 : 0 ≤ n) (h2 : n ≤ 2932896) : ∃ y m d, Is n y m d := by
  have := Is.exists_nat n.toNat (by omega)
  rwa [Int.toNat_of_nonneg h1] at this
end Cal
end Go.Proofs.YtkfkoopfoiekoaaDoor
