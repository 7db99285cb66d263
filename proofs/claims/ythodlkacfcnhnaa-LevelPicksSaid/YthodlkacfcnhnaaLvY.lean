/- Layer 15: the law's own best level is the program's. Conditions: those written at each theorem. -/
import Derived.Test.YthodlkacfcnhnaaLvV
namespace Go.Proofs.Ythodlkacfcnhnaa
open Go.RowKit Go.Sort
set_option linter.unusedVariables false
set_option linter.unusedSimpArgs false
/-- What the law holds ahead of a level: the best level, what it has and what it may have. -/
def lawS (L : List Fl) (p q r : Int) : Nat → Int × Int × Int
  | 0 => (-1, 0, 1)
  | n + 1 => if scN L n < scD p q r n then lawS L p q r n else if (lawS L p q r n).1 < 0 ∨ (lawS L p q r n).2.1 * scD p q r n < scN L n * (lawS L p q r n).2.2 then ((n : Int), scN L n, scD p q r n) else lawS L p q r n
theorem rcmp_up {a b c d : Int} (hb : 0 < b) (hd : 0 < d) : (0 < Nu.rcmp a b c d ↔ c * b < a * d) ∧ (Nu.rcmp a b c d = 0 ↔ c * b = a * d) := by
  have h1 : decide (b < 0) = false := by simp; omega
  have h2 : decide (d < 0) = false := by simp; omega
  unfold Nu.rcmp
  rw [h1, h2]
  simp only [bne_self_eq_false, Bool.false_eq_true, if_false]
  generalize a * d = X
  generalize c * b = Y
  repeat' split
  all_goals constructor <;> constructor <;> intro h <;> omega
theorem lawS_succ (L : List Fl) (p q r : Int) (n : Nat) : lawS L p q r (n + 1) = if scN L n < scD p q r n then lawS L p q r n else if (lawS L p q r n).1 < 0 ∨ (lawS L p q r n).2.1 * scD p q r n < scN L n * (lawS L p q r n).2.2 then ((n : Int), scN L n, scD p q r n) else lawS L p q r n := rfl
theorem lawS_pick {L : List Fl} (hl : L.length ≤ 39) (hz : ∀ f ∈ L, 0 ≤ f.sz ∧ f.sz ≤ 1048576) {p q r : Int} (p0 : 1 ≤ p) (p1 : p ≤ 50) (q0 : 1 ≤ q) (q1 : q ≤ 1048576) (r0 : 2 ≤ r) (r1 : r ≤ 20) : ∀ n, n ≤ 4 →
    (pickS L p q r n = (-1, 1, 1) ∧ lawS L p q r n = (-1, 0, 1)) ∨ (pickS L p q r n = lawS L p q r n ∧ 0 ≤ (lawS L p q r n).1 ∧ (lawS L p q r n).1 ≤ 3 ∧ 1 ≤ (lawS L p q r n).2.2 ∧ (lawS L p q r n).2.2 ≤ (lawS L p q r n).2.1)
  | 0, _ => .inl ⟨rfl, rfl⟩
  | n + 1, hn => by
    have hd := scD_in p0 p1 q0 q1 r0 r1 n (by omega)
    have hs := scN_in hl hz n
    rcases lawS_pick hl hz p0 p1 q0 q1 r0 r1 n (by omega) with ⟨h1, h2⟩ | ⟨h1, h2, h2b, h3, h4⟩
    · unfold pickS lawS
      rw [h1, h2]
      dsimp only
      obtain ⟨c1, c2⟩ := rcmp_up (a := scN L n) (b := scD p q r n) (c := 1) (d := 1) (by omega) (by omega)
      rw [Int.one_mul, Int.mul_one] at c1 c2
      by_cases hlt : scN L n < scD p q r n
      · rw [if_neg, if_pos hlt]
        · exact .inl ⟨rfl, rfl⟩
        · rintro (h | ⟨h, _⟩)
          · have := c1.1 h; omega
          · have := c2.1 h; omega
      · rw [if_pos, if_neg hlt, if_pos (.inl (by omega))]
        · exact .inr ⟨rfl, by show (0 : Int) ≤ (n : Int); omega, by show (n : Int) ≤ 3; omega, hd.1, by show scD p q r n ≤ scN L n; omega⟩
        · rcases Int.lt_or_eq_of_le (show scD p q r n ≤ scN L n by omega) with h | h
          · exact .inl (c1.2 h)
          · exact .inr ⟨c2.2 h, by omega⟩
    · unfold pickS
      rw [lawS_succ, h1]
      generalize lawS L p q r n = T at *
      obtain ⟨b, x, y⟩ := T
      dsimp only at *
      obtain ⟨c1, c2⟩ := rcmp_up (a := scN L n) (b := scD p q r n) (c := x) (d := y) (by omega) (by omega)
      generalize scN L n = s at *
      generalize scD p q r n = m at *
      by_cases hlt : x * m < s * y
      · have hge : ¬ s < m := by
          intro hh
          have k1 : s * y ≤ m * y := Int.mul_le_mul_of_nonneg_right (by omega) (by omega)
          have k2 : m * y ≤ m * x := Int.mul_le_mul_of_nonneg_left (by omega) (by omega)
          rw [Int.mul_comm m x] at k2
          omega
        rw [if_pos (.inl (c1.2 hlt)), if_neg hge, if_pos (.inr hlt)]
        exact .inr ⟨rfl, by show (0 : Int) ≤ (n : Int); omega, by show (n : Int) ≤ 3; omega, hd.1, by show m ≤ s; omega⟩
      · rw [if_neg]
        · split
          · exact .inr ⟨rfl, h2, h2b, h3, h4⟩
          · rw [if_neg]
            · exact .inr ⟨rfl, h2, h2b, h3, h4⟩
            · rintro (h | h)
              · exact absurd h2 (by omega)
              · exact hlt h
        · rintro (h | ⟨_, h⟩)
          · exact hlt (c1.1 h)
          · omega
theorem lawS_in {L : List Fl} (hl : L.length ≤ 39) (hz : ∀ f ∈ L, 0 ≤ f.sz ∧ f.sz ≤ 1048576) {p q r : Int} (p0 : 1 ≤ p) (p1 : p ≤ 50) (q0 : 1 ≤ q) (q1 : q ≤ 1048576) (r0 : 2 ≤ r) (r1 : r ≤ 20) : ∀ n, n ≤ 4 →
    (0 ≤ (lawS L p q r n).2.1 ∧ (lawS L p q r n).2.1 ≤ 40894464) ∧ (1 ≤ (lawS L p q r n).2.2 ∧ (lawS L p q r n).2.2 ≤ 419430400)
  | 0, _ => by simp [lawS]
  | n + 1, hn => by
    have ih := lawS_in hl hz p0 p1 q0 q1 r0 r1 n (by omega)
    unfold lawS
    split
    · exact ih
    · split
      · exact ⟨scN_in hl hz n, scD_in p0 p1 q0 q1 r0 r1 n (by omega)⟩
      · exact ih
theorem lawS_best {L : List Fl} (hl : L.length ≤ 39) (hz : ∀ f ∈ L, 0 ≤ f.sz ∧ f.sz ≤ 1048576) {p q r : Int} (p0 : 1 ≤ p) (p1 : p ≤ 50) (q0 : 1 ≤ q) (q1 : q ≤ 1048576) (r0 : 2 ≤ r) (r1 : r ≤ 20) : (lawS L p q r 4).1 = pickM L p q r := by
  unfold pickM
  rcases lawS_pick hl hz p0 p1 q0 q1 r0 r1 4 (by omega) with ⟨h1, h2⟩ | ⟨h1, _⟩
  · rw [h1, h2]
  · rw [h1]
/-- What a level has of the first files. -/
def sumP (L : List Fl) (n j : Nat) : Int := scN (L.take j) n
theorem sumP_zero (L : List Fl) (n : Nat) : sumP L n 0 = 0 := by unfold sumP scN; split <;> simp
theorem sumP_no {L : List Fl} {n j : Nat} {f : Fl} (hf : L[j]? = some f) (h : f.lvl ≠ n) : sumP L n (j + 1) = sumP L n j := by
  unfold sumP scN
  have h1 := take_filter_no (p := byLvl n) hf (by simp [byLvl, h])
  split
  · rename_i h0
    subst h0
    have h1' : ((L.take (j + 1)).filter (byLvl 0)) = (L.take j).filter (byLvl 0) := h1
    rw [h1']
  · rw [h1]
theorem sumP_cnt {L : List Fl} {j : Nat} {f : Fl} (hf : L[j]? = some f) (h : f.lvl = 0) : sumP L 0 (j + 1) = sumP L 0 j + 1 := by
  unfold sumP scN
  have h1 := take_filter_yes (p := byLvl 0) hf (by simp [byLvl, h])
  rw [if_pos rfl, if_pos rfl, h1]
  simp
theorem sumP_add {L : List Fl} {n j : Nat} {f : Fl} (hf : L[j]? = some f) (h : f.lvl = n) (hn : n ≠ 0) : sumP L n (j + 1) = sumP L n j + f.sz := by
  unfold sumP scN
  have h1 := take_filter_yes (p := byLvl n) hf (by simp [byLvl, h])
  rw [if_neg hn, if_neg hn, h1]
  simp
theorem sumP_in {L : List Fl} (hl : L.length ≤ 39) (hz : ∀ f ∈ L, 0 ≤ f.sz ∧ f.sz ≤ 1048576) (n j : Nat) : 0 ≤ sumP L n j ∧ sumP L n j ≤ 40894464 :=
  scN_in (Nat.le_trans (by rw [List.length_take]; omega) hl) (fun f hf => hz f (List.mem_of_mem_take hf)) n
theorem sumP_all (L : List Fl) (n : Nat) : sumP L n L.length = scN L n := by unfold sumP; rw [List.take_of_length_le (Nat.le_refl _)]
/-- The lower levels' bound, level by level. -/
theorem limit_next (p q r : Int) (n : Nat) (h : 1 ≤ n) : scD p q r n = q * r ^ (n - 1) := by unfold scD; rw [if_neg (by omega)]
end Go.Proofs.Ythodlkacfcnhnaa
