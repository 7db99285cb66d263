/- What the Go functions Add, Sub, Neg, Mul of package num answer. Conditions: those written at each theorem. -/
import Derived.Test.YtknahehmkjaelaaDoorNuQ
import Derived.Test.YtknahehmkjaelaaDoorNuF
import Derived.Test.YtknahehmkjaelaaDoorNuN
namespace Go.Proofs.YtknahehmkjaelaaDoor
open Go.RowKit Go.Sort
set_option linter.unusedSimpArgs false
set_option linter.unusedVariables false

theorem ans_in {z : Int} (h0 : -9223372036854775808 ≤ z) (h1 : z ≤ 9223372036854775807) : Ans z z true := ⟨fun _ => ⟨rfl, rfl⟩, fun h => absurd ⟨h0, h1⟩ h⟩
theorem ans_out {z : Int} (h : z < -9223372036854775808 ∨ 9223372036854775807 < z) : Ans z 0 false := ⟨fun h' => by omega, fun _ => ⟨rfl, rfl⟩⟩
/-- Does a function answer the number, where it fits? -/
def GivesAns (z : Int) (w : World) (e : Ending) (w' : World) : Prop := ∃ n ok, e = .returned (.tuple #[.int .i64 n, .bool ok]) ∧ Ans z n ok ∧ Below w.heap.size w w'
theorem add_num (a b : Int) (a0 : -9223372036854775808 ≤ a) (a1 : a ≤ 9223372036854775807) (b0 : -9223372036854775808 ≤ b) (b1 : b ≤ 9223372036854775807) (w : World) :
    Calls Tryd.prog 13 #[.int .i64 a, .int .i64 b] w (GivesAns (a + b) w) := by
  obtain ⟨c, hc⟩ : ∃ c, c = IntKind.i64.wrap (a + b) := ⟨_, rfl⟩
  have y1 : IntKind.i64.wrap (a + b) = c := hc.symm
  have hc' := hc
  rw [IntKind.wrap_i64] at hc'
  by_cases h1 : c < a <;> by_cases h2 : b < 0
  · have hz : Ans (a + b) c true := by
      have : c = a + b := by omega
      rw [this]; exact ans_in (by omega) (by omega)
    clear hc hc'
    go_enter Tryd.func13, Tryd.ntmps13
    go_wp2
    all_goals go_ret2
    all_goals exact ⟨_, _, rfl, hz, Below.refl _ _⟩
  · have hz : Ans (a + b) 0 false := ans_out (by omega)
    clear hc hc'
    go_enter Tryd.func13, Tryd.ntmps13
    go_wp2
    all_goals go_ret2
    all_goals exact ⟨_, _, rfl, hz, Below.refl _ _⟩
  · have hz : Ans (a + b) 0 false := ans_out (by omega)
    clear hc hc'
    go_enter Tryd.func13, Tryd.ntmps13
    go_wp2
    all_goals go_ret2
    all_goals exact ⟨_, _, rfl, hz, Below.refl _ _⟩
  · have hz : Ans (a + b) c true := by
      have : c = a + b := by omega
      rw [this]; exact ans_in (by omega) (by omega)
    clear hc hc'
    go_enter Tryd.func13, Tryd.ntmps13
    go_wp2
    all_goals go_ret2
    all_goals exact ⟨_, _, rfl, hz, Below.refl _ _⟩
theorem sub_num (a b : Int) (a0 : -9223372036854775808 ≤ a) (a1 : a ≤ 9223372036854775807) (b0 : -9223372036854775808 ≤ b) (b1 : b ≤ 9223372036854775807) (w : World) :
    Calls Tryd.prog 14 #[.int .i64 a, .int .i64 b] w (GivesAns (a - b) w) := by
  obtain ⟨c, hc⟩ : ∃ c, c = IntKind.i64.wrap (a - b) := ⟨_, rfl⟩
  have y1 : IntKind.i64.wrap (a - b) = c := hc.symm
  have hc' := hc
  rw [IntKind.wrap_i64] at hc'
  by_cases h1 : a < c <;> by_cases h2 : b < 0
  · have hz : Ans (a - b) c true := by
      have : c = a - b := by omega
      rw [this]; exact ans_in (by omega) (by omega)
    clear hc hc'
    go_enter Tryd.func14, Tryd.ntmps14
    go_wp2
    all_goals go_ret2
    all_goals exact ⟨_, _, rfl, hz, Below.refl _ _⟩
  · have hz : Ans (a - b) 0 false := ans_out (by omega)
    clear hc hc'
    go_enter Tryd.func14, Tryd.ntmps14
    go_wp2
    all_goals go_ret2
    all_goals exact ⟨_, _, rfl, hz, Below.refl _ _⟩
  · have hz : Ans (a - b) 0 false := ans_out (by omega)
    clear hc hc'
    go_enter Tryd.func14, Tryd.ntmps14
    go_wp2
    all_goals go_ret2
    all_goals exact ⟨_, _, rfl, hz, Below.refl _ _⟩
  · have hz : Ans (a - b) c true := by
      have : c = a - b := by omega
      rw [this]; exact ans_in (by omega) (by omega)
    clear hc hc'
    go_enter Tryd.func14, Tryd.ntmps14
    go_wp2
    all_goals go_ret2
    all_goals exact ⟨_, _, rfl, hz, Below.refl _ _⟩
theorem neg_num (a : Int) (a0 : -9223372036854775808 ≤ a) (a1 : a ≤ 9223372036854775807) (w : World) :
    Calls Tryd.prog 15 #[.int .i64 a] w (GivesAns (-a) w) := by
  have G := Lib.hid (fun W : World => sub_num 0 a (by omega) (by omega) a0 a1 W)
  rw [show (0 : Int) - a = -a by omega] at G
  go_enter Tryd.func15, Tryd.ntmps15
  go_wp2_with fail
  refine (G.out _).mono ?_
  rintro e w1 ⟨n, ok, rfl, hz, hB⟩
  have HB := Lib.hid hB
  clear hB
  go_wp2_with fail
  go_ret2
  exact ⟨_, _, rfl, hz, HB.out⟩
theorem signed_ans (g : Bool) (n : Nat) (w : World) : Calls Tryd.prog 45 #[.bool g, .int .u64 n] w (GivesAns (if g then -(n : Int) else n) w) := by
  cases g
  · rcases Nat.lt_or_ge 9223372036854775807 n with h | h
    · exact (signed_great n h w).mono fun e w' ⟨h1, h2⟩ => ⟨_, _, h1, ans_out (by simp; omega), h2 ▸ Below.refl _ _⟩
    · exact (signed_pos n h w).mono fun e w' ⟨h1, h2⟩ => ⟨_, _, h1, ans_in (by simp <;> omega) (by simp <;> omega), h2 ▸ Below.refl _ _⟩
  · rcases Nat.lt_or_ge 9223372036854775808 n with h | h
    · exact (signed_low n h w).mono fun e w' ⟨h1, h2⟩ => ⟨_, _, h1, ans_out (by simp; omega), h2 ▸ Below.refl _ _⟩
    · exact (signed_neg n h w).mono fun e w' ⟨h1, h2⟩ => ⟨_, _, h1, ans_in (by simp <;> omega) (by simp <;> omega), h2 ▸ Below.refl _ _⟩
theorem mul_parts (a b : Int) : a * b = if (!(decide (a < 0) == decide (b < 0))) then -((a.natAbs * b.natAbs : Nat) : Int) else ((a.natAbs * b.natAbs : Nat) : Int) := by
  have e1 : a = if a < 0 then -(a.natAbs : Int) else (a.natAbs : Int) := by split <;> omega
  have e2 : b = if b < 0 then -(b.natAbs : Int) else (b.natAbs : Int) := by split <;> omega
  generalize a.natAbs = m at *
  generalize b.natAbs = n at *
  by_cases h1 : a < 0 <;> by_cases h2 : b < 0 <;> simp only [h1, h2, if_true, if_false] at e1 e2 <;> simp [h1, h2] <;> rw [e1, e2] <;> simp [Int.neg_mul, Int.mul_neg]
set_option maxRecDepth 100000 in
theorem mul_num (a b : Int) (a0 : -9223372036854775808 ≤ a) (a1 : a ≤ 9223372036854775807) (b0 : -9223372036854775808 ≤ b) (b1 : b ≤ 9223372036854775807) (w : World) :
    Calls Tryd.prog 16 #[.int .i64 a, .int .i64 b] w (GivesAns (a * b) w) := by
  have S1 := Lib.hid (fun W : World => size_any a a0 a1 W)
  have S2 := Lib.hid (fun W : World => size_any b b0 b1 W)
  have hp := mul_parts a b
  obtain ⟨x, hx⟩ : ∃ x, x = a.natAbs := ⟨_, rfl⟩
  obtain ⟨y, hy⟩ : ∃ y, y = b.natAbs := ⟨_, rfl⟩
  have xb : x < 18446744073709551616 := by omega
  have yb : y < 18446744073709551616 := by omega
  rw [← hx, ← hy] at hp
  rw [← hx] at S1
  rw [← hy] at S2
  have M1 := Lib.hid (fun W : World => mul64_any x y xb yb W)
  obtain ⟨g, hg⟩ : ∃ g, g = decide (a < 0) := ⟨_, rfl⟩
  obtain ⟨h, hh⟩ : ∃ g, g = decide (b < 0) := ⟨_, rfl⟩
  rw [← hg, ← hh] at hp
  obtain ⟨hi, hhi⟩ : ∃ hi, hi = x * y / 18446744073709551616 := ⟨_, rfl⟩
  obtain ⟨lo, hlo⟩ : ∃ lo, lo = x * y % 18446744073709551616 := ⟨_, rfl⟩
  rw [← hhi, ← hlo] at M1
  obtain ⟨z, hz⟩ : ∃ z, z = a * b := ⟨_, rfl⟩
  rw [← hz] at hp ⊢
  by_cases h0 : hi = 0
  · have hl : lo = x * y := by omega
    have N1 := Lib.hid (fun W : World => signed_ans (!(g == h)) lo W)
    rw [hl, ← hp, ← hl] at N1
    subst h0
    subst hg hh
    clear hp hx hy hhi hlo hl hz
    go_enter Tryd.func16, Tryd.ntmps16
    go_wp2_with (first
      | (go_at_call 44; first | ((with_reducible refine (S1.out _).mono ?_); rintro e w' ⟨rfl, rfl⟩) | ((with_reducible refine (S2.out _).mono ?_); rintro e w' ⟨rfl, rfl⟩)))
    refine (M1.out _).mono ?_
    rintro e w1 ⟨rfl, hB⟩
    have HB := Lib.hid hB
    clear hB
    go_wp2_with fail
    refine (N1.out _).mono ?_
    rintro e w2 ⟨n, ok, rfl, hz, hB2⟩
    have HC := Lib.hid (below_mono HB.out hB2 (Nat.le_refl _))
    clear hB2
    go_wp2_with fail
    go_ret2
    exact ⟨_, _, rfl, hz, HC.out⟩
  · have hz' : Ans z 0 false := ans_out (by
      have hl : 18446744073709551616 ≤ x * y := by omega
      rw [hp]; split <;> omega)
    have h1 : (hi : Int) ≠ 0 := by omega
    clear hp hx hy hhi hlo hz
    go_enter Tryd.func16, Tryd.ntmps16
    go_wp2_with (first
      | (go_at_call 44; first | ((with_reducible refine (S1.out _).mono ?_); rintro e w' ⟨rfl, rfl⟩) | ((with_reducible refine (S2.out _).mono ?_); rintro e w' ⟨rfl, rfl⟩)))
    refine (M1.out _).mono ?_
    rintro e w1 ⟨rfl, hB⟩
    have HB := Lib.hid hB
    clear hB
    go_wp2_with fail
    go_ret2
    exact ⟨_, _, rfl, hz', HB.out⟩
end Go.Proofs.YtknahehmkjaelaaDoor
