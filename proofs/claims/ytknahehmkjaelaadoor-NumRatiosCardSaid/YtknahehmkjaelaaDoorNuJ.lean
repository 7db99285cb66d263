/- What the Go function MulDiv of package num answers at any numbers. Conditions: those written at each theorem. -/
import Derived.Test.YtknahehmkjaelaaDoorNuO
import Derived.Test.YtknahehmkjaelaaDoorNuI
import Derived.Test.YtknahehmkjaelaaDoorNuR
namespace Go.Proofs.YtknahehmkjaelaaDoor
open Go.RowKit Go.Sort
set_option linter.unusedSimpArgs false
set_option linter.unusedVariables false

theorem away_any (quo rest by' : Nat) (neg : Bool) (mode : Int) (m0 : 0 ≤ mode) (m3 : mode ≤ 3) (h : rest < by') (hb : by' < 18446744073709551616) (w : World) :
    Calls Tryd.prog 53 #[.int .u64 quo, .int .u64 rest, .int .u64 by', .bool neg, .int .i64 mode] w fun e w' => e = .returned (.bool (awayB quo rest by' neg mode)) ∧ w = w' := by
  have : mode = 0 ∨ mode = 1 ∨ mode = 2 ∨ mode = 3 := by omega
  rcases this with rfl | rfl | rfl | rfl
  · exact away_down quo rest by' neg h hb w
  · exact away_floor quo rest by' neg h hb w
  · exact away_half quo rest by' neg h hb w
  · exact away_even quo rest by' neg h hb w
/-- What MulDiv answers. -/
def MD (a b c mode n : Int) (ok : Bool) : Prop := if c = 0 ∨ mode < 0 ∨ 3 < mode then n = 0 ∧ ok = false else Ans (rq (a * b) c mode) n ok
def GivesMD (a b c mode : Int) (w : World) (e : Ending) (w' : World) : Prop := ∃ n ok, e = .returned (.tuple #[.int .i64 n, .bool ok]) ∧ MD a b c mode n ok ∧ Below w.heap.size w w'
theorem Ans.one {z n m : Int} {ok is : Bool} (h : Ans z n ok) (h' : Ans z m is) : n = m ∧ ok = is := by
  by_cases hz : -9223372036854775808 ≤ z ∧ z ≤ 9223372036854775807
  · exact ⟨(h.1 hz).1.trans (h'.1 hz).1.symm, (h.1 hz).2.trans (h'.1 hz).2.symm⟩
  · exact ⟨(h.2 hz).1.trans (h'.2 hz).1.symm, (h.2 hz).2.trans (h'.2 hz).2.symm⟩
theorem MD.one {a b c mode n m : Int} {ok is : Bool} (h : MD a b c mode n ok) (h' : MD a b c mode m is) : n = m ∧ ok = is := by
  unfold MD at h h'
  split at h
  · rename_i hc; rw [if_pos hc] at h'; exact ⟨h.1.trans h'.1.symm, h.2.trans h'.2.symm⟩
  · rename_i hc; rw [if_neg hc] at h'; exact h.one h'
theorem md_no {a b c mode : Int} (h : c = 0 ∨ mode < 0 ∨ 3 < mode) : MD a b c mode 0 false := by unfold MD; rw [if_pos h]; exact ⟨rfl, rfl⟩
theorem md_ans {a b c mode n : Int} {ok : Bool} (h : ¬ (c = 0 ∨ mode < 0 ∨ 3 < mode)) (h' : Ans (rq (a * b) c mode) n ok) : MD a b c mode n ok := by unfold MD; rw [if_neg h]; exact h'
theorem sgn_out {g : Bool} {n : Nat} (h : 18446744073709551616 ≤ n) : Ans (sgn g n) 0 false := ans_out (by unfold sgn; split <;> omega)

set_option maxRecDepth 100000 in
theorem md_bad (a b c mode : Int) (h : c = 0 ∨ mode < 0 ∨ 3 < mode) (w : World) :
    Calls Tryd.prog 23 #[.int .i64 a, .int .i64 b, .int .i64 c, .int .i64 mode] w (GivesMD a b c mode w) := by
  have HM := Lib.hid (md_no (a := a) (b := b) h)
  by_cases h1 : c = 0
  · have t1 : (c == 0) = true := by rw [h1]; rfl
    clear h
    subst h1
    go_enter Tryd.func23, Tryd.ntmps23
    go_wp2_with fail
    go_ret2
    exact ⟨_, _, rfl, HM.out, Below.refl _ _⟩
  · have t1 : (c == 0) = false := by rw [beq_eq_false_iff_ne]; exact h1
    by_cases h2 : mode < 0
    · clear h
      go_enter Tryd.func23, Tryd.ntmps23
      go_wp2_with fail
      go_ret2
      exact ⟨_, _, rfl, HM.out, Below.refl _ _⟩
    · have h3 : 3 < mode := by omega
      clear h
      go_enter Tryd.func23, Tryd.ntmps23
      go_wp2_with fail
      go_ret2
      exact ⟨_, _, rfl, HM.out, Below.refl _ _⟩

set_option maxRecDepth 100000 in
set_option maxHeartbeats 4000000 in
theorem md_good (a b c mode : Int) (a0 : -9223372036854775808 ≤ a) (a1 : a ≤ 9223372036854775807) (b0 : -9223372036854775808 ≤ b) (b1 : b ≤ 9223372036854775807) (c0 : -9223372036854775808 ≤ c) (c1 : c ≤ 9223372036854775807)
    (hc : c ≠ 0) (m0 : 0 ≤ mode) (m3 : mode ≤ 3) (w : World) :
    Calls Tryd.prog 23 #[.int .i64 a, .int .i64 b, .int .i64 c, .int .i64 mode] w (GivesMD a b c mode w) := by
  have hgood : ¬ (c = 0 ∨ mode < 0 ∨ 3 < mode) := by omega
  have HM : Hid (∀ n ok, Ans (rq (a * b) c mode) n ok → MD a b c mode n ok) := Lib.hid fun n ok h => md_ans hgood h
  have S1 := Lib.hid (fun W : World => size_any a a0 a1 W)
  have S2 := Lib.hid (fun W : World => size_any b b0 b1 W)
  have S3 := Lib.hid (fun W : World => size_any c c0 c1 W)
  have hrq := rq_of a b c mode hc
  obtain ⟨x, hx⟩ : ∃ x, x = a.natAbs := ⟨_, rfl⟩
  obtain ⟨y, hy⟩ : ∃ y, y = b.natAbs := ⟨_, rfl⟩
  obtain ⟨z, hz⟩ : ∃ z, z = c.natAbs := ⟨_, rfl⟩
  have xb : x < 18446744073709551616 := by omega
  have yb : y < 18446744073709551616 := by omega
  have zb : z < 18446744073709551616 := by omega
  have z1 : 0 < z := by omega
  rw [← hx] at S1
  rw [← hy] at S2
  rw [← hz] at S3
  rw [← hx, ← hy, ← hz] at hrq
  have M1 := Lib.hid (fun W : World => mul64_any x y xb yb W)
  obtain ⟨ga, hga⟩ : ∃ g, g = decide (a < 0) := ⟨_, rfl⟩
  obtain ⟨gb, hgb⟩ : ∃ g, g = decide (b < 0) := ⟨_, rfl⟩
  obtain ⟨gc, hgc⟩ : ∃ g, g = decide (c < 0) := ⟨_, rfl⟩
  rw [← hga, ← hgb, ← hgc] at hrq
  obtain ⟨p, hp⟩ : ∃ p, p = x * y := ⟨_, rfl⟩
  obtain ⟨hi, hhi⟩ : ∃ hi, hi = p / 18446744073709551616 := ⟨_, rfl⟩
  obtain ⟨lo, hlo⟩ : ∃ lo, lo = p % 18446744073709551616 := ⟨_, rfl⟩
  rw [← hp] at hrq
  rw [← hp, ← hhi, ← hlo] at M1
  have hpl : hi * 18446744073709551616 + lo = p := by omega
  have lb : lo < 18446744073709551616 := by omega
  obtain ⟨r, hr⟩ : ∃ r, r = rq (a * b) c mode := ⟨_, rfl⟩
  rw [← hr] at HM hrq
  have tc : (c == 0) = false := by rw [beq_eq_false_iff_ne]; exact hc
  have t0 : ¬ mode < 0 := by omega
  have t3 : ¬ 3 < mode := by omega
  by_cases hov : z ≤ hi
  · have HA : Hid (Ans r 0 false) := Lib.hid (by
      rw [hrq]
      apply sgn_out
      have : 18446744073709551616 ≤ p / z := (Nat.le_div_iff_mul_le z1).2 (by omega)
      unfold upN; omega)
    have ho : (z : Int) ≤ (hi : Int) := by omega
    clear hx hy hz hga hgb hgc hp hhi hlo hpl hr hrq hov hgood xb yb zb
    go_enter Tryd.func23, Tryd.ntmps23
    go_wp2_with (go_at_call 44; first | ((with_reducible refine (S1.out _).mono ?_); rintro e w' ⟨rfl, rfl⟩) | ((with_reducible refine (S2.out _).mono ?_); rintro e w' ⟨rfl, rfl⟩))
    refine (M1.out _).mono ?_
    rintro e w1 ⟨rfl, hB⟩
    have HB := Lib.hid hB
    clear hB
    go_wp2_with (go_at_call 44; (with_reducible refine (S3.out _).mono ?_); rintro e w' ⟨rfl, rfl⟩)
    go_ret2
    exact ⟨_, _, rfl, HM.out _ _ HA.out, HB.out⟩
  · have ho : ¬ (z : Int) ≤ (hi : Int) := by omega
    have D1 := Lib.hid (fun W : World => div64_any hi lo z (by omega) lb zb W)
    rw [hpl] at D1
    obtain ⟨quo, hquo⟩ : ∃ q, q = p / z := ⟨_, rfl⟩
    obtain ⟨rest, hrest⟩ : ∃ q, q = p % z := ⟨_, rfl⟩
    rw [← hquo, ← hrest] at D1 hrq
    have br : rest < z := by rw [hrest]; exact Nat.mod_lt _ z1
    have bq : quo < 18446744073709551616 := by
      rw [hquo, Nat.div_lt_iff_lt_mul z1]
      have : hi * 18446744073709551616 + lo < z * 18446744073709551616 := by omega
      omega
    subst hga hgb hgc
    obtain ⟨g, hg⟩ : ∃ g, g = (!((!(decide (a < 0) == decide (b < 0))) == decide (c < 0))) := ⟨_, rfl⟩
    have hrq' : r = sgn g (upN quo rest z g mode) := by rw [hrq, hg]; rfl
    have W1 := Lib.hid (fun W : World => away_any quo rest z g mode m0 m3 br zb W)
    clear hrq hgood hx hy hz hp hhi hlo hpl hr hov xb yb zb z1 hquo hrest br
    by_cases hA : awayB quo rest z g mode = true
    · rw [hA] at W1
      have hu : upN quo rest z g mode = quo + 1 := by unfold upN; rw [hA]; rfl
      rw [hu] at hrq'
      by_cases hq : quo + 1 = 18446744073709551616
      · have HA : Hid (Ans r 0 false) := Lib.hid (by rw [hrq']; exact sgn_out (by omega))
        have y1 : IntKind.u64.wrap ((quo : Int) + 1) = 0 := by rw [IntKind.wrap_u64]; omega
        clear hu hrq' hA hq bq
        rw [hg] at W1
        clear hg
        go_enter Tryd.func23, Tryd.ntmps23
        go_wp2_with (go_at_call 44; first | ((with_reducible refine (S1.out _).mono ?_); rintro e w' ⟨rfl, rfl⟩) | ((with_reducible refine (S2.out _).mono ?_); rintro e w' ⟨rfl, rfl⟩))
        refine (M1.out _).mono ?_
        rintro e w1 ⟨rfl, hB⟩
        have HB := Lib.hid hB
        clear hB
        go_wp2_with (go_at_call 44; (with_reducible refine (S3.out _).mono ?_); rintro e w' ⟨rfl, rfl⟩)
        with_reducible refine (D1.out _).mono ?_
        rintro e w2 ⟨rfl, n, rfl⟩
        go_wp2_with (go_at_call 44; (with_reducible refine (S3.out _).mono ?_); rintro e w' ⟨rfl, rfl⟩)
        with_reducible refine (W1.out _).mono ?_
        rintro e w3 ⟨rfl, rfl⟩
        go_wp2_with fail
        go_ret2
        exact ⟨_, _, rfl, HM.out _ _ HA.out, below_drewN HB.out _⟩
      · have N1 := Lib.hid (fun W : World => signed_ans g (quo + 1) W)
        rw [show (if g = true then -((quo + 1 : Nat) : Int) else ((quo + 1 : Nat) : Int)) = r by rw [hrq']; rfl] at N1
        obtain ⟨q2, hq2⟩ : ∃ q2, q2 = quo + 1 := ⟨_, rfl⟩
        rw [← hq2] at N1
        have y1 : (quo : Int) + 1 = (q2 : Int) := by omega
        have y2 : IntKind.u64.wrap (q2 : Int) = (q2 : Int) := by rw [IntKind.wrap_u64]; omega
        have y3 : ¬ (q2 : Int) = 0 := by omega
        have y4 : ((q2 : Int) == 0) = false := by rw [beq_eq_false_iff_ne]; omega
        have y5 : IntKind.u64.wrap ((quo : Int) + 1) = (q2 : Int) := by rw [y1, y2]
        clear hu hrq' hA hq bq hq2
        rw [hg] at W1 N1
        clear hg
        go_enter Tryd.func23, Tryd.ntmps23
        go_wp2_with (go_at_call 44; first | ((with_reducible refine (S1.out _).mono ?_); rintro e w' ⟨rfl, rfl⟩) | ((with_reducible refine (S2.out _).mono ?_); rintro e w' ⟨rfl, rfl⟩))
        refine (M1.out _).mono ?_
        rintro e w1 ⟨rfl, hB⟩
        have HB := Lib.hid hB
        clear hB
        go_wp2_with (go_at_call 44; (with_reducible refine (S3.out _).mono ?_); rintro e w' ⟨rfl, rfl⟩)
        with_reducible refine (D1.out _).mono ?_
        rintro e w2 ⟨rfl, n, rfl⟩
        go_wp2_with (go_at_call 44; (with_reducible refine (S3.out _).mono ?_); rintro e w' ⟨rfl, rfl⟩)
        with_reducible refine (W1.out _).mono ?_
        rintro e w3 ⟨rfl, rfl⟩
        go_wp2_with fail
        with_reducible refine (N1.out _).mono ?_
        rintro e w4 ⟨v, ok, rfl, hz, hB2⟩
        have HZ := Lib.hid hz
        have HC := Lib.hid (below_mono (below_drewN HB.out n) hB2 (Nat.le_refl _))
        clear hB2 hz
        go_wp2_with fail
        go_ret2
        exact ⟨_, _, rfl, HM.out _ _ HZ.out, HC.out⟩
    · have hA' : awayB quo rest z g mode = false := by simpa using hA
      rw [hA'] at W1
      have hu : upN quo rest z g mode = quo := by unfold upN; rw [hA']; rfl
      rw [hu] at hrq'
      have N1 := Lib.hid (fun W : World => signed_ans g quo W)
      rw [show (if g = true then -((quo : Nat) : Int) else ((quo : Nat) : Int)) = r by rw [hrq']; rfl] at N1
      clear hu hrq' hA hA' bq
      rw [hg] at W1 N1
      clear hg
      go_enter Tryd.func23, Tryd.ntmps23
      go_wp2_with (go_at_call 44; first | ((with_reducible refine (S1.out _).mono ?_); rintro e w' ⟨rfl, rfl⟩) | ((with_reducible refine (S2.out _).mono ?_); rintro e w' ⟨rfl, rfl⟩))
      refine (M1.out _).mono ?_
      rintro e w1 ⟨rfl, hB⟩
      have HB := Lib.hid hB
      clear hB
      go_wp2_with (go_at_call 44; (with_reducible refine (S3.out _).mono ?_); rintro e w' ⟨rfl, rfl⟩)
      with_reducible refine (D1.out _).mono ?_
      rintro e w2 ⟨rfl, n, rfl⟩
      go_wp2_with (go_at_call 44; (with_reducible refine (S3.out _).mono ?_); rintro e w' ⟨rfl, rfl⟩)
      with_reducible refine (W1.out _).mono ?_
      rintro e w3 ⟨rfl, rfl⟩
      go_wp2_with fail
      with_reducible refine (N1.out _).mono ?_
      rintro e w4 ⟨v, ok, rfl, hz, hB2⟩
      have HZ := Lib.hid hz
      have HC := Lib.hid (below_mono (below_drewN HB.out n) hB2 (Nat.le_refl _))
      clear hB2 hz
      go_wp2_with fail
      go_ret2
      exact ⟨_, _, rfl, HM.out _ _ HZ.out, HC.out⟩
theorem md_any (a b c mode : Int) (a0 : -9223372036854775808 ≤ a) (a1 : a ≤ 9223372036854775807) (b0 : -9223372036854775808 ≤ b) (b1 : b ≤ 9223372036854775807) (c0 : -9223372036854775808 ≤ c) (c1 : c ≤ 9223372036854775807) (w : World) :
    Calls Tryd.prog 23 #[.int .i64 a, .int .i64 b, .int .i64 c, .int .i64 mode] w (GivesMD a b c mode w) := by
  by_cases h : c = 0 ∨ mode < 0 ∨ 3 < mode
  · exact md_bad a b c mode h w
  · exact md_good a b c mode a0 a1 b0 b1 c0 c1 (by omega) (by omega) (by omega) w
end Go.Proofs.YtknahehmkjaelaaDoor
