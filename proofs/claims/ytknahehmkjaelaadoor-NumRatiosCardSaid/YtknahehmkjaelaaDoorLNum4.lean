/- The law NumDivides walked: for all three numbers and any mode the call returns true. No conditions. -/
import Derived.Test.YtknahehmkjaelaaDoorNuJ
import Derived.Test.YtknahehmkjaelaaDoorNuZ
import Derived.Test.YtknahehmkjaelaaDoorNuG
import Derived.Test.YtknahehmkjaelaaDoorNuW
import Derived.OpenShut
namespace Go.Proofs.YtknahehmkjaelaaDoor
open Go.RowKit Go.Sort
set_option linter.unusedSimpArgs false
set_option linter.unusedVariables false

set_option maxRecDepth 100000 in
theorem rmd_bad (a b c mode : Int) (h : c = 0 ∨ mode < 0 ∨ 3 < mode) (w : World) :
    Calls Tryd.prog 24 #[.int .i64 a, .int .i64 b, .int .i64 c, .int .i64 mode] w (GivesMD a b c mode w) := by
  have HM := Lib.hid (md_no (a := a) (b := b) h)
  by_cases h1 : c = 0
  · have t1 : (c == 0) = true := by rw [h1]; rfl
    clear h
    subst h1
    go_enter Tryd.func24, Tryd.ntmps24
    go_wp2_with fail
    go_ret2
    exact ⟨_, _, rfl, HM.out, Below.refl _ _⟩
  · have t1 : (c == 0) = false := by rw [beq_eq_false_iff_ne]; exact h1
    by_cases h2 : mode < 0
    · clear h
      go_enter Tryd.func24, Tryd.ntmps24
      go_wp2_with fail
      go_ret2
      exact ⟨_, _, rfl, HM.out, Below.refl _ _⟩
    · have h3 : 3 < mode := by omega
      clear h
      go_enter Tryd.func24, Tryd.ntmps24
      go_wp2_with fail
      go_ret2
      exact ⟨_, _, rfl, HM.out, Below.refl _ _⟩
theorem dg_prod8 {a b : Int} (h0 : a.natAbs ≤ 9223372036854775808) (h1 : b.natAbs ≤ 9223372036854775808) : (dg (a * b).natAbs).length ≤ 8 :=
  dg_length_le (k := 8) (by rw [Int.natAbs_mul]; exact Nat.lt_of_le_of_lt (Nat.mul_le_mul h0 h1) (by decide))
theorem rq_len {x y mode : Int} (h : (dg x.natAbs).length ≤ 100) : (dg (rq x y mode).natAbs).length ≤ 1000 := by
  unfold rq
  rw [(sgn_big _ _).1]
  have h1 := len_up (q := x.natAbs / y.natAbs) (r := 0) (y := 0) (g := true) (mode := 0) (Nat.le_trans (len_le (Nat.div_le_self _ _)) h)
  unfold upN
  split
  · exact h1.2
  · exact h1.1
set_option maxRecDepth 100000 in
set_option maxHeartbeats 4000000 in
theorem rmd_good (a b c mode : Int) (a0 : -9223372036854775808 ≤ a) (a1 : a ≤ 9223372036854775807) (b0 : -9223372036854775808 ≤ b) (b1 : b ≤ 9223372036854775807) (c0 : -9223372036854775808 ≤ c) (c1 : c ≤ 9223372036854775807)
    (hc : c ≠ 0) (m0 : 0 ≤ mode) (m3 : mode ≤ 3) (w : World) :
    Calls Tryd.prog 24 #[.int .i64 a, .int .i64 b, .int .i64 c, .int .i64 mode] w (GivesMD a b c mode w) := by
  have HM : Hid (∀ n ok, Ans (rq (a * b) c mode) n ok → MD a b c mode n ok) := Lib.hid fun n ok h => md_ans (by omega) h
  have O1 := Lib.hid (fun W : World => of_any a a0 a1 W)
  have O2 := Lib.hid (fun W : World => of_any b b0 b1 W)
  have O3 := Lib.hid (fun W : World => of_any c c0 c1 W)
  have la1 : (dg a.natAbs).length ≤ 1000 := dg64_len (by omega)
  have lb1 : (dg b.natAbs).length ≤ 1000 := dg64_len (by omega)
  have lc1 : (dg c.natAbs).length ≤ 100 := Nat.le_trans (dg_length_le (k := 4) (by omega)) (by omega)
  have lp1 : (dg (a * b).natAbs).length ≤ 100 := Nat.le_trans (dg_prod8 (by omega) (by omega)) (by omega)
  have P1 : Hid (∀ W u v, BigIs a u W → BigIs b v W → Calls Tryd.prog 21 #[u, v] W (GivesBig (a * b) W)) := Lib.hid fun W u v hu hv => times_any _ _ _ _ W la1 lb1 hu hv
  have V1 : Hid (∀ W u v, BigIs (a * b) u W → BigIs c v W → Calls Tryd.prog 54 #[u, v, .int .i64 mode] W (GivesBig (rq (a * b) c mode) W)) := Lib.hid fun W u v hu hv => over_any _ _ _ _ _ W lp1 lc1 hc m0 m3 hu hv
  have N1 : Hid (∀ W u, BigIs (rq (a * b) c mode) u W → Calls Tryd.prog 47 #[u] W fun e w' => SumPost (rq (a * b) c mode) e ∧ Below W.heap.size W w') := Lib.hid fun W u hu => small_any _ _ W (rq_len lp1) hu
  have tc : (c == 0) = false := by rw [beq_eq_false_iff_ne]; exact hc
  have t0 : ¬ mode < 0 := by omega
  have t3 : ¬ 3 < mode := by omega
  obtain ⟨p, hp⟩ : ∃ p, p = a * b := ⟨_, rfl⟩
  rw [← hp] at HM P1 V1 N1
  obtain ⟨r, hr⟩ : ∃ r, r = rq p c mode := ⟨_, rfl⟩
  rw [← hr] at HM V1 N1
  clear la1 lb1 lc1 lp1 hp hr hc
  go_enter Tryd.func24, Tryd.ntmps24
  go_wp2_with fail
  with_reducible refine (O1.out _).mono ?_
  rintro e w1 ⟨u, rfl, hu, hB1⟩
  have HU := Lib.hid hu
  have B1 := Lib.hid hB1
  clear hu hB1
  go_wp2_with fail
  with_reducible refine (O2.out _).mono ?_
  rintro e w2 ⟨v, rfl, hv, hB⟩
  have HV := Lib.hid hv
  have HU2 := Lib.hid (HU.out.next hB)
  have B2 := Lib.hid (below_mono B1.out hB (Nat.le_refl _))
  clear hv hB B1 HU
  go_wp2_with fail
  with_reducible refine (P1.out _ _ _ HU2.out HV.out).mono ?_
  rintro e w3 ⟨x, rfl, hx, hB⟩
  have HX := Lib.hid hx
  have B3 := Lib.hid (below_mono B2.out hB (Nat.le_refl _))
  clear hx hB B2 HU2 HV
  go_wp2_with fail
  with_reducible refine (O3.out _).mono ?_
  rintro e w4 ⟨y, rfl, hy, hB⟩
  have HY := Lib.hid hy
  have HX2 := Lib.hid (HX.out.next hB)
  have B4 := Lib.hid (below_mono B3.out hB (Nat.le_refl _))
  clear hy hB B3 HX
  go_wp2_with fail
  with_reducible refine (V1.out _ _ _ HX2.out HY.out).mono ?_
  rintro e w5 ⟨z, rfl, hz, hB⟩
  have HZ := Lib.hid hz
  have B5 := Lib.hid (below_mono B4.out hB (Nat.le_refl _))
  clear hz hB B4 HX2 HY
  go_wp2_with fail
  with_reducible refine (N1.out _ _ HZ.out).mono ?_
  rintro e w6 ⟨hs, hB⟩
  obtain ⟨n, ok, rfl, hans⟩ := hs.ans
  have HA := Lib.hid (HM.out _ _ hans)
  have B6 := Lib.hid (below_mono B5.out hB (Nat.le_refl _))
  clear hs hB B5 HZ hans
  go_wp2_with fail
  go_ret2
  exact ⟨_, _, rfl, HA.out, B6.out⟩
theorem rmd_any (a b c mode : Int) (a0 : -9223372036854775808 ≤ a) (a1 : a ≤ 9223372036854775807) (b0 : -9223372036854775808 ≤ b) (b1 : b ≤ 9223372036854775807) (c0 : -9223372036854775808 ≤ c) (c1 : c ≤ 9223372036854775807) (w : World) :
    Calls Tryd.prog 24 #[.int .i64 a, .int .i64 b, .int .i64 c, .int .i64 mode] w (GivesMD a b c mode w) := by
  by_cases h : c = 0 ∨ mode < 0 ∨ 3 < mode
  · exact rmd_bad a b c mode h w
  · exact rmd_good a b c mode a0 a1 b0 b1 c0 c1 (by omega) (by omega) (by omega) w
set_option maxRecDepth 100000 in
set_option maxHeartbeats 4000000 in
theorem numDivides_walk (a b c mode : Int) (ha : (Lit.int .i64 a).wf = true) (hb : (Lit.int .i64 b).wf = true) (hc : (Lit.int .i64 c).wf = true) (hm : (Lit.int .i64 mode).wf = true) (w : World) :
    Calls Tryd.prog 4 #[.int .i64 a, .int .i64 b, .int .i64 c, .int .i64 mode] w fun e w' => e = .returned (.bool true) ∧ Below w.heap.size w w' := by
  have M1 := Lib.hid (fun W => md_any a b c mode (bounds_i64 ha).1 (bounds_i64 ha).2 (bounds_i64 hb).1 (bounds_i64 hb).2 (bounds_i64 hc).1 (bounds_i64 hc).2 W)
  have M2 := Lib.hid (fun W => rmd_any a b c mode (bounds_i64 ha).1 (bounds_i64 ha).2 (bounds_i64 hb).1 (bounds_i64 hb).2 (bounds_i64 hc).1 (bounds_i64 hc).2 W)
  clear ha hb hc hm
  go_enter Tryd.func4, Tryd.ntmps4
  go_wp2_with fail
  refine (M1.out _).mono ?_
  rintro e w1 ⟨n, ok, rfl, h1, hB⟩
  have H1 := Lib.hid h1
  have B1 := Lib.hid hB
  clear h1 hB
  go_wp2_with fail
  refine (M2.out _).mono ?_
  rintro e w2 ⟨m, is, rfl, h2, hB⟩
  obtain ⟨rfl, rfl⟩ := H1.out.one h2
  have B2 := Lib.hid (below_mono B1.out hB (Nat.le_refl _))
  clear h2 hB B1 H1
  have t1 : (n == n) = true := by simp
  have t2 : (ok == ok) = true := by simp
  go_wp2_with (go_at_call 22; (with_reducible refine (awake_any _).mono ?_); rintro e w5 ⟨rfl, hB5⟩; have B5 := Lib.hid (below_mono B2.out hB5 (Nat.le_refl _)); clear hB5)
  go_ret
  exact ⟨rfl, B5.out⟩
end Go.Proofs.YtknahehmkjaelaaDoor
