/- The law NumNear walked: for all three numbers the call returns true. No conditions. -/
import Derived.Test.YtknahehmkjaelaaDoorNuJ
import Derived.Test.YtknahehmkjaelaaDoorNuW
import Derived.Test.YtknahehmkjaelaaDoorQTail
import Derived.OpenShut
namespace Go.Proofs.YtknahehmkjaelaaDoor
open Go.RowKit Go.Sort
set_option linter.unusedSimpArgs false
set_option linter.unusedVariables false

theorem min4 (P : Program) (D F H E z : Int) (hD : D = z ∨ D = z + 1) (hF : F = z) (hH : H = z ∨ H = z + 1) (hE : E = z ∨ E = z + 1) (w : World) (ts : Array TypeId) (t : TypeId) :
    (Builtin.min_ ts t #[.int .i64 D, .int .i64 F, .int .i64 H, .int .i64 E]).run P w = .ok (.int .i64 z) w := by
  rcases hD with rfl | rfl <;> rcases hH with rfl | rfl <;> rcases hE with rfl | rfl <;> subst hF <;> simp [Builtin.min_, Builtin.min2] <;> (repeat' split) <;> omega
theorem max4 (P : Program) (D F H E z : Int) (hD : D = z ∨ D = z + 1) (hF : F = z) (hH : H = z ∨ H = z + 1) (hE : E = z ∨ E = z + 1) :
    ∃ m, (m = z ∨ m = z + 1) ∧ (m = D ∨ m = F ∨ m = H ∨ m = E) ∧ ∀ (w : World) (ts : Array TypeId) (t : TypeId), (Builtin.max_ ts t #[.int .i64 D, .int .i64 F, .int .i64 H, .int .i64 E]).run P w = .ok (.int .i64 m) w := by
  by_cases h : D = z ∧ H = z ∧ E = z
  · obtain ⟨rfl, rfl, rfl⟩ := h
    subst hF
    exact ⟨_, .inl rfl, .inl rfl, fun w ts t => by simp [Builtin.max_, Builtin.max2]⟩
  · refine ⟨z + 1, .inr rfl, by omega, fun w ts t => ?_⟩
    rcases hD with rfl | rfl <;> rcases hH with rfl | rfl <;> rcases hE with rfl | rfl <;> subst hF <;> simp [Builtin.max_, Builtin.max2] <;> (try (repeat' split) <;> omega) <;> simp at h
theorem MD.rq_of {a b c mode n : Int} (h : MD a b c mode n true) : c ≠ 0 ∧ n = rq (a * b) c mode ∧ -9223372036854775808 ≤ n ∧ n ≤ 9223372036854775807 := by
  unfold MD at h
  split at h
  · cases h.2
  · rename_i hc
    by_cases hz : -9223372036854775808 ≤ rq (a * b) c mode ∧ rq (a * b) c mode ≤ 9223372036854775807
    · have := (h.1 hz).1
      exact ⟨by omega, this, by omega, by omega⟩
    · cases (h.2 hz).2
set_option maxRecDepth 100000 in
set_option maxHeartbeats 4000000 in
theorem numNear_go (a b c : Int) (w : World) (a0 : -9223372036854775808 ≤ a) (a1 : a ≤ 9223372036854775807) (b0 : -9223372036854775808 ≤ b) (b1 : b ≤ 9223372036854775807) (c0 : -9223372036854775808 ≤ c) (c1 : c ≤ 9223372036854775807) :
    Calls Tryd.prog 12 #[.int .i64 a, .int .i64 b, .int .i64 c] w fun e w' => e = .returned (.bool true) ∧ Below w.heap.size w w' := by
  go_enter Tryd.func12, Tryd.ntmps12
  go_wp2_with fail
  refine (md_any a b c 0 a0 a1 b0 b1 c0 c1 _).mono ?_
  rintro e w1 ⟨D, p, rfl, hD, hB1⟩
  have HD := Lib.hid hD
  have B1 := Lib.hid hB1
  clear hD hB1
  go_wp2_with fail
  refine (md_any a b c 1 a0 a1 b0 b1 c0 c1 _).mono ?_
  rintro e w2 ⟨F, q, rfl, hF, hB⟩
  have HF := Lib.hid hF
  have B2 := Lib.hid (below_mono B1.out hB (Nat.le_refl _))
  clear hF hB B1
  go_wp2_with fail
  refine (md_any a b c 2 a0 a1 b0 b1 c0 c1 _).mono ?_
  rintro e w3 ⟨H, r, rfl, hH, hB⟩
  have HH := Lib.hid hH
  have B3 := Lib.hid (below_mono B2.out hB (Nat.le_refl _))
  clear hH hB B2
  go_wp2_with fail
  refine (md_any a b c 3 a0 a1 b0 b1 c0 c1 _).mono ?_
  rintro e w4 ⟨E, t, rfl, hE, hB⟩
  have HE := Lib.hid hE
  have B4 := Lib.hid (below_mono B3.out hB (Nat.le_refl _))
  clear hE hB B3
  by_cases hall : p = true ∧ q = true ∧ r = true ∧ t = true
  · obtain ⟨rfl, rfl, rfl, rfl⟩ := hall
    obtain ⟨hc, hD, _, _⟩ := HD.out.rq_of
    obtain ⟨_, hF, F0, F1⟩ := HF.out.rq_of
    obtain ⟨_, hH, _, _⟩ := HH.out.rq_of
    obtain ⟨_, hE, _, _⟩ := HE.out.rq_of
    obtain ⟨z, k1, k0, k2, k3⟩ := rq_near (a * b) c hc
    rw [← hF] at k1
    rw [← hD] at k0
    rw [← hH] at k2
    rw [← hE] at k3
    have MN := min4 Tryd.prog D F H E z k0 k1 k2 k3
    obtain ⟨m, hm, hm2, MX⟩ := max4 Tryd.prog D F H E z k0 k1 k2 k3
    have tz : (F == z) = true := by rw [k1]; simp
    clear hD hF hH hE k0 k2 k3 HD HF HH HE hc hm2
    rcases hm with rfl | hm
    · subst k1
      have t1 : (F == F) = true := by simp
      go_wp2_with (go_at_call 22; (with_reducible refine (awake_any _).mono ?_); rintro e w5 ⟨rfl, hB5⟩; have B5 := Lib.hid (below_mono B4.out hB5 (Nat.le_refl _)); clear hB5)
      go_ret
      exact ⟨rfl, B5.out⟩
    · subst k1
      have t1 : (F == m) = false := by rw [beq_eq_false_iff_ne]; omega
      have t2 : m - 1 = F := by omega
      have t3 : IntKind.i64.wrap (m - 1) = F := by rw [IntKind.wrap_i64]; omega
      have t4 : (F == F) = true := by simp
      clear hm
      go_wp2_with (go_at_call 22; (with_reducible refine (awake_any _).mono ?_); rintro e w5 ⟨rfl, hB5⟩; have B5 := Lib.hid (below_mono B4.out hB5 (Nat.le_refl _)); clear hB5)
      go_ret
      exact ⟨rfl, B5.out⟩
  · clear HD HF HH HE
    cases p
    · go_wp2_with (go_at_call 22; (with_reducible refine (awake_any _).mono ?_); rintro e w5 ⟨rfl, hB5⟩; have B5 := Lib.hid (below_mono B4.out hB5 (Nat.le_refl _)); clear hB5)
      go_ret
      exact ⟨rfl, B5.out⟩
    · cases q
      · go_wp2_with (go_at_call 22; (with_reducible refine (awake_any _).mono ?_); rintro e w5 ⟨rfl, hB5⟩; have B5 := Lib.hid (below_mono B4.out hB5 (Nat.le_refl _)); clear hB5)
        go_ret
        exact ⟨rfl, B5.out⟩
      · cases r
        · go_wp2_with (go_at_call 22; (with_reducible refine (awake_any _).mono ?_); rintro e w5 ⟨rfl, hB5⟩; have B5 := Lib.hid (below_mono B4.out hB5 (Nat.le_refl _)); clear hB5)
          go_ret
          exact ⟨rfl, B5.out⟩
        · cases t
          · go_wp2_with (go_at_call 22; (with_reducible refine (awake_any _).mono ?_); rintro e w5 ⟨rfl, hB5⟩; have B5 := Lib.hid (below_mono B4.out hB5 (Nat.le_refl _)); clear hB5)
            go_ret
            exact ⟨rfl, B5.out⟩
          · exact absurd ⟨rfl, rfl, rfl, rfl⟩ hall
theorem numNear_walk (a b c : Int) (ha : (Lit.int .i64 a).wf = true) (hb : (Lit.int .i64 b).wf = true) (hc : (Lit.int .i64 c).wf = true) (w : World) :
    Calls Tryd.prog 12 #[.int .i64 a, .int .i64 b, .int .i64 c] w fun e w' => e = .returned (.bool true) ∧ Below w.heap.size w w' :=
  numNear_go a b c w (bounds_i64 ha).1 (bounds_i64 ha).2 (bounds_i64 hb).1 (bounds_i64 hb).2 (bounds_i64 hc).1 (bounds_i64 hc).2
end Go.Proofs.YtknahehmkjaelaaDoor
