/- What the document's own answer Months of layer 2 is, as a contract over plain mathematics. Conditions: those written at each theorem. -/
import Derived.Test.YtknahehmkjaelabDateRe2
namespace Go.Proofs.Ytknahehmkjaelab
open Go.RowKit
set_option linter.unusedSimpArgs false

theorem rmonths_no (n k : Int) (h : n < 0 ∨ 2932896 < n) (w : World) :
    Calls Try.prog 12 #[.int .i64 n, .int .i64 k] w fun e w' => e = .returned (.int .i64 (-1)) ∧ Below w.heap.size w w' := by
  go_enter Try.func12, Try.ntmps12
  go_wp2_with (go_at_call 29; refine (rcivil_no n h _).mono ?_; rintro e w' ⟨rfl, rfl⟩)
  go_ret
  exact ⟨rfl, Below.refl _ _⟩
theorem rmonths_far (n k y m d : Int) (hi : Cal.Is n y m d) (h : k < -200000 ∨ 200000 < k) (w : World) :
    Calls Try.prog 12 #[.int .i64 n, .int .i64 k] w fun e w' => e = .returned (.int .i64 (-1)) ∧ Below w.heap.size w w' := by
  have HI := Lib.hid hi
  have hy0 : (y == 0) = false := by have := hi.1; simp; omega
  clear hi
  by_cases h2 : 200000 < k
  · clear h
    go_enter Try.func12, Try.ntmps12
    go_wp2_with (go_at_call 29; refine (rcivil_is n y m d HI.out _).mono ?_; rintro e w' ⟨rfl, hB⟩)
    go_ret
    exact ⟨rfl, hB⟩
  · have h1 : k < -200000 := by omega
    clear h
    go_enter Try.func12, Try.ntmps12
    go_wp2_with (go_at_call 29; refine (rcivil_is n y m d HI.out _).mono ?_; rintro e w' ⟨rfl, hB⟩)
    go_ret
    exact ⟨rfl, hB⟩

set_option maxHeartbeats 2000000 in
theorem rmonths_mid (n k y m d z o D R : Int) (hi : Cal.Is n y m d) (h1 : -200000 ≤ k) (h2 : k ≤ 200000) (hz : (12 * y + m - 1 + k) / 12 = z) (ho : (12 * y + m - 1 + k) % 12 + 1 = o)
    (hD : (if Cal.dim z o < d then Cal.dim z o else d) = D)
    (hO : ∀ w : World, Calls Try.prog 31 #[.int .i64 z, .int .i64 o, .int .i64 D] w fun e w' => e = .returned (.int .i64 R) ∧ Below w.heap.size w w') (w : World) :
    Calls Try.prog 12 #[.int .i64 n, .int .i64 k] w fun e w' => e = .returned (.int .i64 R) ∧ Below w.heap.size w w' := by
  have hi' := hi
  obtain ⟨y1, y2, m1, m2, d1, d2, _⟩ := hi'
  have hd31 := Cal.dim_hi y m
  have HI := Lib.hid hi
  have hy0 : (y == 0) = false := by simp; omega
  have HO := Lib.hid hO
  have HD := Lib.hid hD
  have HZ := Lib.hid hz
  have HQ := Lib.hid ho
  clear hi hO hD hz ho
  obtain ⟨K, hK⟩ : ∃ K : Int, K = if 0 ≤ k then k else 0 := ⟨_, rfl⟩
  have hK1 : 0 ≤ K ∧ K ≤ 200000 ∧ (0 ≤ k → K = k) ∧ (k < 0 → K = 0) := by rw [hK]; split <;> omega
  obtain ⟨k0, k1, k2, k3⟩ := hK1
  have K2 := Lib.hid k2
  have K3 := Lib.hid k3
  clear hK k2 k3
  go_enter Try.func12, Try.ntmps12
  go_wp2_with (go_at_call 29; refine (rcivil_is n y m d HI.out _).mono ?_; rintro e wr ⟨rfl, hB⟩)
  have HB := Lib.hid hB
  clear hB
  go_loop [5, 6, 8] (fun a b c => ∃ x p j : Int, 0 ≤ j ∧ j ≤ K ∧ 1 ≤ p ∧ p ≤ 12 ∧ 12 * x + p = 12 * y + m + j ∧ a = .int .i64 x ∧ b = .int .i64 p ∧ c = .int .i64 j) (fun _ _ c => (K - intOf c).toNat)
  case atStart => exact ⟨y, m, 0, by omega, k0, m1, m2, by omega, rfl, rfl, rfl⟩
  case round =>
    obtain ⟨x, p, j, j0, j1, p1, p2, hxp, rfl, rfl, rfl⟩ := hrel
    have HX := Lib.hid hxp
    have x1 : x ≤ 30000 := by omega
    have x2 : -30000 ≤ x := by omega
    clear hxp
    by_cases hj : j < k
    · have hjK : j < K := by have := K2.out (by omega); omega
      by_cases hp : p = 12
      · subst hp
        go_wp2_with fail
        go_round
        case rel => exact ⟨x + 1, 1, j + 1, by omega, by omega, by omega, by omega, by have := HX.out; omega, rfl, rfl, rfl⟩
        case measure => simp [intOf]; omega
      · have hp13 : (p + 1 == 13) = false := by simp; omega
        go_wp2_with fail
        go_round
        case rel => exact ⟨x, p + 1, j + 1, by omega, by omega, by omega, by omega, by have := HX.out; omega, rfl, rfl, rfl⟩
        case measure => simp [intOf]; omega
    · have hjk : j = K := by
        rcases Int.lt_or_le k 0 with h | h
        · have := K3.out h; omega
        · have := K2.out h; omega
      have hJ := Lib.hid hjk
      clear hjk
      go_wp2_with fail
      go_loop [5, 6, 9] (fun a b c => ∃ x p i : Int, i ≤ 0 ∧ (k ≤ i ∨ 0 ≤ k) ∧ (0 ≤ k → i = 0) ∧ 1 ≤ p ∧ p ≤ 12 ∧ 12 * x + p = 12 * y + m + K + i ∧ a = .int .i64 x ∧ b = .int .i64 p ∧ c = .int .i64 i) (fun _ _ c => (intOf c - k).toNat)
      case atStart => exact ⟨x, p, 0, by omega, by omega, by omega, p1, p2, by have := HX.out; have := hJ.out; omega, rfl, rfl, rfl⟩
      case round =>
        obtain ⟨x', p', i, i0, i1, i2, q1, q2, hxp', rfl, rfl, rfl⟩ := hrel
        have HX' := Lib.hid hxp'
        have x1' : x' ≤ 30000 := by omega
        have x2' : -30000 ≤ x' := by omega
        have I2 := Lib.hid i2
        clear hxp' i2
        by_cases hik : k < i
        · have hk0 : k < 0 := by omega
          by_cases hp : p' = 1
          · subst hp
            go_wp2_with fail
            go_round
            case rel => exact ⟨x' - 1, 12, i - 1, by omega, by omega, by omega, by omega, by omega, by have := HX'.out; omega, rfl, rfl, rfl⟩
            case measure => simp [intOf]; omega
          · have hp0 : (p' - 1 == 0) = false := by simp; omega
            go_wp2_with fail
            go_round
            case rel => exact ⟨x', p' - 1, i - 1, by omega, by omega, by omega, by omega, by omega, by have := HX'.out; omega, rfl, rfl, rfl⟩
            case measure => simp [intOf]; omega
        · have hsum : K + i = k := by
            rcases Int.lt_or_le k 0 with h | h
            · have := K3.out h; omega
            · have := K2.out h; have := I2.out h; omega
          have hxz : x' = z ∧ p' = o := by
            have a1 := HX'.out
            have a2 := HZ.out
            have a3 := HQ.out
            constructor <;> omega
          obtain ⟨rfl, rfl⟩ := hxz
          clear hsum
          by_cases hd : Cal.dim x' p' < d
          · have eD : D = Cal.dim x' p' := by rw [← HD.out, if_pos hd]
            subst eD
            go_wp2_with fail
            refine (rdays_any _ _ _).mono ?_
            rintro e w3 ⟨rfl, hB3⟩
            have HB3 := Lib.hid (below_mono HB.out hB3 (Nat.le_refl _))
            clear hB3
            go_wp2_with fail
            refine (rdays_any _ _ _).mono ?_
            rintro e w4 ⟨rfl, hB4⟩
            have HB4 := Lib.hid (below_mono HB3.out hB4 (Nat.le_refl _))
            clear hB4
            go_wp2_with fail
            refine (HO.out _).mono ?_
            rintro e w5 ⟨rfl, hB5⟩
            have HB5 := Lib.hid (below_mono HB4.out hB5 (Nat.le_refl _))
            clear hB5
            go_wp2_with fail
            go_ret
            exact ⟨rfl, HB5.out⟩
          · have eD : D = d := by rw [← HD.out, if_neg hd]
            subst eD
            go_wp2_with fail
            refine (rdays_any _ _ _).mono ?_
            rintro e w3 ⟨rfl, hB3⟩
            have HB3 := Lib.hid (below_mono HB.out hB3 (Nat.le_refl _))
            clear hB3
            go_wp2_with fail
            refine (HO.out _).mono ?_
            rintro e w5 ⟨rfl, hB5⟩
            have HB5 := Lib.hid (below_mono HB3.out hB5 (Nat.le_refl _))
            clear hB5
            go_wp2_with fail
            go_ret
            exact ⟨rfl, HB5.out⟩
end Go.Proofs.Ytknahehmkjaelab
