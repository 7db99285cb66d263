/- Trees: the program's Simple of any term; earlier nodes; nodes and depth as they are told. Conditions: those written at each theorem. -/
import Derived.Test.YthhimllddgfddaaTrK
namespace Go.Proofs.Ythhimllddgfddaa
open Go.RowKit Go.PlainAid
set_option linter.unusedVariables false
set_option linter.unusedSimpArgs false
/-- A right term made simple; another one as it is. -/
def Tr.smp (x : Tr) : Tr := if x.rgt = true then x.sim else x
theorem rgt_blt {x : Tr} (h : x.rgt = true) : x.blt = true := by
  unfold Tr.rgt at h
  exact (Bool.and_eq_true_iff.1 h).2
/-- A node ahead of a place. -/
def earl (k : Int) (n : Nat) : Nat := n - 1 - (IntKind.u64.wrap k).toNat % n
theorem earl_lt {k : Int} {n : Nat} (h : 0 < n) : earl k n < n := by unfold earl; omega
set_option maxRecDepth 100000 in
set_option maxHeartbeats 4000000 in
theorem earlier_any (k : Int) (n : Nat) (hn : n ≤ 1000) (w : World) : Calls Try.prog 29 #[.int .i64 k, .int .i64 n] w fun e w' => e = .returned (.int .i64 (if n = 0 then -1 else (earl k n : Int))) ∧ w' = w := by
  rcases Nat.eq_zero_or_pos n with rfl | hp
  · go_enter Try.func29, Try.ntmps29
    go_wp2_with fail
    go_ret
    exact ⟨rfl, rfl⟩
  · obtain ⟨N, hN⟩ : ∃ v : Int, v = (n : Int) := ⟨_, rfl⟩
    have hlt := earl_lt (k := k) hp
    have hu := IntKind.wrap_u64 k
    obtain ⟨U, hU⟩ : ∃ v : Int, v = IntKind.u64.wrap k := ⟨_, rfl⟩
    have hU0 : 0 ≤ U ∧ U < 18446744073709551616 := by rw [hU, hu]; omega
    obtain ⟨R, hR⟩ : ∃ v : Int, v = U % N := ⟨_, rfl⟩
    have hR0 : 0 ≤ R ∧ R < N := by rw [hR]; exact ⟨Int.emod_nonneg _ (by omega), Int.emod_lt_of_pos _ (by omega)⟩
    have hE : (earl k n : Int) = N - 1 - R := by
      unfold earl
      rw [← hU]
      have : ((U.toNat % n : Nat) : Int) = R := by rw [hR, hN, Int.natCast_emod, Int.toNat_of_nonneg hU0.1]
      omega
    have w1 : IntKind.i64.wrap (N - 1) = N - 1 := IntWalk.i64_in _ (by omega)
    have w2 : IntKind.u64.wrap N = N := by rw [IntKind.wrap_u64]; omega
    have w3 : IntKind.u64.wrap R = R := by rw [IntKind.wrap_u64]; omega
    have w4 : IntKind.i64.wrap R = R := IntWalk.i64_in _ (by omega)
    have w5 : IntKind.i64.wrap (N - 1 - R) = N - 1 - R := IntWalk.i64_in _ (by omega)
    have wU : IntKind.u64.wrap k = U := hU.symm
    have rT : Int.tmod U N = R := by rw [hR]; exact Int.tmod_eq_emod_of_nonneg hU0.1
    have n0 : (N == 0) = false := by simp; omega
    have n1 : ¬ N = 0 := by omega
    have HR : Hid ((if n = 0 then (-1 : Int) else (earl k n : Int)) = N - 1 - R) := Lib.hid (by rw [if_neg (by omega), hE])
    rw [← hN, HR.out]
    clear hU hR hN hE hu hlt hp
    go_enter Try.func29, Try.ntmps29
    go_wp2_with fail
    go_ret
    exact ⟨rfl, rfl⟩
set_option maxRecDepth 100000 in
set_option maxHeartbeats 4000000 in
theorem rtold_any (n d : Nat) (w : World) : Calls Try.prog 30 #[.int .i64 n, .int .i64 d] w fun e w' => e = .returned (.tuple #[.int .i64 (if 1000 ≤ n ∨ 1000 ≤ d then 1000 else n : Nat), .int .i64 (if 1000 ≤ n ∨ 1000 ≤ d then 1000 else d : Nat)]) ∧ w' = w := by
  by_cases h1 : 1000 ≤ n
  · have e1 : (1000 : Int) ≤ (n : Int) := by omega
    go_enter Try.func30, Try.ntmps30
    go_wp2_with fail
    go_ret2
    exact ⟨by simp [h1], rfl⟩
  · have e1 : ((1000 : Int) ≤ (n : Int)) = False := by simp; omega
    have e1b : decide ((1000 : Int) ≤ (n : Int)) = false := by simp; omega
    have e1c : (1000 ≤ n) = False := by simp; omega
    by_cases h2 : 1000 ≤ d
    · have e2 : (1000 : Int) ≤ (d : Int) := by omega
      go_enter Try.func30, Try.ntmps30
      go_wp2_with fail
      go_ret2
      exact ⟨by simp [h2], rfl⟩
    · have e2 : ((1000 : Int) ≤ (d : Int)) = False := by simp; omega
      have e2c : (1000 ≤ d) = False := by simp; omega
      go_enter Try.func30, Try.ntmps30
      go_wp2_with fail
      go_ret2
      exact ⟨by simp [h1, h2], rfl⟩
end Go.Proofs.Ythhimllddgfddaa
