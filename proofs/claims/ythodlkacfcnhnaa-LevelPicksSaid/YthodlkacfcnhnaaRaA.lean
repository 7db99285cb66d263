/- What the Go functions gcd, Gcd, inForm, both of package num answer. Conditions: those written at each theorem. -/
import Derived.Test.YthodlkacfcnhnaaNuS
import Derived.Test.YthodlkacfcnhnaaNuE
import Derived.WalkLawsBesides
import Derived.Deep.RegionHeld3
import Derived.StillTailTactics
namespace Go.Proofs.Ythodlkacfcnhnaa.Nu
open Go.RowKit Go.Sort
set_option linter.unusedSimpArgs false
set_option linter.unusedVariables false

theorem gcd_round (x y : Nat) : Nat.gcd y (x % y) = Nat.gcd x y := by
  rw [Nat.gcd_comm x y, Nat.gcd_rec y x, Nat.gcd_comm]
def GcdHead (w : World) (g : Nat) (u v : Value) (wr : World) : Prop := ∃ x y n : Nat, u = .int .u64 x ∧ v = .int .u64 y ∧ x < 18446744073709551616 ∧ y < 18446744073709551616 ∧ Hid (Nat.gcd x y = g) ∧ wr = w.drewN n
set_option maxHeartbeats 1000000 in
theorem gcd_any (a b : Nat) (ha : a < 18446744073709551616) (hb : b < 18446744073709551616) (w : World) :
    Calls Try.prog 75 #[.int .u64 a, .int .u64 b] w fun e w' => e = .returned (.int .u64 (Nat.gcd a b : Nat)) ∧ ∃ n, w' = w.drewN n := by
  obtain ⟨g, hg⟩ : ∃ g, g = Nat.gcd a b := ⟨_, rfl⟩
  rw [← hg]
  have HG := Lib.hid hg.symm
  clear hg
  go_enter Try.func75, Try.ntmps75
  go_wp2_with fail
  go_loopw [0, 1] (fun u v wr => GcdHead w g u v wr) (fun _ v _ => (intOf v).toNat)
  case atStart => exact ⟨a, b, 0, rfl, rfl, ha, hb, HG, rfl⟩
  case round =>
    obtain ⟨x, y, n, rfl, rfl, hx, hy, H, rfl⟩ := hrel
    clear HG ha hb
    by_cases h0 : y = 0
    · have HE : Hid (x = g) := Lib.hid (by rw [← H.out, h0, Nat.gcd_zero_right])
      subst h0
      clear hy
      go_wp2_with fail
      go_ret
      exact ⟨by rw [HE.out]; rfl, n, rfl⟩
    · have t1 : ((y : Int) == 0) = false := by rw [beq_eq_false_iff_ne]; omega
      have t2 : ¬ (y : Int) = 0 := by omega
      have t3 : (y = 0) = False := by simp; omega
      have HS : Hid (Nat.gcd y (x % y) = g) := Lib.hid (by rw [gcd_round]; exact H.out)
      have hm : x % y < y := Nat.mod_lt _ (by omega)
      have d1 : (x : Int) % (y : Int) = ((x % y : Nat) : Int) := by rw [Int.natCast_emod]
      obtain ⟨m, hmm⟩ : ∃ m, m = x % y := ⟨_, rfl⟩
      rw [← hmm] at HS hm d1
      clear hmm H h0
      go_wp2_with fail
      go_quiet (fail)
      go_wp2_with fail
      go_roundw
      case rel => exact ⟨y, m, _, rfl, by first | rfl | rw [d1], hy, by omega, HS, World.drewN_drewN _ _ _⟩
      case measure => simp [intOf]; omega
/-- A ratio in form. -/
structure Form (p c : Int) (g : Bool) (n d : Nat) : Prop where
  num : n = p.natAbs / Nat.gcd p.natAbs c.natAbs
  den : d = c.natAbs / Nat.gcd p.natAbs c.natAbs
  neg : g = ((decide (p < 0) != decide (c < 0)) && decide (p ≠ 0))
def GivesForm (p c : Int) (w : World) (e : Ending) (w' : World) : Prop := ∃ g n d ok, e = .returned (.tuple #[.agg #[.bool g, .int .u64 (n : Nat), .int .u64 (d : Nat)], .bool ok]) ∧ (ok = decide (c ≠ 0)) ∧ (c ≠ 0 → Form p c g n d) ∧ (c = 0 → g = false ∧ n = 0 ∧ d = 0) ∧ n < 18446744073709551616 ∧ d < 18446744073709551616 ∧ Below w.heap.size w w'
set_option maxHeartbeats 1000000 in
theorem form_no (p : Int) (w : World) : Calls Try.prog 68 #[.agg #[.int .i64 p, .int .i64 0]] w (GivesForm p 0 w) := by
  go_enter Try.func68, Try.ntmps68
  go_wp2_with fail
  refine bodyPost_ret (v := .tuple #[.agg #[.bool false, .int .u64 0, .int .u64 0], .bool false]) (by simp [results, Try.results68, go_sem]) rfl ⟨false, 0, 0, false, rfl, by simp, fun h => absurd rfl h, fun _ => ⟨rfl, rfl, rfl⟩, by omega, by omega, ?_⟩
  repeat' (first | exact Below.refl _ _ | exact Nat.le_refl _ | apply below_drewN | apply Below.drew | refine Below.setCell ?_ ?_ _ | apply Below.alloc | (simp; done))
set_option maxRecDepth 100000 in
set_option maxHeartbeats 4000000 in
theorem form_yes (p c : Int) (p0 : -9223372036854775808 ≤ p) (p1 : p ≤ 9223372036854775807) (c0 : -9223372036854775808 ≤ c) (c1 : c ≤ 9223372036854775807) (hc : c ≠ 0) (w : World) :
    Calls Try.prog 68 #[.agg #[.int .i64 p, .int .i64 c]] w (GivesForm p c w) := by
  obtain ⟨x, hx⟩ : ∃ x, x = p.natAbs := ⟨_, rfl⟩
  obtain ⟨y, hy⟩ : ∃ y, y = c.natAbs := ⟨_, rfl⟩
  obtain ⟨g, hg⟩ : ∃ g, g = Nat.gcd x y := ⟨_, rfl⟩
  have y0 : 0 < y := by omega
  have g0 : 0 < g := by rw [hg]; exact Nat.gcd_pos_of_pos_right x y0
  obtain ⟨n, hn⟩ : ∃ n, n = x / g := ⟨_, rfl⟩
  obtain ⟨d, hd⟩ : ∃ d, d = y / g := ⟨_, rfl⟩
  have nb : n < 18446744073709551616 := by rw [hn]; have := Nat.div_le_self x g; omega
  have db : d < 18446744073709551616 := by rw [hd]; have := Nat.div_le_self y g; omega
  have S1 := Lib.hid (fun W : World => (size_any p p0 p1 W).mono fun _ _ h => (⟨h.1, h.2.symm⟩ : _ ∧ _))
  have S2 := Lib.hid (fun W : World => (size_any c c0 c1 W).mono fun _ _ h => (⟨h.1, h.2.symm⟩ : _ ∧ _))
  rw [← hx] at S1
  rw [← hy] at S2
  have GG := Lib.hid (fun W : World => gcd_any x y (by omega) (by omega) W)
  rw [← hg] at GG
  have HE : Hid (∀ G w', G = ((decide (p < 0) != decide (c < 0)) && decide (p ≠ 0)) → Below w.heap.size w w' → GivesForm p c w (.returned (.tuple #[.agg #[.bool G, .int .u64 (n : Nat), .int .u64 (d : Nat)], .bool true])) w') := Lib.hid (fun G w' hG hB => ⟨G, n, d, true, rfl, by simp [hc], fun _ => ⟨by rw [hn, hg, hx, hy], by rw [hd, hg, hx, hy], hG⟩, fun h => absurd h hc, nb, db, hB⟩)
  have q1 : (x : Int) / (g : Int) = (n : Int) := by rw [hn, Int.natCast_ediv]
  have q2 : (y : Int) / (g : Int) = (d : Int) := by rw [hd, Int.natCast_ediv]
  have q3 : IntKind.u64.wrap (n : Int) = (n : Int) := by rw [IntKind.wrap_u64]; omega
  have q4 : IntKind.u64.wrap (d : Int) = (d : Int) := by rw [IntKind.wrap_u64]; omega
  have q5 : (g = 0) = False := by simp; omega
  have q6 : ((g : Int) == 0) = false := by simp; omega
  have q7 : ¬ (g : Int) = 0 := by omega
  have t0 : (c == 0) = false := by rw [beq_eq_false_iff_ne]; exact hc
  clear hx hy hg hn hd
  have hpp : p < 0 ∨ p = 0 ∨ 0 < p := by omega
  have hcc : c < 0 ∨ 0 < c := by omega
  rcases hpp with hp | hp | hp <;> rcases hcc with hcs | hcs
  · have u1 : (p < 0) = True := by simp; omega
    have u2 : (c < 0) = True := by simp; omega
    have u3 : (p == 0) = false := by simp; omega
    have u4 : (p != 0) = true := by simp; omega
    have HG : Hid (false = ((decide (p < 0) != decide (c < 0)) && decide (p ≠ 0))) := Lib.hid (by simp only [u1, u2]; simp; try omega)
    clear hp hcs hc
    go_enter Try.func68, Try.ntmps68
    go_wp2_with fail
    go_quiet ((go_at_call 74; first | (with_reducible exact Calls.quiet_of_same (S1.out _)) | (with_reducible exact Calls.quiet_of_same (S2.out _))))
    go_wp2_with fail
    refine (GG.out _).mono ?_
    rintro e w1 ⟨rfl, n1, rfl⟩
    go_wp2_with fail
    refine wp_region_still_tail 19 (by kernel_rfl) (by kernel_rfl) ?_
    simp only [List.take_succ_cons, List.take_zero, List.drop_succ_cons, List.drop_zero]
    rw [drew_fold]
    repeat still_step
    refine wpStill_nil ?_
    go_wp2_with fail
    refine bodyPost_ret (v := .tuple #[.agg #[.bool false, .int .u64 (n : Nat), .int .u64 (d : Nat)], .bool true]) (by simp [results, Try.results68, go_sem]) rfl (HE.out false _ HG.out ?_)
    repeat' (first | exact Below.refl _ _ | exact Nat.le_refl _ | apply below_drewN | apply Below.drew | refine Below.setCell ?_ ?_ _ | apply Below.alloc | (simp; done))
  · have u1 : (p < 0) = True := by simp; omega
    have u2 : (c < 0) = False := by simp; omega
    have u3 : (p == 0) = false := by simp; omega
    have u4 : (p != 0) = true := by simp; omega
    have HG : Hid (true = ((decide (p < 0) != decide (c < 0)) && decide (p ≠ 0))) := Lib.hid (by simp only [u1, u2]; simp; try omega)
    clear hp hcs hc
    go_enter Try.func68, Try.ntmps68
    go_wp2_with fail
    go_quiet ((go_at_call 74; first | (with_reducible exact Calls.quiet_of_same (S1.out _)) | (with_reducible exact Calls.quiet_of_same (S2.out _))))
    go_wp2_with fail
    refine (GG.out _).mono ?_
    rintro e w1 ⟨rfl, n1, rfl⟩
    go_wp2_with fail
    refine wp_region_still_tail 19 (by kernel_rfl) (by kernel_rfl) ?_
    simp only [List.take_succ_cons, List.take_zero, List.drop_succ_cons, List.drop_zero]
    rw [drew_fold]
    repeat still_step
    refine wpStill_nil ?_
    go_wp2_with fail
    refine bodyPost_ret (v := .tuple #[.agg #[.bool true, .int .u64 (n : Nat), .int .u64 (d : Nat)], .bool true]) (by simp [results, Try.results68, go_sem]) rfl (HE.out true _ HG.out ?_)
    repeat' (first | exact Below.refl _ _ | exact Nat.le_refl _ | apply below_drewN | apply Below.drew | refine Below.setCell ?_ ?_ _ | apply Below.alloc | (simp; done))
  · have u1 : (p < 0) = False := by simp; omega
    have u2 : (c < 0) = True := by simp; omega
    have u3 : (p == 0) = true := by simp; omega
    have u4 : (p != 0) = false := by simp; omega
    have HG : Hid (false = ((decide (p < 0) != decide (c < 0)) && decide (p ≠ 0))) := Lib.hid (by simp only [u1, u2]; simp; try omega)
    clear hp hcs hc
    go_enter Try.func68, Try.ntmps68
    go_wp2_with fail
    go_quiet ((go_at_call 74; first | (with_reducible exact Calls.quiet_of_same (S1.out _)) | (with_reducible exact Calls.quiet_of_same (S2.out _))))
    go_wp2_with fail
    refine (GG.out _).mono ?_
    rintro e w1 ⟨rfl, n1, rfl⟩
    go_wp2_with fail
    refine wp_region_still_tail 19 (by kernel_rfl) (by kernel_rfl) ?_
    simp only [List.take_succ_cons, List.take_zero, List.drop_succ_cons, List.drop_zero]
    rw [drew_fold]
    repeat still_step
    refine wpStill_nil ?_
    go_wp2_with fail
    refine bodyPost_ret (v := .tuple #[.agg #[.bool false, .int .u64 (n : Nat), .int .u64 (d : Nat)], .bool true]) (by simp [results, Try.results68, go_sem]) rfl (HE.out false _ HG.out ?_)
    repeat' (first | exact Below.refl _ _ | exact Nat.le_refl _ | apply below_drewN | apply Below.drew | refine Below.setCell ?_ ?_ _ | apply Below.alloc | (simp; done))
  · have u1 : (p < 0) = False := by simp; omega
    have u2 : (c < 0) = False := by simp; omega
    have u3 : (p == 0) = true := by simp; omega
    have u4 : (p != 0) = false := by simp; omega
    have HG : Hid (false = ((decide (p < 0) != decide (c < 0)) && decide (p ≠ 0))) := Lib.hid (by simp only [u1, u2]; simp; try omega)
    clear hp hcs hc
    go_enter Try.func68, Try.ntmps68
    go_wp2_with fail
    go_quiet ((go_at_call 74; first | (with_reducible exact Calls.quiet_of_same (S1.out _)) | (with_reducible exact Calls.quiet_of_same (S2.out _))))
    go_wp2_with fail
    refine (GG.out _).mono ?_
    rintro e w1 ⟨rfl, n1, rfl⟩
    go_wp2_with fail
    refine wp_region_still_tail 19 (by kernel_rfl) (by kernel_rfl) ?_
    simp only [List.take_succ_cons, List.take_zero, List.drop_succ_cons, List.drop_zero]
    rw [drew_fold]
    repeat still_step
    refine wpStill_nil ?_
    go_wp2_with fail
    refine bodyPost_ret (v := .tuple #[.agg #[.bool false, .int .u64 (n : Nat), .int .u64 (d : Nat)], .bool true]) (by simp [results, Try.results68, go_sem]) rfl (HE.out false _ HG.out ?_)
    repeat' (first | exact Below.refl _ _ | exact Nat.le_refl _ | apply below_drewN | apply Below.drew | refine Below.setCell ?_ ?_ _ | apply Below.alloc | (simp; done))
  · have u1 : (p < 0) = False := by simp; omega
    have u2 : (c < 0) = True := by simp; omega
    have u3 : (p == 0) = false := by simp; omega
    have u4 : (p != 0) = true := by simp; omega
    have HG : Hid (true = ((decide (p < 0) != decide (c < 0)) && decide (p ≠ 0))) := Lib.hid (by simp only [u1, u2]; simp; try omega)
    clear hp hcs hc
    go_enter Try.func68, Try.ntmps68
    go_wp2_with fail
    go_quiet ((go_at_call 74; first | (with_reducible exact Calls.quiet_of_same (S1.out _)) | (with_reducible exact Calls.quiet_of_same (S2.out _))))
    go_wp2_with fail
    refine (GG.out _).mono ?_
    rintro e w1 ⟨rfl, n1, rfl⟩
    go_wp2_with fail
    refine wp_region_still_tail 19 (by kernel_rfl) (by kernel_rfl) ?_
    simp only [List.take_succ_cons, List.take_zero, List.drop_succ_cons, List.drop_zero]
    rw [drew_fold]
    repeat still_step
    refine wpStill_nil ?_
    go_wp2_with fail
    refine bodyPost_ret (v := .tuple #[.agg #[.bool true, .int .u64 (n : Nat), .int .u64 (d : Nat)], .bool true]) (by simp [results, Try.results68, go_sem]) rfl (HE.out true _ HG.out ?_)
    repeat' (first | exact Below.refl _ _ | exact Nat.le_refl _ | apply below_drewN | apply Below.drew | refine Below.setCell ?_ ?_ _ | apply Below.alloc | (simp; done))
  · have u1 : (p < 0) = False := by simp; omega
    have u2 : (c < 0) = False := by simp; omega
    have u3 : (p == 0) = false := by simp; omega
    have u4 : (p != 0) = true := by simp; omega
    have HG : Hid (false = ((decide (p < 0) != decide (c < 0)) && decide (p ≠ 0))) := Lib.hid (by simp only [u1, u2]; simp; try omega)
    clear hp hcs hc
    go_enter Try.func68, Try.ntmps68
    go_wp2_with fail
    go_quiet ((go_at_call 74; first | (with_reducible exact Calls.quiet_of_same (S1.out _)) | (with_reducible exact Calls.quiet_of_same (S2.out _))))
    go_wp2_with fail
    refine (GG.out _).mono ?_
    rintro e w1 ⟨rfl, n1, rfl⟩
    go_wp2_with fail
    refine wp_region_still_tail 19 (by kernel_rfl) (by kernel_rfl) ?_
    simp only [List.take_succ_cons, List.take_zero, List.drop_succ_cons, List.drop_zero]
    rw [drew_fold]
    repeat still_step
    refine wpStill_nil ?_
    go_wp2_with fail
    refine bodyPost_ret (v := .tuple #[.agg #[.bool false, .int .u64 (n : Nat), .int .u64 (d : Nat)], .bool true]) (by simp [results, Try.results68, go_sem]) rfl (HE.out false _ HG.out ?_)
    repeat' (first | exact Below.refl _ _ | exact Nat.le_refl _ | apply below_drewN | apply Below.drew | refine Below.setCell ?_ ?_ _ | apply Below.alloc | (simp; done))
theorem form_any (p c : Int) (p0 : -9223372036854775808 ≤ p) (p1 : p ≤ 9223372036854775807) (c0 : -9223372036854775808 ≤ c) (c1 : c ≤ 9223372036854775807) (w : World) :
    Calls Try.prog 68 #[.agg #[.int .i64 p, .int .i64 c]] w (GivesForm p c w) := by
  by_cases hc : c = 0
  · subst hc; exact form_no p w
  · exact form_yes p c p0 p1 c0 c1 hc w
end Go.Proofs.Ythodlkacfcnhnaa.Nu
