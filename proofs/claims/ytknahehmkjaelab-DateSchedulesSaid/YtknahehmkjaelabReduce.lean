/- What the Go functions size, gcd, signed, inForm, ratio, Reduce of package num answer at numbers that are not negative. Conditions: those written at each theorem. -/
import Derived.Test.YtknahehmkjaelabHelp
import Derived.WalkKit
import Derived.Lib.Hide
import Derived.BigQuiet
import Derived.Deep.QuietTactic
import Derived.Deep.RegionWith
import Derived.Deep.RegionHeld3
import Derived.WalkLawsBesides
import Derived.WalkSpells
import Derived.Handy
import Derived.StillTailTactics
namespace Go.Proofs.Ytknahehmkjaelab
open Go.RowKit
set_option linter.unusedSimpArgs false

theorem size_pos (n : Int) (h : 0 ≤ n) (h' : n ≤ 4611686018427387904) (w : World) :
    Calls Try.prog 67 #[.int .i64 n] w fun e w' => e = .returned (.int .u64 n) ∧ w = w' := by
  go_enter Try.func67, Try.ntmps67
  go_wp2
  go_ret
  exact ⟨rfl, rfl⟩

theorem signed_pos (n : Int) (h : 0 ≤ n) (h' : n ≤ 4611686018427387904) (w : World) :
    Calls Try.prog 69 #[.bool false, .int .u64 n] w fun e w' => e = .returned (.tuple #[.int .i64 n, .bool true]) ∧ w = w' := by
  go_enter Try.func69, Try.ntmps69
  go_wp2
  all_goals go_ret2
  all_goals exact ⟨rfl, rfl⟩

theorem gcd_pos (a b : Nat) (ha : a ≤ 4611686018427387904) (hb : b ≤ 4611686018427387904) (w : World) :
    Calls Try.prog 68 #[.int .u64 a, .int .u64 b] w fun e w' => e = .returned (.int .u64 (Nat.gcd a b)) ∧ ∃ n, w' = w.drewN n := by
  go_enter Try.func68, Try.ntmps68
  go_wp2_with fail
  go_loopw [0, 1] (fun s t wr => ∃ x y : Nat, x ≤ 4611686018427387904 ∧ y ≤ 4611686018427387904 ∧ s = .int .u64 x ∧ t = .int .u64 y ∧ Nat.gcd x y = Nat.gcd a b ∧ ∃ n, wr = w.drewN n) (fun _ t _ => (intOf t).toNat)
  case atStart => exact ⟨a, b, ha, hb, rfl, rfl, rfl, 0, rfl⟩
  case round =>
    obtain ⟨x, y, hx, hy, rfl, rfl, hg, n, rfl⟩ := hrel
    have HG := Lib.hid hg
    clear hg
    by_cases h0 : y = 0
    · subst h0
      go_wp2_with fail
      go_ret
      have hg := HG.out
      rw [Nat.gcd_zero_right] at hg
      exact ⟨by rw [hg]; rfl, n, rfl⟩
    · have hy1 : 1 ≤ y := by omega
      have hne : ((y : Int) == 0) = false := by simp; omega
      have hne' : ((y : Int) != 0) = true := by simp; omega
      clear h0
      go_wp2_with fail
      go_quiet (fail)
      go_wp2_with fail
      go_roundw
      case rel => exact ⟨y, x % y, hy, by have := Nat.mod_lt x hy1; omega, rfl, rfl, by rw [← HG.out, Nat.gcd_comm x y, Nat.gcd_rec y x, Nat.gcd_comm], _, World.drewN_drewN _ _ _⟩
      case measure => simp only [intOf]; have := Nat.mod_lt x hy1; simp; omega

set_option maxRecDepth 100000 in
set_option maxHeartbeats 1000000 in
theorem inForm_pos (a b : Nat) (ha : a ≤ 4611686018427387904) (hb : b ≤ 4611686018427387904) (h1 : 1 ≤ b) (w : World) :
    Calls Try.prog 55 #[.agg #[.int .i64 a, .int .i64 b]] w fun e w' => e = .returned (.tuple #[.agg #[.bool false, .int .u64 ((a : Int) / Nat.gcd a b), .int .u64 ((b : Int) / Nat.gcd a b)], .bool true]) ∧ Below w.heap.size w w' := by
  have hne : ((b : Int) == 0) = false := by simp; omega
  have hg : 1 ≤ Nat.gcd a b := Nat.gcd_pos_of_pos_right a h1
  have hgl : Nat.gcd a b ≤ b := Nat.gcd_le_right a h1
  have hgn : ((Nat.gcd a b : Int) == 0) = false := by simp; omega
  have p1 : ((a : Int) < 0) = False := by simp
  have p2 : ((b : Int) < 0) = False := by simp
  generalize hG : Nat.gcd a b = G at *
  have p3 : (G = 0) = False := by simp; omega
  have qa : IntKind.u64.wrap ((a : Int) / G) = (a : Int) / G := by
    rw [← Int.natCast_ediv, IntKind.wrap_u64]
    have := Nat.div_le_self a G
    generalize a / G = t at *
    omega
  have qb : IntKind.u64.wrap ((b : Int) / G) = (b : Int) / G := by
    rw [← Int.natCast_ediv, IntKind.wrap_u64]
    have := Nat.div_le_self b G
    generalize b / G = t at *
    omega
  have HG := Lib.hid hG
  clear hG
  go_enter Try.func55, Try.ntmps55
  go_wp2_with fail
  go_quiet ((go_at_call 67; exact Calls.quiet_of_same ((size_pos _ (by omega) (by omega) _).mono fun _ _ h => ⟨h.1, h.2.symm⟩)))
  go_wp2_with fail
  refine ((gcd_pos a b ha hb _).mono ?_)
  rintro e w1 ⟨rfl, n1, rfl⟩
  rw [HG.out]
  go_wp2_with fail
  refine wp_region_still_tail 19 (by kernel_rfl) (by kernel_rfl) ?_
  simp only [List.take_succ_cons, List.take_zero, List.drop_succ_cons, List.drop_zero]
  rw [drew_fold]
  repeat still_step
  refine wpStill_nil ?_
  go_wp2_with fail
  refine bodyPost_ret (v := .tuple #[.agg #[.bool false, .int .u64 ((a : Int) / G), .int .u64 ((b : Int) / G)], .bool true]) (by simp [results, Try.results55, go_sem]) rfl ⟨rfl, ?_⟩
  repeat' (first | exact Below.refl _ _ | exact Nat.le_refl _ | apply below_drewN | apply Below.drew | refine Below.setCell ?_ ?_ _ | apply Below.alloc | (simp; done))

set_option maxRecDepth 100000 in
set_option maxHeartbeats 1000000 in
theorem ratio_pos (n d : Int) (hn : 0 ≤ n) (hn' : n ≤ 4611686018427387904) (hd : 0 ≤ d) (hd' : d ≤ 4611686018427387904) (w : World) :
    Calls Try.prog 56 #[.agg #[.bool false, .int .u64 n, .int .u64 d]] w fun e w' => e = .returned (.tuple #[.agg #[.int .i64 n, .int .i64 d], .bool true]) ∧ Below w.heap.size w w' := by
  go_enter Try.func56, Try.ntmps56
  go_wp2_with (go_at_call 69; refine (signed_pos _ (by omega) (by omega) _).mono ?_; rintro e w' ⟨rfl, rfl⟩)
  refine bodyPost_ret (v := .tuple #[.agg #[.int .i64 n, .int .i64 d], .bool true]) (by simp [results, Try.results56, go_sem]) rfl ⟨rfl, ?_⟩
  repeat' (first | exact Below.refl _ _ | exact Nat.le_refl _ | apply below_drewN | apply Below.drew | refine Below.setCell ?_ ?_ _ | apply Below.alloc | (simp; done))

set_option maxRecDepth 100000 in
set_option maxHeartbeats 1000000 in
theorem reduce_pos (a b : Nat) (ha : a ≤ 4611686018427387904) (hb : b ≤ 4611686018427387904) (h1 : 1 ≤ b) (w : World) :
    Calls Try.prog 38 #[.agg #[.int .i64 a, .int .i64 b]] w fun e w' => e = .returned (.tuple #[.agg #[.int .i64 ((a : Int) / Nat.gcd a b), .int .i64 ((b : Int) / Nat.gcd a b)], .bool true]) ∧ Below w.heap.size w w' := by
  have da : 0 ≤ (a : Int) / Nat.gcd a b := Int.ediv_nonneg (by omega) (by omega)
  have da' : (a : Int) / Nat.gcd a b ≤ 4611686018427387904 := by
    rw [← Int.natCast_ediv]; have := Nat.div_le_self a (Nat.gcd a b); omega
  have db : 0 ≤ (b : Int) / Nat.gcd a b := Int.ediv_nonneg (by omega) (by omega)
  have db' : (b : Int) / Nat.gcd a b ≤ 4611686018427387904 := by
    rw [← Int.natCast_ediv]; have := Nat.div_le_self b (Nat.gcd a b); omega
  go_enter Try.func38, Try.ntmps38
  go_wp2_with fail
  refine (inForm_pos a b ha hb h1 _).mono ?_
  rintro e w1 ⟨rfl, hB1⟩
  generalize hgx : (a : Int) / Nat.gcd a b = x at *
  generalize hgy : (b : Int) / Nat.gcd a b = y at *
  have HX := Lib.hid hgx
  have HY := Lib.hid hgy
  clear hgx hgy
  have hz1 : w.heap.size + 1 < w1.heap.size := by have := hB1.size; simp at this; omega
  have HB1 := Lib.hid hB1
  obtain ⟨hc1, hf1⟩ := bcell hB1
  clear hB1
  go_wp2_with fail
  refine (ratio_pos x y da da' db db' _).mono ?_
  rintro e w2 ⟨rfl, hB2⟩
  have hz2 : w1.heap.size < w2.heap.size := by have := hB2.size; simp at this; omega
  have HB2 := Lib.hid hB2
  obtain ⟨hc2, hf2⟩ := bcell hB2
  clear hB2
  have c0 : w2.cell? ⟨w.heap.size + 1, 0, none⟩ = some (.int .i64 0) := by
    rw [hc2 _ _ (by simp; omega), World.cell?_alloc_lt _ _ _ (by simp; omega), hc1 _ _ (by simp)]; simp
  have c1 : w2.cell? ⟨w.heap.size + 1, 1, none⟩ = some (.int .i64 0) := by
    rw [hc2 _ _ (by simp; omega), World.cell?_alloc_lt _ _ _ (by simp; omega), hc1 _ _ (by simp)]; simp
  have f0 : w2.frozen? ⟨w.heap.size + 1, 0, none⟩ = false := by
    rw [hf2 _ _ (by simp; omega), World.frozen?_alloc_past _ _ _ (by omega), hf1 _ _ (by simp)]; simp
  have f1 : w2.frozen? ⟨w.heap.size + 1, 1, none⟩ = false := by
    rw [hf2 _ _ (by simp; omega), World.frozen?_alloc_past _ _ _ (by omega), hf1 _ _ (by simp)]; simp
  clear hc1 hf1 hc2 hf2
  go_wp2_with fail
  have hx := HB1.out
  have hy := HB2.out
  refine bodyPost_ret (v := .tuple #[.agg #[.int .i64 x, .int .i64 y], .bool true]) (by simp [results, Try.results38, go_sem, c0, c1, f0, f1]) rfl ⟨by rw [HX.out, HY.out], ?_⟩
  have b0 : Below w.heap.size w ((w.alloc (.cells #[.int .i64 a, .int .i64 b] 34)).alloc (.cells #[.int .i64 0, .int .i64 0] 34)) := ((Below.refl _ _).alloc (Nat.le_refl _) _).alloc (by simp) _
  have b1 := below_mono b0 hx (Nat.le_refl _)
  have b2 := below_mono (b1.alloc b1.size (.cells #[.bool false, .int .u64 x, .int .u64 y] 79)) hy (Nat.le_refl _)
  exact (b2.setCell (p := ⟨w.heap.size + 1, 0, none⟩) (by simp) _).setCell (p := ⟨w.heap.size + 1, 1, none⟩) (by simp) _
end Go.Proofs.Ytknahehmkjaelab
