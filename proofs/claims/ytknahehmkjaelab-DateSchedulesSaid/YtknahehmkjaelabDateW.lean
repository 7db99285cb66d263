/- The document's examples of layer 2: the Go function awake answers true. No conditions. -/
import Derived.Test.YtknahehmkjaelabDateB
import Derived.Test.YtknahehmkjaelabDatePr
import Derived.Test.YtknahehmkjaelabReduce
namespace Go.Proofs.Ytknahehmkjaelab
open Go.RowKit
set_option linter.unusedSimpArgs false

def th (y m d : Int) : Int := 360 * y + 30 * m + (if 30 < d then 30 else d)

theorem thirty_is (n y m d : Int) (hi : Cal.Is n y m d) (w : World) :
    Calls Try.prog 37 #[.int .i64 n] w fun e w' => e = .returned (.int .i64 (th y m d)) ∧ w = w' := by
  have HI := Lib.hid hi
  have hd31 := Cal.dim_hi y m
  obtain ⟨y1, y2, m1, m2, d1, d2, _⟩ := hi
  by_cases h : 30 < d
  · go_enter Try.func37, Try.ntmps37
    go_wp2_with (go_at_call 23; refine (civil_is n y m d HI.out _).mono ?_; rintro e w' ⟨rfl, rfl⟩)
    go_ret
    exact ⟨ret_int (by unfold th; split <;> omega), rfl⟩
  · go_enter Try.func37, Try.ntmps37
    go_wp2_with (go_at_call 23; refine (civil_is n y m d HI.out _).mono ?_; rintro e w' ⟨rfl, rfl⟩)
    go_ret
    exact ⟨ret_int (by unfold th; split <;> omega), rfl⟩

theorem reduce_360 (a : Nat) (ha : a ≤ 1000000000) (w : World) :
    Calls Try.prog 38 #[.agg #[.int .i64 a, .int .i64 360]] w fun e w' => e = .returned (.tuple #[.agg #[.int .i64 ((a : Int) / Nat.gcd a 360), .int .i64 ((360 : Int) / Nat.gcd a 360)], .bool true]) ∧ Below w.heap.size w w' :=
  reduce_pos a 360 (by omega) (by omega) (by omega) w

set_option maxRecDepth 100000 in
set_option maxHeartbeats 1000000 in
theorem years_thirty (a b y m d z k e : Int) (ha : Cal.Is a y m d) (hb : Cal.Is b z k e) (N : Nat) (hN : (N : Int) = th z k e - th y m d) (hN' : N ≤ 1000000000) (w : World) :
    Calls Try.prog 18 #[.int .i64 a, .int .i64 b, .int .i64 2] w fun e w' => e = .returned (.tuple #[.agg #[.int .i64 ((N : Int) / Nat.gcd N 360), .int .i64 ((360 : Int) / Nat.gcd N 360)], .bool true]) ∧ Below w.heap.size w w' := by
  have ra := ha.range
  have rb := hb.range
  have na := noneB_false ra.1 ra.2
  have nb := noneB_false rb.1 rb.2
  have t1 : 0 ≤ th y m d ∧ th y m d ≤ 4000000 := by
    have := Cal.dim_hi y m
    obtain ⟨y1, y2, m1, m2, d1, d2, _⟩ := ha
    unfold th; split <;> omega
  have t2 : 0 ≤ th z k e ∧ th z k e ≤ 4000000 := by
    have := Cal.dim_hi z k
    obtain ⟨y1, y2, m1, m2, d1, d2, _⟩ := hb
    unfold th; split <;> omega
  have HA := Lib.hid ha
  have HB := Lib.hid hb
  have HN := Lib.hid hN
  clear ha hb hN
  go_enter Try.func18, Try.ntmps18
  go_wp2_with (first | (go_at_call 35; refine (none_any _ _).mono ?_; rintro e w' ⟨rfl, rfl⟩) | (go_at_call 37; first | ((with_reducible refine (thirty_is a y m d HA.out _).mono ?_); rintro e w' ⟨rfl, rfl⟩) | ((with_reducible refine (thirty_is b z k e HB.out _).mono ?_); rintro e w' ⟨rfl, rfl⟩)))
  rw [← HN.out]
  refine (reduce_360 N hN' _).mono ?_
  rintro e1 w1 ⟨rfl, hB1⟩
  generalize hgx : (N : Int) / Nat.gcd N 360 = X at *
  generalize hgy : (360 : Int) / Nat.gcd N 360 = Y at *
  have HX := Lib.hid hgx
  have HY := Lib.hid hgy
  clear hgx hgy
  have hz1 : w.heap.size < w1.heap.size := by have := hB1.size; simp at this; omega
  have HB1 := Lib.hid hB1
  obtain ⟨hc1, hf1⟩ := bcell hB1
  clear hB1
  have c0 : w1.cell? ⟨w.heap.size, 0, none⟩ = some (.int .i64 0) := by
    rw [hc1 _ _ (by simp; omega), World.cell?_alloc_lt _ _ _ (by simp)]; simp
  have c1 : w1.cell? ⟨w.heap.size, 1, none⟩ = some (.int .i64 0) := by
    rw [hc1 _ _ (by simp; omega), World.cell?_alloc_lt _ _ _ (by simp)]; simp
  have f0 : w1.frozen? ⟨w.heap.size, 0, none⟩ = false := by
    rw [hf1 _ _ (by simp; omega), World.frozen?_alloc_past _ _ _ (by simp)]; simp
  have f1 : w1.frozen? ⟨w.heap.size, 1, none⟩ = false := by
    rw [hf1 _ _ (by simp; omega), World.frozen?_alloc_past _ _ _ (by simp)]; simp
  clear hc1 hf1
  go_wp2_with fail
  have hx := HB1.out
  refine bodyPost_ret (v := .tuple #[.agg #[.int .i64 X, .int .i64 Y], .bool true]) (by simp [results, Try.results18, go_sem, c0, c1, f0, f1]) rfl ⟨by rw [HX.out, HY.out], ?_⟩
  refine ((Below.trans ?_ (hx.mono ?_)).setCell (p := ⟨w.heap.size, 0, none⟩) (Nat.le_refl _) _).setCell (p := ⟨w.heap.size, 1, none⟩) (Nat.le_refl _) _
  · repeat' (first | exact Below.refl _ _ | exact Nat.le_refl _ | refine Below.setCell ?_ ?_ _ | apply Below.alloc | (simp; done))
  · simp; omega

theorem is1 : Cal.Is 19753 2024 1 31 := by unfold Cal.Is; decide
theorem is2 : Cal.Is 19782 2024 2 29 := by unfold Cal.Is; decide
theorem is3 : Cal.Is 19388 2023 1 31 := by unfold Cal.Is; decide
theorem is4 : Cal.Is 19447 2023 3 31 := by unfold Cal.Is; decide

theorem feb (w : World) : Calls Try.prog 10 #[.int .i64 19753, .int .i64 1] w fun e w' => e = .returned (.tuple #[.int .i64 19782, .bool true]) ∧ w = w' :=
  months_yes 19753 1 2024 1 31 19782 is1 (by omega) (by omega) (by unfold Cal.Is; decide) w
theorem sixth (w : World) : Calls Try.prog 18 #[.int .i64 19388, .int .i64 19447, .int .i64 2] w fun e w' => e = .returned (.tuple #[.agg #[.int .i64 1, .int .i64 6], .bool true]) ∧ Below w.heap.size w w' :=
  years_thirty 19388 19447 2023 1 31 2023 3 31 is3 is4 60 (by decide) (by omega) w
theorem febText (w : World) : Calls Try.prog 26 #[.int .i64 19782] w fun e w' => e = .returned (.string ⟨#[50, 48, 50, 52, 45, 48, 50, 45, 50, 57]⟩) ∧ Below w.heap.size w w' :=
  print_yes 19782 2024 2 29 is2 w

set_option maxRecDepth 100000 in
set_option maxHeartbeats 1000000 in
theorem awake_any (w : World) : Calls Try.prog 13 #[] w fun e w' => e = .returned (.bool true) ∧ Below w.heap.size w w' := by
  go_enter Try.func13, Try.ntmps13
  go_wp2_with fail
  refine (of_yes 19753 2024 1 31 is1 _).mono ?_
  rintro e1 w1 ⟨rfl, rfl⟩
  go_wp2_with fail
  refine (feb _).mono ?_
  rintro e1 w1 ⟨rfl, rfl⟩
  go_wp2_with fail
  refine (of_yes 19388 2023 1 31 is3 _).mono ?_
  rintro e1 w1 ⟨rfl, rfl⟩
  go_wp2_with fail
  refine (of_yes 19447 2023 3 31 is4 _).mono ?_
  rintro e1 w1 ⟨rfl, rfl⟩
  go_wp2_with fail
  refine (sixth _).mono ?_
  rintro e1 w1 ⟨rfl, hB1⟩
  go_wp2_with fail
  refine (febText _).mono ?_
  rintro e2 w2 ⟨rfl, hB2⟩
  obtain ⟨hc2, _⟩ := bcell hB2
  have c0 : w2.cell? ⟨w1.heap.size, 0, none⟩ = some (.int .i64 1) := by rw [hc2 _ _ (by simp)]; simp
  have c1 : w2.cell? ⟨w1.heap.size, 1, none⟩ = some (.int .i64 6) := by rw [hc2 _ _ (by simp)]; simp
  clear hc2
  have HB := Lib.hid (below_mono (hB1.alloc hB1.size (.cells #[.int .i64 1, .int .i64 6] 34)) hB2 (Nat.le_refl _))
  clear hB1 hB2
  go_wp2_with fail
  go_ret
  exact ⟨rfl, HB.out⟩
end Go.Proofs.Ytknahehmkjaelab
