/- Layer 22: what the ops make, what folding keeps, the last expression, what a fixing more changes. Conditions: those written at each theorem. -/
import Derived.Test.YtidldlhhmophjaaObP
import Derived.Test.YtidldlhhmophjaaCkX
import Derived.Test.YtidldlhhmophjaaCkP
import Derived.Test.YtidldlhhmophjaaCkK
import Derived.Test.YtidldlhhmophjaaTrQ
namespace Go.Proofs.Ytidldlhhmophjaa
open Go.RowKit Go.PlainAid Go.Sort
set_option linter.unusedVariables false
set_option linter.unusedSimpArgs false
set_option maxRecDepth 100000 in
set_option maxHeartbeats 4000000 in
theorem number_no (n : Int) (w : World) : Calls Try.prog 89 #[.int .i64 n, .bool false] w fun e w' => e = .returned (vlV brkV) ∧ Below w.heap.size w w' := by
  obtain ⟨⟨r0, r1, r2⟩, p0, p1, p2⟩ := three_zero w (.int .i64 0) (.int .i64 0) (.bool false) 73
  have HF := Lib.hid (three_made (.int .i64 3) (.int .i64 0) (.bool false) 73 w)
  go_enter Try.func89, Try.ntmps89
  go_wp2_with fail
  clear r0 r1 r2 p0 p1 p2
  obtain ⟨W, hW⟩ : ∃ X, w.alloc (.cells #[.int .i64 3, .int .i64 0, .bool false] 73) = X := ⟨_, rfl⟩
  obtain ⟨k, b, s⟩ := HF.out W hW
  rw [hW]
  obtain ⟨d0, d1, d2⟩ := trio b
  exact bodyPost_ret (v := vlV brkV) (by simp [results, Try.results89, go_sem, d0, d1, d2, brkV]) rfl ⟨rfl, k⟩
def outV : Option Int → Vl
  | none => brkV
  | some v => numV v
theorem okV_out (z : Int) : okV z = outV (okI z) := by
  unfold okV okI
  split <;> rfl
theorem divV_out (a b : Int) : (if b = 0 then brkV else okV (a.fdiv b)) = outV (divO a b) := by
  unfold divO
  split
  · rfl
  · exact okV_out _
set_option maxRecDepth 100000 in
set_option maxHeartbeats 4000000 in
theorem worked_5 (a b : Int) (ha : InR a) (hb : InR b) (w : World) : Calls Try.prog 93 #[.int .i64 5, .int .i64 a, .int .i64 b] w fun e w' => e = .returned (vlV (wkV 5 a b)) ∧ Below w.heap.size w w' := by
  obtain ⟨r, hr⟩ : ∃ r, r = okI (a + b) := ⟨_, rfl⟩
  have HT : Hid (wkV 5 a b = outV r) := Lib.hid (by rw [hr]; exact okV_out _)
  have CN : Hid (∀ W, Calls Try.prog 106 #[.int .i64 a, .int .i64 b] W fun e w' => e = .returned (.tuple #[.int .i64 (r.getD 0), .bool r.isSome]) ∧ Below W.heap.size W w') := Lib.hid fun W => by
    rw [hr]
    exact (Nu.add_num a b ha.1 ha.2 hb.1 hb.2 W).mono fun e w' k => given k
  have CY : Hid (∀ n W, Calls Try.prog 89 #[.int .i64 n, .bool true] W fun e w' => e = .returned (.agg #[.int .i64 1, .int .i64 n, .bool false]) ∧ Below W.heap.size W w') := Lib.hid fun n W => number_yes n W
  have CO : Hid (∀ n W, Calls Try.prog 89 #[.int .i64 n, .bool false] W fun e w' => e = .returned (.agg #[.int .i64 3, .int .i64 0, .bool false]) ∧ Below W.heap.size W w') := Lib.hid fun n W => number_no n W
  have HF := Lib.hid (three_made (.int .i64 0) (.int .i64 0) (.bool false) 73 w)
  clear hr ha hb
  go_enter Try.func93, Try.ntmps93
  go_upto_region 1 with fail
  obtain ⟨W, hW⟩ : ∃ X, w.alloc (.cells #[.int .i64 0, .int .i64 0, .bool false] 73) = X := ⟨_, rfl⟩
  obtain ⟨k, b', s⟩ := HF.out W hW
  obtain ⟨z, hz⟩ : ∃ z, z = w.heap.size := ⟨_, rfl⟩
  rw [hW, ← hz]
  rw [← hz] at b'
  have HB := Lib.hid k
  have HX := Lib.hid b'
  have HZ := Lib.hid hz
  clear hW k b' s HF hz
  cases r with
  | none =>
    have CN2 : Hid (∀ W, Calls Try.prog 106 #[.int .i64 a, .int .i64 b] W fun e w' => e = .returned (.tuple #[.int .i64 0, .bool false]) ∧ Below W.heap.size W w') := CN
    clear CN
    go_wp2_with (first | (go_at_call 106; (with_reducible refine (CN2.out _).mono ?_); rintro e w3 ⟨rfl, hb⟩; have HB3 := Lib.hid hb; clear hb) | (go_at_call 89; (with_reducible refine (CO.out 0 _).mono ?_); rintro e w4 ⟨rfl, hb⟩; have HB4 := Lib.hid (below_mono HB3.out hb (Nat.le_refl _)); have HX4 := Lib.hid ((HB4.out.block _ (lt_of_heap HX.out)).trans HX.out); obtain ⟨n0', n1', n2'⟩ := trio HX4.out; have p0 : w4.frozen? ⟨z, 0, none⟩ = false := free_blk HX4.out 0; have p1 : w4.frozen? ⟨z, 1, none⟩ = false := free_blk HX4.out 1; have p2 : w4.frozen? ⟨z, 2, none⟩ = false := free_blk HX4.out 2; clear hb))
    obtain ⟨W10, hW10⟩ : ∃ X, (((w4.setCell ⟨z, 0, none⟩ (.int .i64 3)).setCell ⟨z, 1, none⟩ (.int .i64 0)).setCell ⟨z, 2, none⟩ (.bool false)) = X := ⟨_, rfl⟩
    obtain ⟨k9, _, _, x9⟩ := three_set w4 z (.int .i64 3) (.int .i64 0) (.bool false) _ _ ⟨_, _, _, rfl⟩ HX4.out W10 hW10
    rw [hW10]
    clear n0' n1' n2' p0 p1 p2
    obtain ⟨d0, d1, d2⟩ := trio x9
    exact bodyPost_ret (v := .agg #[.int .i64 3, .int .i64 0, .bool false]) (by simp [results, Try.results93, go_sem, d0, d1, d2]) rfl ⟨by rw [HT.out]; rfl, (HB.out.trans (HB4.out.mono HB.out.size)).trans (k9.mono (by have := HZ.out; omega))⟩
  | some v =>
    have CN2 : Hid (∀ W, Calls Try.prog 106 #[.int .i64 a, .int .i64 b] W fun e w' => e = .returned (.tuple #[.int .i64 v, .bool true]) ∧ Below W.heap.size W w') := CN
    clear CN
    go_wp2_with (first | (go_at_call 106; (with_reducible refine (CN2.out _).mono ?_); rintro e w3 ⟨rfl, hb⟩; have HB3 := Lib.hid hb; clear hb) | (go_at_call 89; (with_reducible refine (CY.out v _).mono ?_); rintro e w4 ⟨rfl, hb⟩; have HB4 := Lib.hid (below_mono HB3.out hb (Nat.le_refl _)); have HX4 := Lib.hid ((HB4.out.block _ (lt_of_heap HX.out)).trans HX.out); obtain ⟨n0', n1', n2'⟩ := trio HX4.out; have p0 : w4.frozen? ⟨z, 0, none⟩ = false := free_blk HX4.out 0; have p1 : w4.frozen? ⟨z, 1, none⟩ = false := free_blk HX4.out 1; have p2 : w4.frozen? ⟨z, 2, none⟩ = false := free_blk HX4.out 2; clear hb))
    obtain ⟨W10, hW10⟩ : ∃ X, (((w4.setCell ⟨z, 0, none⟩ (.int .i64 1)).setCell ⟨z, 1, none⟩ (.int .i64 v)).setCell ⟨z, 2, none⟩ (.bool false)) = X := ⟨_, rfl⟩
    obtain ⟨k9, _, _, x9⟩ := three_set w4 z (.int .i64 1) (.int .i64 v) (.bool false) _ _ ⟨_, _, _, rfl⟩ HX4.out W10 hW10
    rw [hW10]
    clear n0' n1' n2' p0 p1 p2
    obtain ⟨d0, d1, d2⟩ := trio x9
    exact bodyPost_ret (v := .agg #[.int .i64 1, .int .i64 v, .bool false]) (by simp [results, Try.results93, go_sem, d0, d1, d2]) rfl ⟨by rw [HT.out]; rfl, (HB.out.trans (HB4.out.mono HB.out.size)).trans (k9.mono (by have := HZ.out; omega))⟩
set_option maxRecDepth 100000 in
set_option maxHeartbeats 4000000 in
theorem worked_6 (a b : Int) (ha : InR a) (hb : InR b) (w : World) : Calls Try.prog 93 #[.int .i64 6, .int .i64 a, .int .i64 b] w fun e w' => e = .returned (vlV (wkV 6 a b)) ∧ Below w.heap.size w w' := by
  obtain ⟨r, hr⟩ : ∃ r, r = okI (a - b) := ⟨_, rfl⟩
  have HT : Hid (wkV 6 a b = outV r) := Lib.hid (by rw [hr]; exact okV_out _)
  have CN : Hid (∀ W, Calls Try.prog 107 #[.int .i64 a, .int .i64 b] W fun e w' => e = .returned (.tuple #[.int .i64 (r.getD 0), .bool r.isSome]) ∧ Below W.heap.size W w') := Lib.hid fun W => by
    rw [hr]
    exact (Nu.sub_num a b ha.1 ha.2 hb.1 hb.2 W).mono fun e w' k => given k
  have CY : Hid (∀ n W, Calls Try.prog 89 #[.int .i64 n, .bool true] W fun e w' => e = .returned (.agg #[.int .i64 1, .int .i64 n, .bool false]) ∧ Below W.heap.size W w') := Lib.hid fun n W => number_yes n W
  have CO : Hid (∀ n W, Calls Try.prog 89 #[.int .i64 n, .bool false] W fun e w' => e = .returned (.agg #[.int .i64 3, .int .i64 0, .bool false]) ∧ Below W.heap.size W w') := Lib.hid fun n W => number_no n W
  have HF := Lib.hid (three_made (.int .i64 0) (.int .i64 0) (.bool false) 73 w)
  clear hr ha hb
  go_enter Try.func93, Try.ntmps93
  go_upto_region 1 with fail
  obtain ⟨W, hW⟩ : ∃ X, w.alloc (.cells #[.int .i64 0, .int .i64 0, .bool false] 73) = X := ⟨_, rfl⟩
  obtain ⟨k, b', s⟩ := HF.out W hW
  obtain ⟨z, hz⟩ : ∃ z, z = w.heap.size := ⟨_, rfl⟩
  rw [hW, ← hz]
  rw [← hz] at b'
  have HB := Lib.hid k
  have HX := Lib.hid b'
  have HZ := Lib.hid hz
  clear hW k b' s HF hz
  cases r with
  | none =>
    have CN2 : Hid (∀ W, Calls Try.prog 107 #[.int .i64 a, .int .i64 b] W fun e w' => e = .returned (.tuple #[.int .i64 0, .bool false]) ∧ Below W.heap.size W w') := CN
    clear CN
    go_wp2_with (first | (go_at_call 107; (with_reducible refine (CN2.out _).mono ?_); rintro e w3 ⟨rfl, hb⟩; have HB3 := Lib.hid hb; clear hb) | (go_at_call 89; (with_reducible refine (CO.out 0 _).mono ?_); rintro e w4 ⟨rfl, hb⟩; have HB4 := Lib.hid (below_mono HB3.out hb (Nat.le_refl _)); have HX4 := Lib.hid ((HB4.out.block _ (lt_of_heap HX.out)).trans HX.out); obtain ⟨n0', n1', n2'⟩ := trio HX4.out; have p0 : w4.frozen? ⟨z, 0, none⟩ = false := free_blk HX4.out 0; have p1 : w4.frozen? ⟨z, 1, none⟩ = false := free_blk HX4.out 1; have p2 : w4.frozen? ⟨z, 2, none⟩ = false := free_blk HX4.out 2; clear hb))
    obtain ⟨W10, hW10⟩ : ∃ X, (((w4.setCell ⟨z, 0, none⟩ (.int .i64 3)).setCell ⟨z, 1, none⟩ (.int .i64 0)).setCell ⟨z, 2, none⟩ (.bool false)) = X := ⟨_, rfl⟩
    obtain ⟨k9, _, _, x9⟩ := three_set w4 z (.int .i64 3) (.int .i64 0) (.bool false) _ _ ⟨_, _, _, rfl⟩ HX4.out W10 hW10
    rw [hW10]
    clear n0' n1' n2' p0 p1 p2
    obtain ⟨d0, d1, d2⟩ := trio x9
    exact bodyPost_ret (v := .agg #[.int .i64 3, .int .i64 0, .bool false]) (by simp [results, Try.results93, go_sem, d0, d1, d2]) rfl ⟨by rw [HT.out]; rfl, (HB.out.trans (HB4.out.mono HB.out.size)).trans (k9.mono (by have := HZ.out; omega))⟩
  | some v =>
    have CN2 : Hid (∀ W, Calls Try.prog 107 #[.int .i64 a, .int .i64 b] W fun e w' => e = .returned (.tuple #[.int .i64 v, .bool true]) ∧ Below W.heap.size W w') := CN
    clear CN
    go_wp2_with (first | (go_at_call 107; (with_reducible refine (CN2.out _).mono ?_); rintro e w3 ⟨rfl, hb⟩; have HB3 := Lib.hid hb; clear hb) | (go_at_call 89; (with_reducible refine (CY.out v _).mono ?_); rintro e w4 ⟨rfl, hb⟩; have HB4 := Lib.hid (below_mono HB3.out hb (Nat.le_refl _)); have HX4 := Lib.hid ((HB4.out.block _ (lt_of_heap HX.out)).trans HX.out); obtain ⟨n0', n1', n2'⟩ := trio HX4.out; have p0 : w4.frozen? ⟨z, 0, none⟩ = false := free_blk HX4.out 0; have p1 : w4.frozen? ⟨z, 1, none⟩ = false := free_blk HX4.out 1; have p2 : w4.frozen? ⟨z, 2, none⟩ = false := free_blk HX4.out 2; clear hb))
    obtain ⟨W10, hW10⟩ : ∃ X, (((w4.setCell ⟨z, 0, none⟩ (.int .i64 1)).setCell ⟨z, 1, none⟩ (.int .i64 v)).setCell ⟨z, 2, none⟩ (.bool false)) = X := ⟨_, rfl⟩
    obtain ⟨k9, _, _, x9⟩ := three_set w4 z (.int .i64 1) (.int .i64 v) (.bool false) _ _ ⟨_, _, _, rfl⟩ HX4.out W10 hW10
    rw [hW10]
    clear n0' n1' n2' p0 p1 p2
    obtain ⟨d0, d1, d2⟩ := trio x9
    exact bodyPost_ret (v := .agg #[.int .i64 1, .int .i64 v, .bool false]) (by simp [results, Try.results93, go_sem, d0, d1, d2]) rfl ⟨by rw [HT.out]; rfl, (HB.out.trans (HB4.out.mono HB.out.size)).trans (k9.mono (by have := HZ.out; omega))⟩
set_option maxRecDepth 100000 in
set_option maxHeartbeats 4000000 in
theorem worked_7 (a b : Int) (ha : InR a) (hb : InR b) (w : World) : Calls Try.prog 93 #[.int .i64 7, .int .i64 a, .int .i64 b] w fun e w' => e = .returned (vlV (wkV 7 a b)) ∧ Below w.heap.size w w' := by
  obtain ⟨r, hr⟩ : ∃ r, r = okI (a * b) := ⟨_, rfl⟩
  have HT : Hid (wkV 7 a b = outV r) := Lib.hid (by rw [hr]; exact okV_out _)
  have CN : Hid (∀ W, Calls Try.prog 108 #[.int .i64 a, .int .i64 b] W fun e w' => e = .returned (.tuple #[.int .i64 (r.getD 0), .bool r.isSome]) ∧ Below W.heap.size W w') := Lib.hid fun W => by
    rw [hr]
    exact (Nu.mul_num a b ha.1 ha.2 hb.1 hb.2 W).mono fun e w' k => given k
  have CY : Hid (∀ n W, Calls Try.prog 89 #[.int .i64 n, .bool true] W fun e w' => e = .returned (.agg #[.int .i64 1, .int .i64 n, .bool false]) ∧ Below W.heap.size W w') := Lib.hid fun n W => number_yes n W
  have CO : Hid (∀ n W, Calls Try.prog 89 #[.int .i64 n, .bool false] W fun e w' => e = .returned (.agg #[.int .i64 3, .int .i64 0, .bool false]) ∧ Below W.heap.size W w') := Lib.hid fun n W => number_no n W
  have HF := Lib.hid (three_made (.int .i64 0) (.int .i64 0) (.bool false) 73 w)
  clear hr ha hb
  go_enter Try.func93, Try.ntmps93
  go_upto_region 1 with fail
  obtain ⟨W, hW⟩ : ∃ X, w.alloc (.cells #[.int .i64 0, .int .i64 0, .bool false] 73) = X := ⟨_, rfl⟩
  obtain ⟨k, b', s⟩ := HF.out W hW
  obtain ⟨z, hz⟩ : ∃ z, z = w.heap.size := ⟨_, rfl⟩
  rw [hW, ← hz]
  rw [← hz] at b'
  have HB := Lib.hid k
  have HX := Lib.hid b'
  have HZ := Lib.hid hz
  clear hW k b' s HF hz
  cases r with
  | none =>
    have CN2 : Hid (∀ W, Calls Try.prog 108 #[.int .i64 a, .int .i64 b] W fun e w' => e = .returned (.tuple #[.int .i64 0, .bool false]) ∧ Below W.heap.size W w') := CN
    clear CN
    go_wp2_with (first | (go_at_call 108; (with_reducible refine (CN2.out _).mono ?_); rintro e w3 ⟨rfl, hb⟩; have HB3 := Lib.hid hb; clear hb) | (go_at_call 89; (with_reducible refine (CO.out 0 _).mono ?_); rintro e w4 ⟨rfl, hb⟩; have HB4 := Lib.hid (below_mono HB3.out hb (Nat.le_refl _)); have HX4 := Lib.hid ((HB4.out.block _ (lt_of_heap HX.out)).trans HX.out); obtain ⟨n0', n1', n2'⟩ := trio HX4.out; have p0 : w4.frozen? ⟨z, 0, none⟩ = false := free_blk HX4.out 0; have p1 : w4.frozen? ⟨z, 1, none⟩ = false := free_blk HX4.out 1; have p2 : w4.frozen? ⟨z, 2, none⟩ = false := free_blk HX4.out 2; clear hb))
    obtain ⟨W10, hW10⟩ : ∃ X, (((w4.setCell ⟨z, 0, none⟩ (.int .i64 3)).setCell ⟨z, 1, none⟩ (.int .i64 0)).setCell ⟨z, 2, none⟩ (.bool false)) = X := ⟨_, rfl⟩
    obtain ⟨k9, _, _, x9⟩ := three_set w4 z (.int .i64 3) (.int .i64 0) (.bool false) _ _ ⟨_, _, _, rfl⟩ HX4.out W10 hW10
    rw [hW10]
    clear n0' n1' n2' p0 p1 p2
    obtain ⟨d0, d1, d2⟩ := trio x9
    exact bodyPost_ret (v := .agg #[.int .i64 3, .int .i64 0, .bool false]) (by simp [results, Try.results93, go_sem, d0, d1, d2]) rfl ⟨by rw [HT.out]; rfl, (HB.out.trans (HB4.out.mono HB.out.size)).trans (k9.mono (by have := HZ.out; omega))⟩
  | some v =>
    have CN2 : Hid (∀ W, Calls Try.prog 108 #[.int .i64 a, .int .i64 b] W fun e w' => e = .returned (.tuple #[.int .i64 v, .bool true]) ∧ Below W.heap.size W w') := CN
    clear CN
    go_wp2_with (first | (go_at_call 108; (with_reducible refine (CN2.out _).mono ?_); rintro e w3 ⟨rfl, hb⟩; have HB3 := Lib.hid hb; clear hb) | (go_at_call 89; (with_reducible refine (CY.out v _).mono ?_); rintro e w4 ⟨rfl, hb⟩; have HB4 := Lib.hid (below_mono HB3.out hb (Nat.le_refl _)); have HX4 := Lib.hid ((HB4.out.block _ (lt_of_heap HX.out)).trans HX.out); obtain ⟨n0', n1', n2'⟩ := trio HX4.out; have p0 : w4.frozen? ⟨z, 0, none⟩ = false := free_blk HX4.out 0; have p1 : w4.frozen? ⟨z, 1, none⟩ = false := free_blk HX4.out 1; have p2 : w4.frozen? ⟨z, 2, none⟩ = false := free_blk HX4.out 2; clear hb))
    obtain ⟨W10, hW10⟩ : ∃ X, (((w4.setCell ⟨z, 0, none⟩ (.int .i64 1)).setCell ⟨z, 1, none⟩ (.int .i64 v)).setCell ⟨z, 2, none⟩ (.bool false)) = X := ⟨_, rfl⟩
    obtain ⟨k9, _, _, x9⟩ := three_set w4 z (.int .i64 1) (.int .i64 v) (.bool false) _ _ ⟨_, _, _, rfl⟩ HX4.out W10 hW10
    rw [hW10]
    clear n0' n1' n2' p0 p1 p2
    obtain ⟨d0, d1, d2⟩ := trio x9
    exact bodyPost_ret (v := .agg #[.int .i64 1, .int .i64 v, .bool false]) (by simp [results, Try.results93, go_sem, d0, d1, d2]) rfl ⟨by rw [HT.out]; rfl, (HB.out.trans (HB4.out.mono HB.out.size)).trans (k9.mono (by have := HZ.out; omega))⟩
set_option maxRecDepth 100000 in
set_option maxHeartbeats 4000000 in
theorem worked_8 (a b : Int) (ha : InR a) (hb : InR b) (w : World) : Calls Try.prog 93 #[.int .i64 8, .int .i64 a, .int .i64 b] w fun e w' => e = .returned (vlV (wkV 8 a b)) ∧ Below w.heap.size w w' := by
  obtain ⟨r, hr⟩ : ∃ r, r = divO a b := ⟨_, rfl⟩
  have HT : Hid (wkV 8 a b = outV r) := Lib.hid (by rw [hr]; exact divV_out a b)
  have CN : Hid (∀ W, Calls Try.prog 109 #[.int .i64 a, .int .i64 1, .int .i64 b, .int .i64 1] W fun e w' => e = .returned (.tuple #[.int .i64 (r.getD 0), .bool r.isSome]) ∧ Below W.heap.size W w') := Lib.hid fun W => by
    rw [hr]
    exact (Nu.md_any a 1 b 1 ha.1 ha.2 (by omega) (by omega) hb.1 hb.2 W).mono fun e w' k => givenMD k
  have CY : Hid (∀ n W, Calls Try.prog 89 #[.int .i64 n, .bool true] W fun e w' => e = .returned (.agg #[.int .i64 1, .int .i64 n, .bool false]) ∧ Below W.heap.size W w') := Lib.hid fun n W => number_yes n W
  have CO : Hid (∀ n W, Calls Try.prog 89 #[.int .i64 n, .bool false] W fun e w' => e = .returned (.agg #[.int .i64 3, .int .i64 0, .bool false]) ∧ Below W.heap.size W w') := Lib.hid fun n W => number_no n W
  have HF := Lib.hid (three_made (.int .i64 0) (.int .i64 0) (.bool false) 73 w)
  clear hr ha hb
  go_enter Try.func93, Try.ntmps93
  go_upto_region 1 with fail
  obtain ⟨W, hW⟩ : ∃ X, w.alloc (.cells #[.int .i64 0, .int .i64 0, .bool false] 73) = X := ⟨_, rfl⟩
  obtain ⟨k, b', s⟩ := HF.out W hW
  obtain ⟨z, hz⟩ : ∃ z, z = w.heap.size := ⟨_, rfl⟩
  rw [hW, ← hz]
  rw [← hz] at b'
  have HB := Lib.hid k
  have HX := Lib.hid b'
  have HZ := Lib.hid hz
  clear hW k b' s HF hz
  cases r with
  | none =>
    have CN2 : Hid (∀ W, Calls Try.prog 109 #[.int .i64 a, .int .i64 1, .int .i64 b, .int .i64 1] W fun e w' => e = .returned (.tuple #[.int .i64 0, .bool false]) ∧ Below W.heap.size W w') := CN
    clear CN
    go_wp2_with (first | (go_at_call 109; (with_reducible refine (CN2.out _).mono ?_); rintro e w3 ⟨rfl, hb⟩; have HB3 := Lib.hid hb; clear hb) | (go_at_call 89; (with_reducible refine (CO.out 0 _).mono ?_); rintro e w4 ⟨rfl, hb⟩; have HB4 := Lib.hid (below_mono HB3.out hb (Nat.le_refl _)); have HX4 := Lib.hid ((HB4.out.block _ (lt_of_heap HX.out)).trans HX.out); obtain ⟨n0', n1', n2'⟩ := trio HX4.out; have p0 : w4.frozen? ⟨z, 0, none⟩ = false := free_blk HX4.out 0; have p1 : w4.frozen? ⟨z, 1, none⟩ = false := free_blk HX4.out 1; have p2 : w4.frozen? ⟨z, 2, none⟩ = false := free_blk HX4.out 2; clear hb))
    obtain ⟨W10, hW10⟩ : ∃ X, (((w4.setCell ⟨z, 0, none⟩ (.int .i64 3)).setCell ⟨z, 1, none⟩ (.int .i64 0)).setCell ⟨z, 2, none⟩ (.bool false)) = X := ⟨_, rfl⟩
    obtain ⟨k9, _, _, x9⟩ := three_set w4 z (.int .i64 3) (.int .i64 0) (.bool false) _ _ ⟨_, _, _, rfl⟩ HX4.out W10 hW10
    rw [hW10]
    clear n0' n1' n2' p0 p1 p2
    obtain ⟨d0, d1, d2⟩ := trio x9
    exact bodyPost_ret (v := .agg #[.int .i64 3, .int .i64 0, .bool false]) (by simp [results, Try.results93, go_sem, d0, d1, d2]) rfl ⟨by rw [HT.out]; rfl, (HB.out.trans (HB4.out.mono HB.out.size)).trans (k9.mono (by have := HZ.out; omega))⟩
  | some v =>
    have CN2 : Hid (∀ W, Calls Try.prog 109 #[.int .i64 a, .int .i64 1, .int .i64 b, .int .i64 1] W fun e w' => e = .returned (.tuple #[.int .i64 v, .bool true]) ∧ Below W.heap.size W w') := CN
    clear CN
    go_wp2_with (first | (go_at_call 109; (with_reducible refine (CN2.out _).mono ?_); rintro e w3 ⟨rfl, hb⟩; have HB3 := Lib.hid hb; clear hb) | (go_at_call 89; (with_reducible refine (CY.out v _).mono ?_); rintro e w4 ⟨rfl, hb⟩; have HB4 := Lib.hid (below_mono HB3.out hb (Nat.le_refl _)); have HX4 := Lib.hid ((HB4.out.block _ (lt_of_heap HX.out)).trans HX.out); obtain ⟨n0', n1', n2'⟩ := trio HX4.out; have p0 : w4.frozen? ⟨z, 0, none⟩ = false := free_blk HX4.out 0; have p1 : w4.frozen? ⟨z, 1, none⟩ = false := free_blk HX4.out 1; have p2 : w4.frozen? ⟨z, 2, none⟩ = false := free_blk HX4.out 2; clear hb))
    obtain ⟨W10, hW10⟩ : ∃ X, (((w4.setCell ⟨z, 0, none⟩ (.int .i64 1)).setCell ⟨z, 1, none⟩ (.int .i64 v)).setCell ⟨z, 2, none⟩ (.bool false)) = X := ⟨_, rfl⟩
    obtain ⟨k9, _, _, x9⟩ := three_set w4 z (.int .i64 1) (.int .i64 v) (.bool false) _ _ ⟨_, _, _, rfl⟩ HX4.out W10 hW10
    rw [hW10]
    clear n0' n1' n2' p0 p1 p2
    obtain ⟨d0, d1, d2⟩ := trio x9
    exact bodyPost_ret (v := .agg #[.int .i64 1, .int .i64 v, .bool false]) (by simp [results, Try.results93, go_sem, d0, d1, d2]) rfl ⟨by rw [HT.out]; rfl, (HB.out.trans (HB4.out.mono HB.out.size)).trans (k9.mono (by have := HZ.out; omega))⟩
set_option maxRecDepth 100000 in
set_option maxHeartbeats 4000000 in
theorem worked_20 (a b : Int) (ha : InR a) (hb : InR b) (w : World) : Calls Try.prog 93 #[.int .i64 20, .int .i64 a, .int .i64 b] w fun e w' => e = .returned (vlV (wkV 20 a b)) ∧ Below w.heap.size w w' := by
  obtain ⟨r, hr⟩ : ∃ r, r = okI (-a) := ⟨_, rfl⟩
  have HT : Hid (wkV 20 a b = outV r) := Lib.hid (by rw [hr]; exact okV_out _)
  have CN : Hid (∀ W, Calls Try.prog 110 #[.int .i64 a] W fun e w' => e = .returned (.tuple #[.int .i64 (r.getD 0), .bool r.isSome]) ∧ Below W.heap.size W w') := Lib.hid fun W => by
    rw [hr]
    exact (Nu.neg_num a ha.1 ha.2 W).mono fun e w' k => given k
  have CY : Hid (∀ n W, Calls Try.prog 89 #[.int .i64 n, .bool true] W fun e w' => e = .returned (.agg #[.int .i64 1, .int .i64 n, .bool false]) ∧ Below W.heap.size W w') := Lib.hid fun n W => number_yes n W
  have CO : Hid (∀ n W, Calls Try.prog 89 #[.int .i64 n, .bool false] W fun e w' => e = .returned (.agg #[.int .i64 3, .int .i64 0, .bool false]) ∧ Below W.heap.size W w') := Lib.hid fun n W => number_no n W
  have HF := Lib.hid (three_made (.int .i64 0) (.int .i64 0) (.bool false) 73 w)
  clear hr ha hb
  go_enter Try.func93, Try.ntmps93
  go_upto_region 1 with fail
  obtain ⟨W, hW⟩ : ∃ X, w.alloc (.cells #[.int .i64 0, .int .i64 0, .bool false] 73) = X := ⟨_, rfl⟩
  obtain ⟨k, b', s⟩ := HF.out W hW
  obtain ⟨z, hz⟩ : ∃ z, z = w.heap.size := ⟨_, rfl⟩
  rw [hW, ← hz]
  rw [← hz] at b'
  have HB := Lib.hid k
  have HX := Lib.hid b'
  have HZ := Lib.hid hz
  clear hW k b' s HF hz
  cases r with
  | none =>
    have CN2 : Hid (∀ W, Calls Try.prog 110 #[.int .i64 a] W fun e w' => e = .returned (.tuple #[.int .i64 0, .bool false]) ∧ Below W.heap.size W w') := CN
    clear CN
    go_wp2_with (first | (go_at_call 110; (with_reducible refine (CN2.out _).mono ?_); rintro e w3 ⟨rfl, hb⟩; have HB3 := Lib.hid hb; clear hb) | (go_at_call 89; (with_reducible refine (CO.out 0 _).mono ?_); rintro e w4 ⟨rfl, hb⟩; have HB4 := Lib.hid (below_mono HB3.out hb (Nat.le_refl _)); have HX4 := Lib.hid ((HB4.out.block _ (lt_of_heap HX.out)).trans HX.out); obtain ⟨n0', n1', n2'⟩ := trio HX4.out; have p0 : w4.frozen? ⟨z, 0, none⟩ = false := free_blk HX4.out 0; have p1 : w4.frozen? ⟨z, 1, none⟩ = false := free_blk HX4.out 1; have p2 : w4.frozen? ⟨z, 2, none⟩ = false := free_blk HX4.out 2; clear hb))
    obtain ⟨W10, hW10⟩ : ∃ X, (((w4.setCell ⟨z, 0, none⟩ (.int .i64 3)).setCell ⟨z, 1, none⟩ (.int .i64 0)).setCell ⟨z, 2, none⟩ (.bool false)) = X := ⟨_, rfl⟩
    obtain ⟨k9, _, _, x9⟩ := three_set w4 z (.int .i64 3) (.int .i64 0) (.bool false) _ _ ⟨_, _, _, rfl⟩ HX4.out W10 hW10
    rw [hW10]
    clear n0' n1' n2' p0 p1 p2
    obtain ⟨d0, d1, d2⟩ := trio x9
    exact bodyPost_ret (v := .agg #[.int .i64 3, .int .i64 0, .bool false]) (by simp [results, Try.results93, go_sem, d0, d1, d2]) rfl ⟨by rw [HT.out]; rfl, (HB.out.trans (HB4.out.mono HB.out.size)).trans (k9.mono (by have := HZ.out; omega))⟩
  | some v =>
    have CN2 : Hid (∀ W, Calls Try.prog 110 #[.int .i64 a] W fun e w' => e = .returned (.tuple #[.int .i64 v, .bool true]) ∧ Below W.heap.size W w') := CN
    clear CN
    go_wp2_with (first | (go_at_call 110; (with_reducible refine (CN2.out _).mono ?_); rintro e w3 ⟨rfl, hb⟩; have HB3 := Lib.hid hb; clear hb) | (go_at_call 89; (with_reducible refine (CY.out v _).mono ?_); rintro e w4 ⟨rfl, hb⟩; have HB4 := Lib.hid (below_mono HB3.out hb (Nat.le_refl _)); have HX4 := Lib.hid ((HB4.out.block _ (lt_of_heap HX.out)).trans HX.out); obtain ⟨n0', n1', n2'⟩ := trio HX4.out; have p0 : w4.frozen? ⟨z, 0, none⟩ = false := free_blk HX4.out 0; have p1 : w4.frozen? ⟨z, 1, none⟩ = false := free_blk HX4.out 1; have p2 : w4.frozen? ⟨z, 2, none⟩ = false := free_blk HX4.out 2; clear hb))
    obtain ⟨W10, hW10⟩ : ∃ X, (((w4.setCell ⟨z, 0, none⟩ (.int .i64 1)).setCell ⟨z, 1, none⟩ (.int .i64 v)).setCell ⟨z, 2, none⟩ (.bool false)) = X := ⟨_, rfl⟩
    obtain ⟨k9, _, _, x9⟩ := three_set w4 z (.int .i64 1) (.int .i64 v) (.bool false) _ _ ⟨_, _, _, rfl⟩ HX4.out W10 hW10
    rw [hW10]
    clear n0' n1' n2' p0 p1 p2
    obtain ⟨d0, d1, d2⟩ := trio x9
    exact bodyPost_ret (v := .agg #[.int .i64 1, .int .i64 v, .bool false]) (by simp [results, Try.results93, go_sem, d0, d1, d2]) rfl ⟨by rw [HT.out]; rfl, (HB.out.trans (HB4.out.mono HB.out.size)).trans (k9.mono (by have := HZ.out; omega))⟩
set_option maxRecDepth 100000 in
set_option maxHeartbeats 4000000 in
theorem worked_9 (a b : Int) (w : World) : Calls Try.prog 93 #[.int .i64 9, .int .i64 a, .int .i64 b] w fun e w' => e = .returned (vlV (wkV 9 a b)) ∧ Below w.heap.size w w' := by
  have CY : Hid (∀ n W, Calls Try.prog 89 #[.int .i64 n, .bool true] W fun e w' => e = .returned (.agg #[.int .i64 1, .int .i64 n, .bool false]) ∧ Below W.heap.size W w') := Lib.hid fun n W => number_yes n W
  have hm := run_min a b
  have HT0 : Hid (wkV 9 a b = numV (min a b)) := Lib.hid rfl
  obtain ⟨v, hv⟩ : ∃ v, v = min a b := ⟨_, rfl⟩
  rw [← hv] at hm HT0
  have HT : Hid (wkV 9 a b = outV (some v)) := HT0
  clear hv HT0
  have HF := Lib.hid (three_made (.int .i64 0) (.int .i64 0) (.bool false) 73 w)
  go_enter Try.func93, Try.ntmps93
  go_upto_region 1 with fail
  obtain ⟨W, hW⟩ : ∃ X, w.alloc (.cells #[.int .i64 0, .int .i64 0, .bool false] 73) = X := ⟨_, rfl⟩
  obtain ⟨k, b', s⟩ := HF.out W hW
  obtain ⟨z, hz⟩ : ∃ z, z = w.heap.size := ⟨_, rfl⟩
  rw [hW, ← hz]
  rw [← hz] at b'
  have HB := Lib.hid k
  have HX := Lib.hid b'
  have HZ := Lib.hid hz
  clear hW k b' s HF hz
  go_wp2_with (go_at_call 89; (with_reducible refine (CY.out v _).mono ?_); rintro e w4 ⟨rfl, hb⟩; have HB4 := Lib.hid hb; have HX4 := Lib.hid ((HB4.out.block _ (lt_of_heap HX.out)).trans HX.out); obtain ⟨n0', n1', n2'⟩ := trio HX4.out; have p0 : w4.frozen? ⟨z, 0, none⟩ = false := free_blk HX4.out 0; have p1 : w4.frozen? ⟨z, 1, none⟩ = false := free_blk HX4.out 1; have p2 : w4.frozen? ⟨z, 2, none⟩ = false := free_blk HX4.out 2; clear hb)
  obtain ⟨W10, hW10⟩ : ∃ X, (((w4.setCell ⟨z, 0, none⟩ (.int .i64 1)).setCell ⟨z, 1, none⟩ (.int .i64 v)).setCell ⟨z, 2, none⟩ (.bool false)) = X := ⟨_, rfl⟩
  obtain ⟨k9, _, _, x9⟩ := three_set w4 z (.int .i64 1) (.int .i64 v) (.bool false) _ _ ⟨_, _, _, rfl⟩ HX4.out W10 hW10
  rw [hW10]
  clear n0' n1' n2' p0 p1 p2
  obtain ⟨d0, d1, d2⟩ := trio x9
  exact bodyPost_ret (v := .agg #[.int .i64 1, .int .i64 v, .bool false]) (by simp [results, Try.results93, go_sem, d0, d1, d2]) rfl ⟨by rw [HT.out]; rfl, (HB.out.trans (HB4.out.mono HB.out.size)).trans (k9.mono (by have := HZ.out; omega))⟩
set_option maxRecDepth 100000 in
set_option maxHeartbeats 4000000 in
theorem worked_10 (a b : Int) (w : World) : Calls Try.prog 93 #[.int .i64 10, .int .i64 a, .int .i64 b] w fun e w' => e = .returned (vlV (wkV 10 a b)) ∧ Below w.heap.size w w' := by
  have CY : Hid (∀ n W, Calls Try.prog 89 #[.int .i64 n, .bool true] W fun e w' => e = .returned (.agg #[.int .i64 1, .int .i64 n, .bool false]) ∧ Below W.heap.size W w') := Lib.hid fun n W => number_yes n W
  have hm := run_max a b
  have HT0 : Hid (wkV 10 a b = numV (max a b)) := Lib.hid rfl
  obtain ⟨v, hv⟩ : ∃ v, v = max a b := ⟨_, rfl⟩
  rw [← hv] at hm HT0
  have HT : Hid (wkV 10 a b = outV (some v)) := HT0
  clear hv HT0
  have HF := Lib.hid (three_made (.int .i64 0) (.int .i64 0) (.bool false) 73 w)
  go_enter Try.func93, Try.ntmps93
  go_upto_region 1 with fail
  obtain ⟨W, hW⟩ : ∃ X, w.alloc (.cells #[.int .i64 0, .int .i64 0, .bool false] 73) = X := ⟨_, rfl⟩
  obtain ⟨k, b', s⟩ := HF.out W hW
  obtain ⟨z, hz⟩ : ∃ z, z = w.heap.size := ⟨_, rfl⟩
  rw [hW, ← hz]
  rw [← hz] at b'
  have HB := Lib.hid k
  have HX := Lib.hid b'
  have HZ := Lib.hid hz
  clear hW k b' s HF hz
  go_wp2_with (go_at_call 89; (with_reducible refine (CY.out v _).mono ?_); rintro e w4 ⟨rfl, hb⟩; have HB4 := Lib.hid hb; have HX4 := Lib.hid ((HB4.out.block _ (lt_of_heap HX.out)).trans HX.out); obtain ⟨n0', n1', n2'⟩ := trio HX4.out; have p0 : w4.frozen? ⟨z, 0, none⟩ = false := free_blk HX4.out 0; have p1 : w4.frozen? ⟨z, 1, none⟩ = false := free_blk HX4.out 1; have p2 : w4.frozen? ⟨z, 2, none⟩ = false := free_blk HX4.out 2; clear hb)
  obtain ⟨W10, hW10⟩ : ∃ X, (((w4.setCell ⟨z, 0, none⟩ (.int .i64 1)).setCell ⟨z, 1, none⟩ (.int .i64 v)).setCell ⟨z, 2, none⟩ (.bool false)) = X := ⟨_, rfl⟩
  obtain ⟨k9, _, _, x9⟩ := three_set w4 z (.int .i64 1) (.int .i64 v) (.bool false) _ _ ⟨_, _, _, rfl⟩ HX4.out W10 hW10
  rw [hW10]
  clear n0' n1' n2' p0 p1 p2
  obtain ⟨d0, d1, d2⟩ := trio x9
  exact bodyPost_ret (v := .agg #[.int .i64 1, .int .i64 v, .bool false]) (by simp [results, Try.results93, go_sem, d0, d1, d2]) rfl ⟨by rw [HT.out]; rfl, (HB.out.trans (HB4.out.mono HB.out.size)).trans (k9.mono (by have := HZ.out; omega))⟩
set_option maxRecDepth 100000 in
set_option maxHeartbeats 4000000 in
theorem worked_11 (a b : Int) (w : World) : Calls Try.prog 93 #[.int .i64 11, .int .i64 a, .int .i64 b] w fun e w' => e = .returned (vlV (wkV 11 a b)) ∧ Below w.heap.size w w' := by
  have CT : Hid (∀ (t : Bool) W, Calls Try.prog 92 #[.bool t] W fun e w' => e = .returned (.agg #[.int .i64 2, .int .i64 0, .bool t]) ∧ Below W.heap.size W w') := Lib.hid fun t W => truth_any t W
  obtain ⟨t, ht⟩ : ∃ t, t = decide (a < b) := ⟨_, rfl⟩
  have HT : Hid (wkV 11 a b = truV t) := Lib.hid (by rw [ht]; rfl)
  have hd : decide (a < b) = t := ht.symm
  have HF := Lib.hid (three_made (.int .i64 0) (.int .i64 0) (.bool false) 73 w)
  go_enter Try.func93, Try.ntmps93
  go_upto_region 1 with fail
  obtain ⟨W, hW⟩ : ∃ X, w.alloc (.cells #[.int .i64 0, .int .i64 0, .bool false] 73) = X := ⟨_, rfl⟩
  obtain ⟨k, b', s⟩ := HF.out W hW
  obtain ⟨z, hz⟩ : ∃ z, z = w.heap.size := ⟨_, rfl⟩
  rw [hW, ← hz]
  rw [← hz] at b'
  have HB := Lib.hid k
  have HX := Lib.hid b'
  have HZ := Lib.hid hz
  clear hW k b' s HF hz
  cases t with
  | true =>
    have h1 : a < b := of_decide_eq_true hd
    clear hd ht
    go_wp2_with (go_at_call 92; (with_reducible refine (CT.out true _).mono ?_); rintro e w4 ⟨rfl, hb⟩; have HB4 := Lib.hid hb; have HX4 := Lib.hid ((hb.block _ (lt_of_heap HX.out)).trans HX.out); obtain ⟨n0', n1', n2'⟩ := trio HX4.out; have p0 : w4.frozen? ⟨z, 0, none⟩ = false := free_blk HX4.out 0; have p1 : w4.frozen? ⟨z, 1, none⟩ = false := free_blk HX4.out 1; have p2 : w4.frozen? ⟨z, 2, none⟩ = false := free_blk HX4.out 2; clear hb)
    obtain ⟨W10, hW10⟩ : ∃ X, (((w4.setCell ⟨z, 0, none⟩ (.int .i64 2)).setCell ⟨z, 1, none⟩ (.int .i64 0)).setCell ⟨z, 2, none⟩ (.bool true)) = X := ⟨_, rfl⟩
    obtain ⟨k9, _, _, x9⟩ := three_set w4 z (.int .i64 2) (.int .i64 0) (.bool true) _ _ ⟨_, _, _, rfl⟩ HX4.out W10 hW10
    rw [hW10]
    clear n0' n1' n2' p0 p1 p2
    obtain ⟨d0, d1, d2⟩ := trio x9
    exact bodyPost_ret (v := .agg #[.int .i64 2, .int .i64 0, .bool true]) (by simp [results, Try.results93, go_sem, d0, d1, d2]) rfl ⟨by rw [HT.out]; rfl, (HB.out.trans (HB4.out.mono HB.out.size)).trans (k9.mono (by have := HZ.out; omega))⟩
  | false =>
    have h1 : ¬ a < b := of_decide_eq_false hd
    clear hd ht
    go_wp2_with (go_at_call 92; (with_reducible refine (CT.out false _).mono ?_); rintro e w4 ⟨rfl, hb⟩; have HB4 := Lib.hid hb; have HX4 := Lib.hid ((hb.block _ (lt_of_heap HX.out)).trans HX.out); obtain ⟨n0', n1', n2'⟩ := trio HX4.out; have p0 : w4.frozen? ⟨z, 0, none⟩ = false := free_blk HX4.out 0; have p1 : w4.frozen? ⟨z, 1, none⟩ = false := free_blk HX4.out 1; have p2 : w4.frozen? ⟨z, 2, none⟩ = false := free_blk HX4.out 2; clear hb)
    obtain ⟨W10, hW10⟩ : ∃ X, (((w4.setCell ⟨z, 0, none⟩ (.int .i64 2)).setCell ⟨z, 1, none⟩ (.int .i64 0)).setCell ⟨z, 2, none⟩ (.bool false)) = X := ⟨_, rfl⟩
    obtain ⟨k9, _, _, x9⟩ := three_set w4 z (.int .i64 2) (.int .i64 0) (.bool false) _ _ ⟨_, _, _, rfl⟩ HX4.out W10 hW10
    rw [hW10]
    clear n0' n1' n2' p0 p1 p2
    obtain ⟨d0, d1, d2⟩ := trio x9
    exact bodyPost_ret (v := .agg #[.int .i64 2, .int .i64 0, .bool false]) (by simp [results, Try.results93, go_sem, d0, d1, d2]) rfl ⟨by rw [HT.out]; rfl, (HB.out.trans (HB4.out.mono HB.out.size)).trans (k9.mono (by have := HZ.out; omega))⟩
set_option maxRecDepth 100000 in
set_option maxHeartbeats 4000000 in
theorem worked_12 (a b : Int) (w : World) : Calls Try.prog 93 #[.int .i64 12, .int .i64 a, .int .i64 b] w fun e w' => e = .returned (vlV (wkV 12 a b)) ∧ Below w.heap.size w w' := by
  have CT : Hid (∀ (t : Bool) W, Calls Try.prog 92 #[.bool t] W fun e w' => e = .returned (.agg #[.int .i64 2, .int .i64 0, .bool t]) ∧ Below W.heap.size W w') := Lib.hid fun t W => truth_any t W
  obtain ⟨t, ht⟩ : ∃ t, t = decide (a ≤ b) := ⟨_, rfl⟩
  have HT : Hid (wkV 12 a b = truV t) := Lib.hid (by rw [ht]; rfl)
  have hd : decide (a ≤ b) = t := ht.symm
  have HF := Lib.hid (three_made (.int .i64 0) (.int .i64 0) (.bool false) 73 w)
  go_enter Try.func93, Try.ntmps93
  go_upto_region 1 with fail
  obtain ⟨W, hW⟩ : ∃ X, w.alloc (.cells #[.int .i64 0, .int .i64 0, .bool false] 73) = X := ⟨_, rfl⟩
  obtain ⟨k, b', s⟩ := HF.out W hW
  obtain ⟨z, hz⟩ : ∃ z, z = w.heap.size := ⟨_, rfl⟩
  rw [hW, ← hz]
  rw [← hz] at b'
  have HB := Lib.hid k
  have HX := Lib.hid b'
  have HZ := Lib.hid hz
  clear hW k b' s HF hz
  cases t with
  | true =>
    have h1 : a ≤ b := of_decide_eq_true hd
    clear hd ht
    go_wp2_with (go_at_call 92; (with_reducible refine (CT.out true _).mono ?_); rintro e w4 ⟨rfl, hb⟩; have HB4 := Lib.hid hb; have HX4 := Lib.hid ((hb.block _ (lt_of_heap HX.out)).trans HX.out); obtain ⟨n0', n1', n2'⟩ := trio HX4.out; have p0 : w4.frozen? ⟨z, 0, none⟩ = false := free_blk HX4.out 0; have p1 : w4.frozen? ⟨z, 1, none⟩ = false := free_blk HX4.out 1; have p2 : w4.frozen? ⟨z, 2, none⟩ = false := free_blk HX4.out 2; clear hb)
    obtain ⟨W10, hW10⟩ : ∃ X, (((w4.setCell ⟨z, 0, none⟩ (.int .i64 2)).setCell ⟨z, 1, none⟩ (.int .i64 0)).setCell ⟨z, 2, none⟩ (.bool true)) = X := ⟨_, rfl⟩
    obtain ⟨k9, _, _, x9⟩ := three_set w4 z (.int .i64 2) (.int .i64 0) (.bool true) _ _ ⟨_, _, _, rfl⟩ HX4.out W10 hW10
    rw [hW10]
    clear n0' n1' n2' p0 p1 p2
    obtain ⟨d0, d1, d2⟩ := trio x9
    exact bodyPost_ret (v := .agg #[.int .i64 2, .int .i64 0, .bool true]) (by simp [results, Try.results93, go_sem, d0, d1, d2]) rfl ⟨by rw [HT.out]; rfl, (HB.out.trans (HB4.out.mono HB.out.size)).trans (k9.mono (by have := HZ.out; omega))⟩
  | false =>
    have h1 : ¬ a ≤ b := of_decide_eq_false hd
    clear hd ht
    go_wp2_with (go_at_call 92; (with_reducible refine (CT.out false _).mono ?_); rintro e w4 ⟨rfl, hb⟩; have HB4 := Lib.hid hb; have HX4 := Lib.hid ((hb.block _ (lt_of_heap HX.out)).trans HX.out); obtain ⟨n0', n1', n2'⟩ := trio HX4.out; have p0 : w4.frozen? ⟨z, 0, none⟩ = false := free_blk HX4.out 0; have p1 : w4.frozen? ⟨z, 1, none⟩ = false := free_blk HX4.out 1; have p2 : w4.frozen? ⟨z, 2, none⟩ = false := free_blk HX4.out 2; clear hb)
    obtain ⟨W10, hW10⟩ : ∃ X, (((w4.setCell ⟨z, 0, none⟩ (.int .i64 2)).setCell ⟨z, 1, none⟩ (.int .i64 0)).setCell ⟨z, 2, none⟩ (.bool false)) = X := ⟨_, rfl⟩
    obtain ⟨k9, _, _, x9⟩ := three_set w4 z (.int .i64 2) (.int .i64 0) (.bool false) _ _ ⟨_, _, _, rfl⟩ HX4.out W10 hW10
    rw [hW10]
    clear n0' n1' n2' p0 p1 p2
    obtain ⟨d0, d1, d2⟩ := trio x9
    exact bodyPost_ret (v := .agg #[.int .i64 2, .int .i64 0, .bool false]) (by simp [results, Try.results93, go_sem, d0, d1, d2]) rfl ⟨by rw [HT.out]; rfl, (HB.out.trans (HB4.out.mono HB.out.size)).trans (k9.mono (by have := HZ.out; omega))⟩
set_option maxRecDepth 100000 in
set_option maxHeartbeats 4000000 in
theorem worked_13 (a b : Int) (w : World) : Calls Try.prog 93 #[.int .i64 13, .int .i64 a, .int .i64 b] w fun e w' => e = .returned (vlV (wkV 13 a b)) ∧ Below w.heap.size w w' := by
  have CT : Hid (∀ (t : Bool) W, Calls Try.prog 92 #[.bool t] W fun e w' => e = .returned (.agg #[.int .i64 2, .int .i64 0, .bool t]) ∧ Below W.heap.size W w') := Lib.hid fun t W => truth_any t W
  obtain ⟨t, ht⟩ : ∃ t, t = decide (a = b) := ⟨_, rfl⟩
  have HT : Hid (wkV 13 a b = truV t) := Lib.hid (by rw [ht]; rfl)
  have hd : decide (a = b) = t := ht.symm
  have HF := Lib.hid (three_made (.int .i64 0) (.int .i64 0) (.bool false) 73 w)
  go_enter Try.func93, Try.ntmps93
  go_upto_region 1 with fail
  obtain ⟨W, hW⟩ : ∃ X, w.alloc (.cells #[.int .i64 0, .int .i64 0, .bool false] 73) = X := ⟨_, rfl⟩
  obtain ⟨k, b', s⟩ := HF.out W hW
  obtain ⟨z, hz⟩ : ∃ z, z = w.heap.size := ⟨_, rfl⟩
  rw [hW, ← hz]
  rw [← hz] at b'
  have HB := Lib.hid k
  have HX := Lib.hid b'
  have HZ := Lib.hid hz
  clear hW k b' s HF hz
  cases t with
  | true =>
    have h1 : a = b := of_decide_eq_true hd
    have f1 : (a == b) = true := by simp [h1]
    clear hd ht h1
    go_wp2_with (go_at_call 92; (with_reducible refine (CT.out true _).mono ?_); rintro e w4 ⟨rfl, hb⟩; have HB4 := Lib.hid hb; have HX4 := Lib.hid ((hb.block _ (lt_of_heap HX.out)).trans HX.out); obtain ⟨n0', n1', n2'⟩ := trio HX4.out; have p0 : w4.frozen? ⟨z, 0, none⟩ = false := free_blk HX4.out 0; have p1 : w4.frozen? ⟨z, 1, none⟩ = false := free_blk HX4.out 1; have p2 : w4.frozen? ⟨z, 2, none⟩ = false := free_blk HX4.out 2; clear hb)
    obtain ⟨W10, hW10⟩ : ∃ X, (((w4.setCell ⟨z, 0, none⟩ (.int .i64 2)).setCell ⟨z, 1, none⟩ (.int .i64 0)).setCell ⟨z, 2, none⟩ (.bool true)) = X := ⟨_, rfl⟩
    obtain ⟨k9, _, _, x9⟩ := three_set w4 z (.int .i64 2) (.int .i64 0) (.bool true) _ _ ⟨_, _, _, rfl⟩ HX4.out W10 hW10
    rw [hW10]
    clear n0' n1' n2' p0 p1 p2
    obtain ⟨d0, d1, d2⟩ := trio x9
    exact bodyPost_ret (v := .agg #[.int .i64 2, .int .i64 0, .bool true]) (by simp [results, Try.results93, go_sem, d0, d1, d2]) rfl ⟨by rw [HT.out]; rfl, (HB.out.trans (HB4.out.mono HB.out.size)).trans (k9.mono (by have := HZ.out; omega))⟩
  | false =>
    have h1 : ¬ a = b := of_decide_eq_false hd
    have f1 : (a == b) = false := by simp [h1]
    clear hd ht h1
    go_wp2_with (go_at_call 92; (with_reducible refine (CT.out false _).mono ?_); rintro e w4 ⟨rfl, hb⟩; have HB4 := Lib.hid hb; have HX4 := Lib.hid ((hb.block _ (lt_of_heap HX.out)).trans HX.out); obtain ⟨n0', n1', n2'⟩ := trio HX4.out; have p0 : w4.frozen? ⟨z, 0, none⟩ = false := free_blk HX4.out 0; have p1 : w4.frozen? ⟨z, 1, none⟩ = false := free_blk HX4.out 1; have p2 : w4.frozen? ⟨z, 2, none⟩ = false := free_blk HX4.out 2; clear hb)
    obtain ⟨W10, hW10⟩ : ∃ X, (((w4.setCell ⟨z, 0, none⟩ (.int .i64 2)).setCell ⟨z, 1, none⟩ (.int .i64 0)).setCell ⟨z, 2, none⟩ (.bool false)) = X := ⟨_, rfl⟩
    obtain ⟨k9, _, _, x9⟩ := three_set w4 z (.int .i64 2) (.int .i64 0) (.bool false) _ _ ⟨_, _, _, rfl⟩ HX4.out W10 hW10
    rw [hW10]
    clear n0' n1' n2' p0 p1 p2
    obtain ⟨d0, d1, d2⟩ := trio x9
    exact bodyPost_ret (v := .agg #[.int .i64 2, .int .i64 0, .bool false]) (by simp [results, Try.results93, go_sem, d0, d1, d2]) rfl ⟨by rw [HT.out]; rfl, (HB.out.trans (HB4.out.mono HB.out.size)).trans (k9.mono (by have := HZ.out; omega))⟩
set_option maxRecDepth 100000 in
set_option maxHeartbeats 4000000 in
theorem worked_14 (a b : Int) (w : World) : Calls Try.prog 93 #[.int .i64 14, .int .i64 a, .int .i64 b] w fun e w' => e = .returned (vlV (wkV 14 a b)) ∧ Below w.heap.size w w' := by
  have CT : Hid (∀ (t : Bool) W, Calls Try.prog 92 #[.bool t] W fun e w' => e = .returned (.agg #[.int .i64 2, .int .i64 0, .bool t]) ∧ Below W.heap.size W w') := Lib.hid fun t W => truth_any t W
  obtain ⟨t, ht⟩ : ∃ t, t = decide (a ≠ b) := ⟨_, rfl⟩
  have HT : Hid (wkV 14 a b = truV t) := Lib.hid (by rw [ht]; rfl)
  have hd : decide (a ≠ b) = t := ht.symm
  have HF := Lib.hid (three_made (.int .i64 0) (.int .i64 0) (.bool false) 73 w)
  go_enter Try.func93, Try.ntmps93
  go_upto_region 1 with fail
  obtain ⟨W, hW⟩ : ∃ X, w.alloc (.cells #[.int .i64 0, .int .i64 0, .bool false] 73) = X := ⟨_, rfl⟩
  obtain ⟨k, b', s⟩ := HF.out W hW
  obtain ⟨z, hz⟩ : ∃ z, z = w.heap.size := ⟨_, rfl⟩
  rw [hW, ← hz]
  rw [← hz] at b'
  have HB := Lib.hid k
  have HX := Lib.hid b'
  have HZ := Lib.hid hz
  clear hW k b' s HF hz
  cases t with
  | true =>
    have h1 : a ≠ b := of_decide_eq_true hd
    have f1 : (a == b) = false := by simp [h1]
    have f2 : (a != b) = true := by simp [h1]
    clear hd ht h1
    go_wp2_with (go_at_call 92; (with_reducible refine (CT.out true _).mono ?_); rintro e w4 ⟨rfl, hb⟩; have HB4 := Lib.hid hb; have HX4 := Lib.hid ((hb.block _ (lt_of_heap HX.out)).trans HX.out); obtain ⟨n0', n1', n2'⟩ := trio HX4.out; have p0 : w4.frozen? ⟨z, 0, none⟩ = false := free_blk HX4.out 0; have p1 : w4.frozen? ⟨z, 1, none⟩ = false := free_blk HX4.out 1; have p2 : w4.frozen? ⟨z, 2, none⟩ = false := free_blk HX4.out 2; clear hb)
    obtain ⟨W10, hW10⟩ : ∃ X, (((w4.setCell ⟨z, 0, none⟩ (.int .i64 2)).setCell ⟨z, 1, none⟩ (.int .i64 0)).setCell ⟨z, 2, none⟩ (.bool true)) = X := ⟨_, rfl⟩
    obtain ⟨k9, _, _, x9⟩ := three_set w4 z (.int .i64 2) (.int .i64 0) (.bool true) _ _ ⟨_, _, _, rfl⟩ HX4.out W10 hW10
    rw [hW10]
    clear n0' n1' n2' p0 p1 p2
    obtain ⟨d0, d1, d2⟩ := trio x9
    exact bodyPost_ret (v := .agg #[.int .i64 2, .int .i64 0, .bool true]) (by simp [results, Try.results93, go_sem, d0, d1, d2]) rfl ⟨by rw [HT.out]; rfl, (HB.out.trans (HB4.out.mono HB.out.size)).trans (k9.mono (by have := HZ.out; omega))⟩
  | false =>
    have h1 : ¬ a ≠ b := of_decide_eq_false hd
    have f1 : (a == b) = true := by simpa using h1
    have f2 : (a != b) = false := by simpa using h1
    clear hd ht h1
    go_wp2_with (go_at_call 92; (with_reducible refine (CT.out false _).mono ?_); rintro e w4 ⟨rfl, hb⟩; have HB4 := Lib.hid hb; have HX4 := Lib.hid ((hb.block _ (lt_of_heap HX.out)).trans HX.out); obtain ⟨n0', n1', n2'⟩ := trio HX4.out; have p0 : w4.frozen? ⟨z, 0, none⟩ = false := free_blk HX4.out 0; have p1 : w4.frozen? ⟨z, 1, none⟩ = false := free_blk HX4.out 1; have p2 : w4.frozen? ⟨z, 2, none⟩ = false := free_blk HX4.out 2; clear hb)
    obtain ⟨W10, hW10⟩ : ∃ X, (((w4.setCell ⟨z, 0, none⟩ (.int .i64 2)).setCell ⟨z, 1, none⟩ (.int .i64 0)).setCell ⟨z, 2, none⟩ (.bool false)) = X := ⟨_, rfl⟩
    obtain ⟨k9, _, _, x9⟩ := three_set w4 z (.int .i64 2) (.int .i64 0) (.bool false) _ _ ⟨_, _, _, rfl⟩ HX4.out W10 hW10
    rw [hW10]
    clear n0' n1' n2' p0 p1 p2
    obtain ⟨d0, d1, d2⟩ := trio x9
    exact bodyPost_ret (v := .agg #[.int .i64 2, .int .i64 0, .bool false]) (by simp [results, Try.results93, go_sem, d0, d1, d2]) rfl ⟨by rw [HT.out]; rfl, (HB.out.trans (HB4.out.mono HB.out.size)).trans (k9.mono (by have := HZ.out; omega))⟩
def pWork (o a b : Int) : Prop := InR a ∧ InR b ∧ (5 ≤ o ∧ o ≤ 16 ∨ o = 20)
theorem worked_any : ∀ o a b, pWork o a b → ∀ w, Calls Try.prog 93 #[.int .i64 o, .int .i64 a, .int .i64 b] w fun e w' => e = .returned (vlV (wkV o a b)) ∧ Below w.heap.size w w' := by
  rintro o a b ⟨ha, hb, ho⟩ w
  have : o = 5 ∨ o = 6 ∨ o = 7 ∨ o = 8 ∨ o = 9 ∨ o = 10 ∨ o = 11 ∨ o = 12 ∨ o = 13 ∨ o = 14 ∨ o = 15 ∨ o = 16 ∨ o = 20 := by omega
  rcases this with rfl | rfl | rfl | rfl | rfl | rfl | rfl | rfl | rfl | rfl | rfl | rfl | rfl
  · exact worked_5 a b ha hb w
  · exact worked_6 a b ha hb w
  · exact worked_7 a b ha hb w
  · exact worked_8 a b ha hb w
  · exact worked_9 a b w
  · exact worked_10 a b w
  · exact worked_11 a b w
  · exact worked_12 a b w
  · exact worked_13 a b w
  · exact worked_14 a b w
  · exact worked_15 a b w
  · exact worked_16 a b w
  · exact worked_20 a b ha hb w
end Go.Proofs.Ytidldlhhmophjaa
namespace Go.Proofs.Ytidldlhhmophjaa
open Go.RowKit Go.PlainAid Go.Sort
set_option linter.unusedVariables false
set_option linter.unusedSimpArgs false
theorem ev_is (sn : ByteArray → Option Fx) (day : Int) (x : Xp) : x.ev sn day = evN sn day x.op x.n x.nm (x.args.map (Xp.ev sn day)) := by
  cases x with
  | mk o n s l => show evN sn day o n s (Xp.ev.evs sn day l) = _; rw [evs_map]; rfl
theorem pl_num {o a b : Int} (h : 5 ≤ o ∧ o ≤ 10 ∨ o = 20) : plV o (numV a) (numV b) = wkV o a b := by
  unfold plV numV
  rw [if_neg (by simp), if_neg (by simp), if_neg (by omega)]
theorem wk_out {sn : ByteArray → Option Fx} {day o n v : Int} {s : ByteArray} {vs : List Int} (ho : 5 ≤ o ∧ o ≤ 10 ∨ o = 20) (h : wkO o vs = some v) : evN sn day o n s (vs.map numV) = numV v := by
  unfold evN
  rw [if_neg (by omega), if_neg (by omega), if_neg (by omega)]
  match vs, h with
  | [a], h =>
    show plV o (numV a) (numV a) = _
    rw [pl_num ho]
    unfold wkO at h
    dsimp only at h
    split at h
    · rename_i e
      have h2 : okI (-a) = some v := h
      rw [e]
      show okV (-a) = _
      rw [okV_out, h2]
      rfl
    · cases h
  | [a, b], h =>
    show (if o = 17 then _ else if o = 18 then _ else plV o (numV a) (numV b)) = _
    rw [if_neg (by omega), if_neg (by omega), pl_num ho]
    have h20 : o ≠ 20 := fun e => by subst e; simp [wkO] at h
    have : o = 5 ∨ o = 6 ∨ o = 7 ∨ o = 8 ∨ o = 9 ∨ o = 10 := by omega
    rcases this with rfl | rfl | rfl | rfl | rfl | rfl
    · show okV (a + b) = _
      rw [okV_out, show okI (a + b) = some v from h]; rfl
    · show okV (a - b) = _
      rw [okV_out, show okI (a - b) = some v from h]; rfl
    · show okV (a * b) = _
      rw [okV_out, show okI (a * b) = some v from h]; rfl
    · show (if b = 0 then brkV else okV (a.fdiv b)) = _
      rw [divV_out, show divO a b = some v from h]; rfl
    · have h' : some (min a b) = some v := h
      injection h' with h'
      rw [← h']; rfl
    · have h' : some (max a b) = some v := h
      injection h' with h'
      rw [← h']; rfl
theorem const_ev (sn : ByteArray → Option Fx) (day v : Int) : (Xp.mk 1 v ⟨#[]⟩ []).ev sn day = numV v := rfl
theorem neg_ev (sn : ByteArray → Option Fx) (day m : Int) (s : ByteArray) (h : InR (-m)) : evN sn day 20 0 s [numV m] = numV (-m) := by
  show plV 20 (numV m) (numV m) = _
  rw [pl_num (.inr rfl)]
  show okV (-m) = _
  unfold okV
  rw [if_pos ⟨h.1, h.2⟩]
theorem cB_ev {sn : ByteArray → Option Fx} {day : Int} {x : Xp} (h : x.cB = true) (hb : x.blt = true) (hr : x.rng) : x.ev sn day = numV x.cV := by
  rw [ev_is]
  unfold Xp.cB at h
  unfold Xp.cV
  by_cases h1 : x.op = 1 ∨ x.op = 2
  · rw [if_pos h1]
    unfold evN
    rw [if_pos h1]
  · rw [if_neg h1] at h ⊢
    have hl := xblt_len hb
    have hrr := ((Xp.rng_eq x).1 hr).2
    revert h hl hrr
    cases hargs : x.args with
    | nil => intro h; cases h
    | cons y t =>
      intro h hl hrr
      have h' : x.op = 20 ∧ y.op = 1 := of_decide_eq_true h
      have ht : t = [] := by
        have := hl.1
        rw [h'.1] at this
        simp [kidX] at this
        exact List.length_eq_zero_iff.1 (by omega)
      subst ht
      have hyb := hl.2.2 y (by simp)
      have hyr := ((Xp.rng_eq y).1 (hrr y (by simp))).1
      have hy0 : 0 ≤ y.n := by
        rw [y.blt_eq, h'.2] at hyb
        simp only [Bool.and_eq_true] at hyb
        have := hyb.1
        unfold okX at this
        simp at this
        omega
      have hye : y.ev sn day = numV y.n := by
        rw [ev_is]
        unfold evN
        rw [if_pos (.inl h'.2)]
      have hw : IntKind.i64.wrap (-y.n) = -y.n := IntWalk.i64_in _ ⟨by have := hyr.2; omega, by omega⟩
      show evN sn day x.op x.n x.nm [y.ev sn day] = numV (if x.op = 20 ∧ y.op = 1 then IntKind.i64.wrap (-y.n) else 0)
      rw [if_pos h', hw, hye, h'.1]
      show plV 20 (numV y.n) (numV y.n) = _
      rw [pl_num (.inr rfl)]
      show okV (-y.n) = _
      unfold okV
      rw [if_pos ⟨by have := hyr.2; omega, by omega⟩]
theorem fvs_all {l : List Xp} (h : ∀ y ∈ l, y.cB = true) : fvs l = l.map Xp.cV := by
  unfold fvs
  rw [List.filter_eq_self.2 h]
/-- What is folded is worth what it was. -/
theorem fo_ev (sn : ByteArray → Option Fx) (day : Int) (x : Xp) : x.blt = true → x.rng → x.fo.ev sn day = x.ev sn day := by
  induction x using Xp.ind with
  | h x IH =>
  intro hb hr
  have hlen := xblt_len hb
  have hrng := (Xp.rng_eq x).1 hr
  obtain ⟨l', hl'⟩ : ∃ l, l = x.args.map Xp.fo := ⟨_, rfl⟩
  have hev : l'.map (Xp.ev sn day) = x.args.map (Xp.ev sn day) := by
    rw [hl', List.map_map]
    exact List.map_congr_left fun y hy => IH y hy (hlen.2.2 y hy) (hrng.2 y hy)
  have hin : ∀ y' ∈ l', y'.blt = true ∧ y'.rng := fun y' hy' => by
    rw [hl'] at hy'
    obtain ⟨y, hy, rfl⟩ := List.mem_map.1 hy'
    have := (fo_kept y (hlen.2.2 y hy) (hrng.2 y hy)).1
    exact ⟨this.blt, this.rng⟩
  have hvs : ∀ a ∈ fvs l', InR a := fun a ha => by
    obtain ⟨y', hy', rfl⟩ := fvs_mem ha
    exact cV_in (hin y' hy').2
  have hbase : (Xp.mk x.op x.n x.nm l').ev sn day = x.ev sn day := by
    rw [ev_is, ev_is sn day x]
    show evN sn day x.op x.n x.nm (l'.map (Xp.ev sn day)) = _
    rw [hev]
  rw [x.fo_eq, ← hl']
  unfold foN
  by_cases hc : (fvs l').length < l'.length ∨ l' = []
  · rw [if_pos hc]; exact hbase
  · rw [if_neg hc]
    cases hw : wkO x.op (fvs l') with
    | none => exact hbase
    | some v =>
      obtain ⟨hv, ho⟩ := wkO_in hvs hw
      have hall := all_cB (fun h => hc (.inl h))
      have hx : x.ev sn day = numV v := by
        rw [ev_is, ← hev, show l'.map (Xp.ev sn day) = (fvs l').map numV from by
          rw [fvs_all hall, List.map_map]
          exact List.map_congr_left fun y' hy' => cB_ev (hall y' hy') (hin y' hy').1 (hin y' hy').2]
        exact wk_out ho hw
      simp only [foV]
      by_cases h1 : v = -9223372036854775808
      · rw [if_pos h1]; exact hbase
      · rw [if_neg h1]
        by_cases h2 : v < 0
        · rw [if_pos h2, hx]
          have hr1 := hv.1
          rw [show IntKind.i64.wrap (-v) = -v from IntWalk.i64_in _ ⟨by omega, by omega⟩]
          show evN sn day 20 0 ⟨#[]⟩ [numV (-v)] = _
          rw [neg_ev sn day (-v) ⟨#[]⟩ (by rw [Int.neg_neg]; exact hv), Int.neg_neg]
        · rw [if_neg h2, hx]
          exact const_ev sn day v
end Go.Proofs.Ytidldlhhmophjaa
namespace Go.Proofs.Ytidldlhhmophjaa
open Go.ChangeShapes Go.WideShapes Go.RowKit Go.Deep Go.WideElems Go.Maps Go.PlainAid Go.Sort
set_option linter.unusedVariables false
set_option linter.unusedSimpArgs false
theorem stepF_mem {day : Int} {nm : ByteArray} {b : Option Fx} {f g : Fx} (h : stepF day nm b f = some g) : b = some g ∨ g = f := by
  unfold stepF at h
  split at h
  · injection h with h; exact .inr h.symm
  · exact .inl h
theorem seenF_mem {day : Int} {nm : ByteArray} {f : Fx} : ∀ (l : List Fx) (b : Option Fx), l.foldl (stepF day nm) b = some f → b = some f ∨ f ∈ l
  | [], b, h => .inl h
  | g :: t, b, h => by
    rcases seenF_mem t _ h with h1 | h1
    · rcases stepF_mem h1 with h2 | h2
      · exact .inl h2
      · exact .inr (by rw [h2]; simp)
    · exact .inr (by simp [h1])
theorem okV_in (z : Int) : InR (okV z).n := by
  unfold okV
  split
  · rename_i h; exact h
  · exact ⟨by decide, by decide⟩
theorem zero_in : InR 0 := ⟨by omega, by omega⟩
theorem wkV_in (o a b : Int) (ha : InR a) (hb : InR b) : InR (wkV o a b).n := by
  unfold wkV
  by_cases h5 : o = 5
  · rw [if_pos h5]; exact okV_in _
  rw [if_neg h5]
  by_cases h6 : o = 6
  · rw [if_pos h6]; exact okV_in _
  rw [if_neg h6]
  by_cases h7 : o = 7
  · rw [if_pos h7]; exact okV_in _
  rw [if_neg h7]
  by_cases h8 : o = 8
  · rw [if_pos h8]
    by_cases h0 : b = 0
    · rw [if_pos h0]; exact zero_in
    · rw [if_neg h0]; exact okV_in _
  rw [if_neg h8]
  by_cases h9 : o = 9
  · rw [if_pos h9]; exact ⟨by have := ha.1; have := hb.1; show _ ≤ min a b; omega, by have := ha.2; have := hb.2; show min a b ≤ _; omega⟩
  rw [if_neg h9]
  by_cases h10 : o = 10
  · rw [if_pos h10]; exact ⟨by have := ha.1; have := hb.1; show _ ≤ max a b; omega, by have := ha.2; have := hb.2; show max a b ≤ _; omega⟩
  rw [if_neg h10]
  by_cases h20 : o = 20
  · rw [if_pos h20]; exact okV_in _
  rw [if_neg h20]
  have : ∀ v : Vl, (∃ t, v = truV t) → InR v.n := fun v ⟨t, h⟩ => by rw [h]; exact zero_in
  apply this
  repeat' split
  all_goals exact ⟨_, rfl⟩
theorem plV_in (o : Int) (a b : Vl) (ha : InR a.n) (hb : InR b.n) : InR (plV o a b).n := by
  unfold plV
  repeat' split
  all_goals first | exact zero_in | exact wkV_in _ _ _ ha hb
theorem jnV_in (d : Bool) (a b : Vl) (ha : InR a.n) (hb : InR b.n) : InR (jnV d a b).n := by
  unfold jnV
  repeat' split
  all_goals first | exact ha | exact hb | exact zero_in
theorem chV_in (a b c : Vl) (ha : InR a.n) (hb : InR b.n) (hc : InR c.n) : InR (chV a b c).n := by
  unfold chV
  repeat' split
  all_goals first | exact ha | exact hb | exact hc
theorem ev_in {sn : ByteArray → Option Fx} {day : Int} (hd : InR day) (hs : ∀ s f, sn s = some f → InR f.val) (x : Xp) : x.rng → InR (x.ev sn day).n := by
  induction x using Xp.ind with
  | h x IH =>
  intro hr
  have hrr := (Xp.rng_eq x).1 hr
  rw [x.ev_eq]
  have hv : ∀ v ∈ x.args.map (Xp.ev sn day), InR v.n := fun v hv => by
    obtain ⟨y, hy, rfl⟩ := List.mem_map.1 hv
    exact IH y hy (hrr.2 y hy)
  revert hv
  generalize x.args.map (Xp.ev sn day) = vs
  intro hv
  unfold evN
  split
  · exact hrr.1
  · split
    · exact hd
    · split
      · cases h : sn x.nm with
        | none => exact zero_in
        | some f => exact hs _ f h
      · match vs, hv with
        | [], _ => exact zero_in
        | [a], hv => exact plV_in _ _ _ (hv a (by simp)) (hv a (by simp))
        | [a, b], hv =>
          show InR (if x.op = 17 then _ else if x.op = 18 then _ else _ : Vl).n
          split
          · exact jnV_in _ _ _ (hv a (by simp)) (hv b (by simp))
          · split
            · exact jnV_in _ _ _ (hv a (by simp)) (hv b (by simp))
            · exact plV_in _ _ _ (hv a (by simp)) (hv b (by simp))
        | [a, b, c], hv => exact chV_in _ _ _ (hv a (by simp)) (hv b (by simp)) (hv c (by simp))
        | _ :: _ :: _ :: _ :: _, _ => exact zero_in
theorem wok_in {sn : ByteArray → Option Fx} {day : Int} (hd : InR day) (hs : ∀ s f, sn s = some f → InR f.val) (x : Xp) : x.rng → x.wok pWork sn day := by
  induction x using Xp.ind with
  | h x IH =>
  intro hr
  have hrr := (Xp.rng_eq x).1 hr
  refine (x.wok_eq pWork sn day).2 ⟨?_, fun y hy => IH y hy (hrr.2 y hy)⟩
  have hv : ∀ v ∈ x.args.map (Xp.ev sn day), InR v.n := fun v hv => by
    obtain ⟨y, hy, rfl⟩ := List.mem_map.1 hv
    exact ev_in hd hs y (hrr.2 y hy)
  revert hv
  generalize x.args.map (Xp.ev sn day) = vs
  intro hv
  match vs, hv with
  | [], _ => exact trivial
  | [a], hv => exact fun ho => ⟨hv a (by simp), hv a (by simp), .inr ho⟩
  | [a, b], hv => exact fun ho => ⟨hv a (by simp), hv b (by simp), .inl ho⟩
  | _ :: _ :: _ :: _, _ => exact trivial
def FxIn (F : List Fx) : Prop := ∀ f ∈ F, f.nm.size ≤ maxLen ∧ InR f.day ∧ InR f.val
theorem seen_in {F : List Fx} (h : FxIn F) (day : Int) (s : ByteArray) (f : Fx) (hf : seenF day s F = some f) : InR f.val := by
  rcases seenF_mem F none hf with h1 | h1
  · cases h1
  · exact (h f h1).2.2
set_option maxRecDepth 100000 in
theorem fixings_cells2 {H : Type} {enc : TypeId × Value → H} {W : World} {v : Value} {fuel : Nat} {y : DataW H × List MemPlace}
    (hf : DataW.trod enc Try.prog W 0 (fun _ => true) true fuel 56 [v] = some y) :
    ∃ ao cap, ∃ xs : List Fx, v = .slice ao xs.length cap ∧ xs.length ≤ cap ∧ cap ≤ maxLen ∧ FxIn xs ∧ FxA (fun b => b < W.heap.size) ao xs W := by
  rcases open_slice_fields Try.underlying56 Try.underlying80 (by kernel_rfl) (by
      intro j f hj
      match j, hj with
      | 0, hj => cases hj; exact ⟨rfl, by kernel_rfl⟩
      | 1, hj => cases hj; exact ⟨rfl, by kernel_rfl⟩
      | 2, hj => cases hj; exact ⟨rfl, by kernel_rfl⟩
      | j + 3, hj => simp at hj) hf with hcs | ⟨a, len, cap, hcs, hl, hm, hcell⟩
  · simp at hcs
    subst hcs
    exact ⟨none, 0, [], rfl, by simp, by unfold maxLen; omega, (by intro f hf; cases hf), fun h => absurd rfl h⟩
  · simp at hcs
    subst hcs
    have each : ∀ i, i < len → ∃ q : Fx, (q.nm.size ≤ maxLen ∧ InR q.day ∧ InR q.val) ∧ W.cell? (a.add (i * 3)) = some (.string q.nm) ∧ W.cell? (a.add (i * 3 + 1)) = some (.int .i64 q.day) ∧ W.cell? (a.add (i * 3 + 2)) = some (.int .i64 q.val) := by
      intro i hi
      obtain ⟨v0, n0, y0, c0, t0⟩ := hcell i hi 0 _ rfl
      obtain ⟨v1, n1, y1, c1, t1⟩ := hcell i hi 1 _ rfl
      obtain ⟨v2, n2, y2, c2, t2⟩ := hcell i hi 2 _ rfl
      obtain ⟨x0, e0, _, w0⟩ := DataW.trod_string Try.underlying9 t0
      obtain ⟨x1, e1, _, w1⟩ := DataW.trod_int Try.underlying3 t1
      obtain ⟨x2, e2, _, w2⟩ := DataW.trod_int Try.underlying2 t2
      simp at e0 e1 e2
      subst e0 e1 e2
      exact ⟨⟨x0, x1, x2⟩, ⟨w0, inr_of w1, inr_of w2⟩, c0, c1, c2⟩
    obtain ⟨q, hq⟩ := choose_to each ⟨ByteArray.empty, 0, 0⟩
    refine ⟨some a, cap, (List.range len).map q, by simp, by simpa using hl, hm, ?_, fun hne => ⟨a, rfl, ?_, fun i x hx => ?_⟩⟩
    · intro f hf
      obtain ⟨i, hi, rfl⟩ := List.mem_map.1 hf
      exact (hq i (List.mem_range.1 hi)).1
    · have hlen : 0 < len := by
        rcases Nat.eq_zero_or_pos len with h | h
        · subst h; simp at hne
        · exact h
      have := World.block_lt_of_cell? _ _ (hq 0 hlen).2.1
      rwa [add_block] at this
    · have hi : i < len := by
        rcases Nat.lt_or_ge i len with h | h
        · exact h
        · rw [List.getElem?_eq_none (by simpa using h)] at hx; simp at hx
      rw [List.getElem?_map, List.getElem?_range hi] at hx
      cases hx
      obtain ⟨_, c0, c1, c2⟩ := hq i hi
      have e2 : ∀ k, 0 < k → (⟨(a.add (i * 3)).block, (a.add (i * 3)).off + k, none⟩ : Addr) = a.add (i * 3 + k) := fun k hk => by unfold Addr.add; split <;> split <;> simp_all <;> omega
      exact ⟨c0, by rw [e2 1 (by omega)]; exact c1, by rw [e2 2 (by omega)]; exact c2⟩
end Go.Proofs.Ytidldlhhmophjaa
namespace Go.Proofs.Ytidldlhhmophjaa
open Go.RowKit Go.PlainAid Go.Sort
set_option linter.unusedVariables false
set_option linter.unusedSimpArgs false
/-- The observables that are not seen. -/
def Xp.mis (sn : ByteArray → Option Fx) : Xp → List ByteArray
  | .mk o _ s l => (if o = 3 ∧ (sn s).isNone = true then [s] else []) ++ miss l
where miss : List Xp → List ByteArray
  | [] => []
  | x :: t => x.mis sn ++ miss t
theorem Xp.mis_eq (sn : ByteArray → Option Fx) (x : Xp) : x.mis sn = (if x.op = 3 ∧ (sn x.nm).isNone = true then [x.nm] else []) ++ Xp.mis.miss sn x.args := by cases x; rfl
theorem miss_nil {sn : ByteArray → Option Fx} {l : List Xp} : Xp.mis.miss sn l = [] ↔ ∀ y ∈ l, y.mis sn = [] := by
  induction l with
  | nil => simp [Xp.mis.miss]
  | cons x t ih => simp [Xp.mis.miss, ih]
/-- Of a kind, broken or unknown. -/
def OfK (v : Vl) (k : Nat) (u : Prop) : Prop := v.kind = (k : Int) ∨ v.kind = 3 ∨ (v.kind = 0 ∧ u)
theorem okV_k (z : Int) (u : Prop) : OfK (okV z) 1 u := by
  unfold okV
  split
  · exact .inl rfl
  · exact .inr (.inl rfl)
theorem wkV_num (o a b : Int) (u : Prop) (h : 5 ≤ o ∧ o ≤ 10 ∨ o = 20) : OfK (wkV o a b) 1 u := by
  have : o = 5 ∨ o = 6 ∨ o = 7 ∨ o = 8 ∨ o = 9 ∨ o = 10 ∨ o = 20 := by omega
  rcases this with rfl | rfl | rfl | rfl | rfl | rfl | rfl
  · exact okV_k _ _
  · exact okV_k _ _
  · exact okV_k _ _
  · show OfK (if b = 0 then brkV else okV (a.fdiv b)) 1 u
    split
    · exact .inr (.inl rfl)
    · exact okV_k _ _
  · exact .inl rfl
  · exact .inl rfl
  · exact okV_k _ _
theorem wkV_tru (o a b : Int) (u : Prop) (h : 11 ≤ o ∧ o ≤ 16) : OfK (wkV o a b) 2 u := by
  have : o = 11 ∨ o = 12 ∨ o = 13 ∨ o = 14 ∨ o = 15 ∨ o = 16 := by omega
  rcases this with rfl | rfl | rfl | rfl | rfl | rfl <;> exact .inl rfl
theorem OfK.bad {v : Vl} {k : Nat} {u : Prop} (h : OfK v k u) (h1 : v.kind ≠ (k : Int)) (h2 : v.kind ≠ 3) : v.kind = 0 ∧ u := by
  rcases h with h | h | h
  · exact absurd h h1
  · exact absurd h h2
  · exact h
theorem plV_k {o : Int} {a b : Vl} {q k : Nat} {u : Prop} (ha : OfK a q u) (hb : OfK b q u) (hq : q ≠ 0) (hw : OfK (if o = 19 then truV (!a.b) else wkV o a.n b.n) k u) : OfK (plV o a b) k u := by
  unfold plV
  split
  · exact .inr (.inl rfl)
  · rename_i h1
    split
    · rename_i h2
      refine .inr (.inr ⟨rfl, ?_⟩)
      rcases h2 with h2 | h2
      · exact (ha.bad (by rw [h2]; omega) (by rw [h2]; omega)).2
      · exact (hb.bad (by rw [h2]; omega) (by rw [h2]; omega)).2
    · exact hw
theorem jnV_k {d : Bool} {a b : Vl} {u : Prop} (ha : OfK a 2 u) (hb : OfK b 2 u) : OfK (jnV d a b) 2 u := by
  unfold jnV
  split
  · exact ha
  · split
    · exact hb
    · rename_i h1 h2
      refine .inr (.inr ⟨rfl, ?_⟩)
      simp only [Bool.or_eq_true, decide_eq_true_eq, not_or] at h1 h2
      exact (ha.bad h2.1.1 h1.1).2
theorem chV_k {a b c : Vl} {k : Nat} {u : Prop} (ha : OfK a 2 u) (hb : OfK b k u) (hc : OfK c k u) : OfK (chV a b c) k u := by
  unfold chV
  split
  · split
    · exact hb
    · exact hc
  · rename_i h
    rcases ha with h1 | h1 | h1
    · exact absurd h1 h
    · exact .inr (.inl h1)
    · exact .inr (.inr h1)
theorem evN_k {sn : ByteArray → Option Fx} {day o n : Int} {s : ByteArray} {vs : List Vl} {ks : List Nat} {u : Prop} (hlen : (vs.length : Int) = kidX o) (h1 : 1 ≤ o ∧ o ≤ 21) (hl : ks.length = vs.length) (hv : ∀ (i : Nat) v k, vs[i]? = some v → ks[i]? = some k → k ≠ 0 → OfK v k u) (hs : o = 3 → (sn s).isNone = true → u) (hk : kndN o ks ≠ 0) : OfK (evN sn day o n s vs) (kndN o ks) u := by
  unfold evN
  unfold kidX at hlen
  by_cases q1 : o = 1 ∨ o = 2
  · rw [if_pos q1]
    unfold kndN
    rw [if_pos (by omega)]
    exact .inl rfl
  rw [if_neg q1]
  by_cases q4 : o = 4
  · rw [if_pos q4]
    unfold kndN
    rw [if_pos (by omega)]
    exact .inl rfl
  rw [if_neg q4]
  by_cases q3 : o = 3
  · rw [if_pos q3]
    unfold kndN
    rw [if_pos (by omega)]
    cases h : sn s with
    | none => exact .inr (.inr ⟨rfl, hs q3 (by rw [h]; rfl)⟩)
    | some f => exact .inl rfl
  rw [if_neg q3]
  have q5 : ¬ o ≤ 4 := by omega
  match vs, ks, hl with
  | [], ks, hl =>
    exfalso
    simp only [List.length_nil] at hlen
    (repeat' split at hlen) <;> omega
  | [a], [ka], _ =>
    have ho : o = 19 ∨ o = 20 := by
      simp only [List.length_cons, List.length_nil] at hlen
      (repeat' split at hlen) <;> omega
    have hva := hv 0 a ka rfl rfl
    rcases ho with rfl | rfl
    · show OfK (plV 19 a a) _ u
      have : ka = 2 := by
        by_cases e : ka = 2
        · exact e
        · exfalso; apply hk; simp [kndN, e]
      subst this
      exact plV_k (hva (by omega)) (hva (by omega)) (by omega) (.inl rfl)
    · show OfK (plV 20 a a) _ u
      have : ka = 1 := by
        by_cases e : ka = 1
        · exact e
        · exfalso; apply hk; simp [kndN, e]
      subst this
      exact plV_k (hva (by omega)) (hva (by omega)) (by omega) (by rw [if_neg (by omega)]; exact wkV_num _ _ _ _ (.inr rfl))
  | [a, b], [ka, kb], _ =>
    have ho : 5 ≤ o ∧ o ≤ 18 := by
      simp only [List.length_cons, List.length_nil] at hlen
      (repeat' split at hlen) <;> omega
    have hva := hv 0 a ka rfl rfl
    have hvb := hv 1 b kb rfl rfl
    show OfK (if o = 17 then jnV false a b else if o = 18 then jnV true a b else plV o a b) _ u
    by_cases hj : 17 ≤ o
    · have hkk : ka = 2 ∧ kb = 2 := by
        by_cases e : ka = 2 ∧ kb = 2
        · exact e
        · exfalso
          apply hk
          unfold kndN
          rw [if_neg q5, if_neg (by omega), if_neg (by omega), if_pos (by omega), if_neg (by simpa using e)]
      have hr : kndN o [ka, kb] = 2 := by
        unfold kndN
        rw [if_neg q5, if_neg (by omega), if_neg (by omega), if_pos (by omega), hkk.1, hkk.2]; rfl
      obtain ⟨rfl, rfl⟩ := hkk
      rw [hr]
      split
      · exact jnV_k (hva (by omega)) (hvb (by omega))
      · rw [if_pos (by omega)]
        exact jnV_k (hva (by omega)) (hvb (by omega))
    · rw [if_neg (by omega), if_neg (by omega)]
      have hkk : ka = 1 ∧ kb = 1 := by
        by_cases e : ka = 1 ∧ kb = 1
        · exact e
        · exfalso
          apply hk
          unfold kndN
          rw [if_neg q5]
          by_cases h10 : o ≤ 10 ∨ o = 20
          · rw [if_pos h10, if_neg (by simpa using e)]
          · rw [if_neg h10, if_pos (by omega), if_neg (by simpa using e)]
      obtain ⟨rfl, rfl⟩ := hkk
      refine plV_k (hva (by omega)) (hvb (by omega)) (by omega) ?_
      rw [if_neg (by omega)]
      unfold kndN
      rw [if_neg q5]
      by_cases h10 : o ≤ 10 ∨ o = 20
      · rw [if_pos h10]; exact wkV_num _ _ _ _ (by omega)
      · rw [if_neg h10, if_pos (by omega)]; exact wkV_tru _ _ _ _ (by omega)
  | [a, b, c], [ka, kb, kc], _ =>
    have ho : o = 21 := by
      simp only [List.length_cons, List.length_nil] at hlen
      (repeat' split at hlen) <;> omega
    subst ho
    have hva := hv 0 a ka rfl rfl
    have hvb := hv 1 b kb rfl rfl
    have hvc := hv 2 c kc rfl rfl
    have hkk : ka = 2 ∧ kc = kb := by
      by_cases e : ka = 2 ∧ kc = kb
      · exact e
      · exfalso
        apply hk
        show (if ka = 2 then (if [kc].all (· == kb) then kb else 0) else 0) = 0
        by_cases e2 : ka = 2
        · rw [if_pos e2, if_neg (by simpa using fun h => e ⟨e2, h⟩)]
        · rw [if_neg e2]
    obtain ⟨rfl, rfl⟩ := hkk
    have hr : kndN 21 [2, kc, kc] = kc := by
      show (if 2 = 2 then (if [kc].all (· == kc) then kc else 0) else 0) = kc
      rw [if_pos rfl, if_pos (by simp)]
    rw [hr] at hk ⊢
    exact chV_k (hva (by omega)) (hvb hk) (hvc hk)
  | _ :: _ :: _ :: _ :: _, ks, hl =>
    exfalso
    simp only [List.length_cons] at hlen
    (repeat' split at hlen) <;> omega
/-- A value is of its expression's kind, or broken, or unknown; unknown only where an observable is not seen. -/
theorem ev_kind (sn : ByteArray → Option Fx) (day : Int) (x : Xp) : x.blt = true → x.knd ≠ 0 → OfK (x.ev sn day) x.knd (x.mis sn ≠ []) := by
  induction x using Xp.ind with
  | h x IH =>
  intro hb hk
  obtain ⟨hlen, ho, hbl⟩ := xblt_len hb
  rw [x.knd_eq] at hk
  rw [x.ev_eq, x.knd_eq]
  have hm := x.mis_eq sn
  refine evN_k (by rw [List.length_map]; exact hlen) ho (by simp) (fun i v k h1 h2 h3 => ?_) (fun h3 h4 => ?_) hk
  · rw [List.getElem?_map] at h1 h2
    cases hy : x.args[i]? with
    | none => rw [hy] at h1; cases h1
    | some y =>
      rw [hy] at h1 h2
      cases h1
      cases h2
      have hmem := List.mem_of_getElem? hy
      rcases IH y hmem (hbl y hmem) h3 with h | h | ⟨h, hu⟩
      · exact .inl h
      · exact .inr (.inl h)
      · refine .inr (.inr ⟨h, fun e => hu ?_⟩)
        rw [hm] at e
        exact miss_nil.1 (List.append_eq_nil_iff.1 e).2 y hmem
  · rw [hm, if_pos ⟨h3, h4⟩]; simp
/-- What is known stays, or is broken. -/
def Stays (a b : Vl) : Prop := (a.kind = 1 ∨ a.kind = 2) → b = a ∨ b.kind = 3
theorem isT_eq {v : Vl} {d : Bool} (h : isT v d = true) : v = truV d := by
  obtain ⟨k, n, b⟩ := v
  unfold isT at h
  simp only [Bool.and_eq_true, beq_iff_eq] at h
  obtain ⟨rfl, rfl, rfl⟩ := h
  rfl
theorem isT_self (d : Bool) : isT (truV d) d = true := by cases d <;> rfl
theorem jn_brk {d : Bool} {a b : Vl} (h : a.kind = 3) : jnV d a b = a := by unfold jnV; rw [if_pos (by simp [h])]
theorem jn_dec {d : Bool} {b : Vl} : jnV d (truV d) b = truV d := by unfold jnV; rw [if_pos (by simp [isT_self])]
theorem jn_tru {d : Bool} {a b : Vl} (h : a.kind = 2) (hn : ¬ isT a d = true) : jnV d a b = b := by
  unfold jnV
  rw [if_neg (by simp [h]; simpa using hn), if_pos (by simp [h])]
theorem jn_brkb {d : Bool} {a b : Vl} (h0 : a.kind ≠ 3) (hn : ¬ isT a d = true) (h : b.kind = 3) : jnV d a b = b := by
  unfold jnV
  rw [if_neg (by simp [h0]; simpa using hn), if_pos (by simp [h])]
theorem jn_decb {d : Bool} {a : Vl} (h0 : a.kind ≠ 3) (hn : ¬ isT a d = true) : jnV d a (truV d) = truV d := by
  unfold jnV
  rw [if_neg (by simp [h0]; simpa using hn), if_pos (by simp [isT_self])]
theorem plV_st {o : Int} {a b a' b' : Vl} (ha : Stays a a') (hb : Stays b b') (ka : a.kind = 0 ∨ a.kind = 1 ∨ a.kind = 2 ∨ a.kind = 3) (kb : b.kind = 0 ∨ b.kind = 1 ∨ b.kind = 2 ∨ b.kind = 3) : Stays (plV o a b) (plV o a' b') := by
  intro h
  by_cases h3 : a.kind = 3 ∨ b.kind = 3
  · unfold plV at h
    rw [if_pos h3] at h
    simp [brkV] at h
  by_cases h0 : a.kind = 0 ∨ b.kind = 0
  · unfold plV at h
    rw [if_neg h3, if_pos h0] at h
    simp [unkV] at h
  have e1 : a.kind = 1 ∨ a.kind = 2 := by omega
  have e2 : b.kind = 1 ∨ b.kind = 2 := by omega
  rcases ha e1 with rfl | h1
  · rcases hb e2 with rfl | h1
    · exact .inl rfl
    · right; unfold plV; rw [if_pos (.inr h1)]; rfl
  · right; unfold plV; rw [if_pos (.inl h1)]; rfl
theorem jnV_st {d : Bool} {a b a' b' : Vl} (ha : Stays a a') (hb : Stays b b') : Stays (jnV d a b) (jnV d a' b') := by
  intro h
  by_cases h3 : a'.kind = 3
  · rw [jn_brk h3]; exact .inr h3
  by_cases hk : a.kind = 3
  · rw [jn_brk hk] at h; omega
  by_cases ht : isT a d = true
  · have := isT_eq ht
    subst this
    rcases ha (.inr rfl) with rfl | h1
    · rw [jn_dec, jn_dec]; exact .inl rfl
    · exact absurd h1 h3
  by_cases h2 : a.kind = 2
  · rw [jn_tru h2 ht] at h ⊢
    rcases ha (.inr h2) with rfl | h1
    · rw [jn_tru h2 ht]; exact hb h
    · exact absurd h1 h3
  · by_cases hb3 : b.kind = 3
    · rw [jn_brkb hk ht hb3] at h; omega
    by_cases hbt : isT b d = true
    · have := isT_eq hbt
      subst this
      rw [jn_decb hk ht]
      by_cases ht' : isT a' d = true
      · rw [isT_eq ht', jn_dec]; exact .inl rfl
      · rcases hb (.inr rfl) with rfl | h1
        · rw [jn_decb h3 ht']; exact .inl rfl
        · rw [jn_brkb h3 ht' h1]; exact .inr h1
    · unfold jnV at h
      rw [if_neg (by simp [hk]; simpa using ht), if_neg (by simp [h2, hb3]; simpa using hbt)] at h
      simp [unkV] at h
theorem chV_st {a b c a' b' c' : Vl} (ha : Stays a a') (hb : Stays b b') (hc : Stays c c') : Stays (chV a b c) (chV a' b' c') := by
  intro h
  have hbrk : a'.kind = 3 → chV a' b' c' = a' := fun h => by unfold chV; rw [if_neg (by omega)]
  by_cases h2 : a.kind = 2
  · rcases ha (.inr h2) with rfl | h1
    · unfold chV at h ⊢
      rw [if_pos h2] at h ⊢
      rw [if_pos h2]
      cases e : a'.b with
      | true => rw [e] at h; rw [if_pos rfl] at h ⊢; rw [if_pos rfl]; exact hb h
      | false => rw [e] at h; rw [if_neg (by simp)] at h ⊢; rw [if_neg (by simp)]; exact hc h
    · rw [hbrk h1]; exact .inr h1
  · have e : chV a b c = a := by unfold chV; rw [if_neg h2]
    rw [e] at h ⊢
    rcases ha h with rfl | h1
    · left; unfold chV; rw [if_neg h2]
    · rw [hbrk h1]; exact .inr h1
theorem okV_four (z : Int) : (okV z).kind = 1 ∨ (okV z).kind = 3 := by
  unfold okV
  split
  · exact .inl rfl
  · exact .inr rfl
theorem wkV_four (o a b : Int) : (wkV o a b).kind = 1 ∨ (wkV o a b).kind = 2 ∨ (wkV o a b).kind = 3 := by
  by_cases h : 5 ≤ o ∧ o ≤ 10 ∨ o = 20
  · rcases wkV_num o a b False h with h | h | h
    · exact .inl h
    · exact .inr (.inr h)
    · exact h.2.elim
  · have : ∃ t, wkV o a b = truV t := by
      unfold wkV
      rw [if_neg (by omega), if_neg (by omega), if_neg (by omega), if_neg (by omega), if_neg (by omega), if_neg (by omega), if_neg (by omega)]
      repeat' split
      all_goals exact ⟨_, rfl⟩
    obtain ⟨t, ht⟩ := this
    rw [ht]
    exact .inr (.inl rfl)
theorem plV_four (o : Int) (a b : Vl) : (plV o a b).kind = 0 ∨ (plV o a b).kind = 1 ∨ (plV o a b).kind = 2 ∨ (plV o a b).kind = 3 := by
  unfold plV
  repeat' split
  · simp [brkV]
  · simp [unkV]
  · simp [truV]
  · exact .inr (wkV_four _ _ _)
theorem ev_four (sn : ByteArray → Option Fx) (day : Int) (x : Xp) : (x.ev sn day).kind = 0 ∨ (x.ev sn day).kind = 1 ∨ (x.ev sn day).kind = 2 ∨ (x.ev sn day).kind = 3 := by
  induction x using Xp.ind with
  | h x IH =>
  rw [x.ev_eq]
  have hv : ∀ v ∈ x.args.map (Xp.ev sn day), v.kind = 0 ∨ v.kind = 1 ∨ v.kind = 2 ∨ v.kind = 3 := fun v hv => by
    obtain ⟨y, hy, rfl⟩ := List.mem_map.1 hv
    exact IH y hy
  revert hv
  generalize x.args.map (Xp.ev sn day) = vs
  intro hv
  have hj : ∀ d (a b : Vl), a ∈ vs → b ∈ vs → (jnV d a b).kind = 0 ∨ (jnV d a b).kind = 1 ∨ (jnV d a b).kind = 2 ∨ (jnV d a b).kind = 3 := fun d a b ha hb => by
    unfold jnV
    repeat' split
    · exact hv a ha
    · exact hv b hb
    · simp [unkV]
  unfold evN
  split
  · simp [numV]
  · split
    · simp [numV]
    · split
      · cases sn x.nm <;> simp [numV, unkV]
      · match vs, hv, hj with
        | [], _, _ => simp [unkV]
        | [a], _, _ => exact plV_four _ _ _
        | [a, b], hv, hj =>
          dsimp only
          split
          · exact hj _ a b (by simp) (by simp)
          · split
            · exact hj _ a b (by simp) (by simp)
            · exact plV_four _ _ _
        | [a, b, c], hv, _ =>
          dsimp only
          unfold chV
          repeat' split
          · exact hv b (by simp)
          · exact hv c (by simp)
          · exact hv a (by simp)
        | _ :: _ :: _ :: _ :: _, _, _ => simp [unkV]
theorem evN_st {sn sn' : ByteArray → Option Fx} {day o n : Int} {s : ByteArray} {vs vs' : List Vl} (hl : vs.length = vs'.length) (hv : ∀ (i : Nat) v v', vs[i]? = some v → vs'[i]? = some v' → Stays v v') (h4 : ∀ v ∈ vs, v.kind = 0 ∨ v.kind = 1 ∨ v.kind = 2 ∨ v.kind = 3) (hs : ∀ t f, sn t = some f → sn' t = some f) : Stays (evN sn day o n s vs) (evN sn' day o n s vs') := by
  unfold evN
  by_cases q1 : o = 1 ∨ o = 2
  · rw [if_pos q1, if_pos q1]; exact fun _ => .inl rfl
  rw [if_neg q1, if_neg q1]
  by_cases q4 : o = 4
  · rw [if_pos q4, if_pos q4]; exact fun _ => .inl rfl
  rw [if_neg q4, if_neg q4]
  by_cases q3 : o = 3
  · rw [if_pos q3, if_pos q3]
    cases h : sn s with
    | none => intro hh; simp [unkV] at hh
    | some f => rw [hs s f h]; exact fun _ => .inl rfl
  rw [if_neg q3, if_neg q3]
  match vs, vs', hl with
  | [], [], _ => exact fun _ => .inl rfl
  | [a], [a'], _ => exact plV_st (hv 0 a a' rfl rfl) (hv 0 a a' rfl rfl) (h4 a (by simp)) (h4 a (by simp))
  | [a, b], [a', b'], _ =>
    show Stays (if o = 17 then jnV false a b else if o = 18 then jnV true a b else plV o a b) (if o = 17 then jnV false a' b' else if o = 18 then jnV true a' b' else plV o a' b')
    by_cases q17 : o = 17
    · rw [if_pos q17, if_pos q17]; exact jnV_st (hv 0 a a' rfl rfl) (hv 1 b b' rfl rfl)
    rw [if_neg q17, if_neg q17]
    by_cases q18 : o = 18
    · rw [if_pos q18, if_pos q18]; exact jnV_st (hv 0 a a' rfl rfl) (hv 1 b b' rfl rfl)
    rw [if_neg q18, if_neg q18]
    exact plV_st (hv 0 a a' rfl rfl) (hv 1 b b' rfl rfl) (h4 a (by simp)) (h4 b (by simp))
  | [a, b, c], [a', b', c'], _ => exact chV_st (hv 0 a a' rfl rfl) (hv 1 b b' rfl rfl) (hv 2 c c' rfl rfl)
  | _ :: _ :: _ :: _ :: _, _ :: _ :: _ :: _ :: _, _ => exact fun _ => .inl rfl
/-- Where more is seen, what is known stays, or is broken. -/
theorem ev_stays {sn sn' : ByteArray → Option Fx} (hs : ∀ t f, sn t = some f → sn' t = some f) (day : Int) (x : Xp) : Stays (x.ev sn day) (x.ev sn' day) := by
  induction x using Xp.ind with
  | h x IH =>
  rw [x.ev_eq, x.ev_eq]
  refine evN_st (by simp) (fun i v v' h1 h2 => ?_) (fun v hv => ?_) hs
  · rw [List.getElem?_map] at h1 h2
    cases hy : x.args[i]? with
    | none => rw [hy] at h1; cases h1
    | some y =>
      rw [hy] at h1 h2
      cases h1
      cases h2
      exact IH y (List.mem_of_getElem? hy)
  · obtain ⟨y, hy, rfl⟩ := List.mem_map.1 hv
    exact ev_four sn day y
theorem seen_later {F : List Fx} {f : Fx} {day : Int} (h : day < f.day) (s : ByteArray) : seenF day s (F ++ [f]) = seenF day s F := by
  rw [seenF_snoc]
  unfold stepF
  rw [if_neg (by omega)]
theorem seen_more {F : List Fx} {f : Fx} {day : Int} (h : seenF day f.nm F = none) (t : ByteArray) (g : Fx) (hg : seenF day t F = some g) : seenF day t (F ++ [f]) = some g := by
  rw [seenF_snoc]
  unfold stepF
  split
  · rename_i hc
    have e : f.nm = t := by
      have := hc.1
      cases hf : f.nm; cases ht : t
      rw [hf, ht] at this
      exact congrArg _ (Array.toList_inj.1 (by simpa [ByteArray.toList_eq] using this))
    rw [e, hg] at h
    cases h
  · exact hg
end Go.Proofs.Ytidldlhhmophjaa
namespace Go.Proofs.Ytidldlhhmophjaa
open Go.RowKit Go.PlainAid Go.Sort
set_option linter.unusedVariables false
set_option linter.unusedSimpArgs false
theorem VAt.wide {B C : Nat} {ao : Option Addr} {l : List Value} {w : World} (h : VAt B ao l w) (k : B ≤ C) : VAt C ao l w := ⟨h.there, fun a e hp => ⟨Nat.lt_of_lt_of_le (h.cells a e hp).1 k, (h.cells a e hp).2⟩⟩
theorem LfAt.wide {B C : Nat} {ao : Option Addr} {l : List Lf} {w : World} (h : LfAt B ao l w) (k : B ≤ C) : LfAt C ao l w := ⟨h.there, fun a e hp => ⟨Nat.lt_of_lt_of_le (h.cells a e hp).1 k, fun i x hi => by
  obtain ⟨bo, m, h1, h2, h3, h4⟩ := (h.cells a e hp).2 i x hi
  exact ⟨bo, m, h1, h2, h3, h4.wide k⟩⟩⟩
def LastP (w : World) (xs : List Xp) (e : Ending) (w' : World) : Prop := ((∃ x co ck, x ∈ xs ∧ x.rgt = true ∧ x.knd ≠ 0 ∧ e = .returned (.tuple #[exV x co ck, .bool true]) ∧ x.args.length ≤ ck ∧ ExL (fun b => w.heap.size ≤ b ∧ b < w'.heap.size) w' x.args co) ∨ e = .returned (.tuple #[.agg #[.int .i64 0, .int .i64 0, .string ⟨#[]⟩, .slice none 0 0], .bool false])) ∧ Below w.heap.size w w'
set_option maxRecDepth 100000 in
set_option maxHeartbeats 8000000 in
theorem last_any {ls : List Lf} {ao : Option Addr} {cap : Nat} (w : World) (hl : LfAt w.heap.size ao ls w) (hfl : ∀ f ∈ ls, f.nm.size ≤ maxLen) (hg : ls.length ≤ 60) :
    Calls Try.prog 45 #[.slice ao ls.length cap] w (LastP w (bXs ls)) := by
  have CB : Hid (∀ W, Below w.heap.size w W → Calls Try.prog 15 #[.slice ao ls.length cap, .slice none 0 0] W (BuildP W (bXs ls) (bTs (bXs ls) []))) := Lib.hid fun W hW => rbuild_any (cap := cap) (kap := 0) (ks := []) (co := none) W ((hl.under hW).wide hW.size) (no_knots _ _ _) (by omega) (by simp)
  have hxl := bXs_len ls ls.length (Nat.le_refl _)
  have hxf := bXs_fit ls hfl ls.length (Nat.le_refl _)
  have hxt := bXs_thin ls ls.length (Nat.le_refl _)
  rw [List.take_length] at hxl hxf hxt
  obtain ⟨xs, hxs⟩ : ∃ xs, xs = bXs ls := ⟨_, rfl⟩
  rw [← hxs] at CB hxl hxf hxt ⊢
  obtain ⟨ts, hts⟩ : ∃ ts, ts = bTs xs ([] : List Kn) := ⟨_, rfl⟩
  rw [← hts] at CB
  obtain ⟨n, hn⟩ : ∃ n, n = ls.length := ⟨_, rfl⟩
  rw [← hn] at CB hg ⊢
  rw [← hn] at hxl hxt
  obtain ⟨L, hL⟩ : ∃ L, L = xs.length := ⟨_, rfl⟩
  obtain ⟨L2, hL2⟩ : ∃ L, L = ts.length := ⟨_, rfl⟩
  have HLX := Lib.hid hL.symm
  have HLT := Lib.hid hL2.symm
  have hL60 : L ≤ 60 := by omega
  have HXF := Lib.hid hxf
  have HXT : Hid (∀ x ∈ xs, x.thin ∧ x.dep ≤ 900) := Lib.hid fun x hx => ⟨(hxt x hx).1, by have := (hxt x hx).2; omega⟩
  have H60 : Hid (xs.length ≤ 60) := Lib.hid (by omega)
  clear hg hl hfl hxl hxf hxt hxs hts hn hL hL2
  have GZ := Lib.hid (cells_made #[.int .i64 0, .int .i64 0, .string ⟨#[]⟩, .slice none 0 0] 34 w)
  go_enter Try.func45, Try.ntmps45
  go_upto_region 1 with fail
  obtain ⟨z, hz⟩ : ∃ z, z = w.heap.size := ⟨_, rfl⟩
  obtain ⟨WZ, hWZ⟩ : ∃ X, w.alloc (.cells #[.int .i64 0, .int .i64 0, .string ⟨#[]⟩, .slice none 0 0] 34) = X := ⟨_, rfl⟩
  obtain ⟨g1, b1, s1⟩ := GZ.out WZ hWZ
  rw [hWZ, ← hz]
  rw [← hz] at b1 s1
  have HG0 : Hid (Below w.heap.size w WZ ∧ WZ.heap.size = z + 1 ∧ w.heap.size ≤ z) := Lib.hid ⟨g1, s1, by omega⟩
  have HZA : Hid (∀ V, Below WZ.heap.size WZ V → V.heap[z]? = some (.cells #[.int .i64 0, .int .i64 0, .string ⟨#[]⟩, .slice none 0 0] 34 (0, 0))) := Lib.hid fun V hV => (hV.block z (by omega)).trans b1
  have CB2 := Lib.hid (CB.out WZ g1)
  clear g1 b1 s1 hWZ GZ hz CB
  go_upto_region 2 with (go_at_call 15; (with_reducible refine CB2.out.mono ?_); rintro e w1 ⟨R, a0, a1, a2, a3, a4, a5, c0, c1, c2, c3, c4, c5, he, hbt, hR, hcs, hb⟩; obtain rfl : e = Ending.returned (.agg #[.slice a0 L c0, .slice a1 L c1, .slice a2 L c2, .slice a3 L2 c3, .slice a4 L2 c4, .slice a5 L2 c5]) := (by rw [he]; unfold treeV; rw [HLX.out, HLT.out]); have HRL := Lib.hid hR; have HMD := Lib.hid (lawT_made (c0 := c0) (c1 := c1) (c2 := c2) (c3 := c3) (c4 := c4) (c5 := c5) hbt hR hb HLX.out HLT.out); clear he hbt hR hb hcs; obtain ⟨⟨r0, r1, r2, r3, r4, r5⟩, p0, p1, p2, p3, p4, p5⟩ := six_zero w1 _ rfl)
  clear r0 r1 r2 r3 r4 r5 p0 p1 p2 p3 p4 p5 CB2
  obtain ⟨W0, hW⟩ : ∃ X, w1.alloc (.cells #[.slice a0 L c0, .slice a1 L c1, .slice a2 L c2, .slice a3 L2 c3, .slice a4 L2 c4, .slice a5 L2 c5] 29) = X := ⟨_, rfl⟩
  have HT := Lib.hid (HMD.out W0 hW)
  obtain ⟨tb, htb⟩ : ∃ z, z = w1.heap.size := ⟨_, rfl⟩
  rw [hW, ← htb]
  rw [← htb] at HT
  clear HMD hW htb
  obtain ⟨t0, t1, t2, t3, t4, t5⟩ := HT.out.cells
  go_upto_region 3 with fail
  by_cases hL0 : L = 0
  · subst hL0
    have HBW := Lib.hid HT.out.bel
    obtain ⟨d0, d1, d2, d3⟩ := quad (HZA.out W0 HT.out.bel)
    have p0 : (W0).frozen? ⟨z, 0, none⟩ = false := free_blk (HZA.out W0 HT.out.bel) 0
    have p1 : (W0).frozen? ⟨z, 1, none⟩ = false := free_blk (HZA.out W0 HT.out.bel) 1
    have p2 : (W0).frozen? ⟨z, 2, none⟩ = false := free_blk (HZA.out W0 HT.out.bel) 2
    have p3 : (W0).frozen? ⟨z, 3, none⟩ = false := free_blk (HZA.out W0 HT.out.bel) 3
    go_wp2_with fail
    have HS10 := Lib.hid (four_set W0 z (.int .i64 0) (.int .i64 0) (.string ⟨#[]⟩) (.slice none 0 0) _ _ ⟨_, _, _, _, rfl⟩ (HZA.out W0 HT.out.bel))
    clear d0 d1 d2 d3 p0 p1 p2 p3
    obtain ⟨W10, hW10⟩ : ∃ Y, (((W0.setCell ⟨z, 0, none⟩ (.int .i64 0)).setCell ⟨z, 1, none⟩ (.int .i64 0)).setCell ⟨z, 2, none⟩ (.string ⟨#[]⟩)).setCell ⟨z, 3, none⟩ (.slice none 0 0) = Y := ⟨_, rfl⟩
    rw [hW10]
    obtain ⟨k10, h10, s10, x10⟩ := HS10.out W10 hW10
    obtain ⟨u0, u1, u2, u3⟩ := quad x10
    exact bodyPost_ret (v := .tuple #[.agg #[.int .i64 0, .int .i64 0, .string ⟨#[]⟩, .slice none 0 0], .bool false]) (by simp [results, Try.results45, go_sem, u0, u1, u2, u3]) rfl ⟨.inr rfl, (below_mono HG0.out.1 HBW.out (Nat.le_refl _)).trans (k10 _ (by have := HG0.out.2.2; omega))⟩
  · obtain ⟨M, hM⟩ : ∃ M, L = M + 1 := ⟨L - 1, by omega⟩
    have hs1 : IntKind.i64.wrap ((L : Int) - 1) = (M : Int) := (IntWalk.i64_in _ (by omega)).trans (by omega)
    have hL0' : ¬ (L : Int) = 0 := by omega
    obtain ⟨x, hx⟩ : ∃ x, xs[M]? = some x := ⟨_, List.getElem?_eq_getElem (by rw [HLX.out]; omega)⟩
    have hmem := List.mem_of_getElem? hx
    have hfx := HXF.out x hmem
    obtain ⟨a, co, ck, rfl, hra, hck, ⟨y0, y1, y2, y3⟩, hex⟩ := HT.out.bt.exprs.get hx
    have i1 : (M : Int) < (L : Int) := by omega
    have i2 : (0 : Int) ≤ (M : Int) := by omega
    have CR : Hid (Calls Try.prog 17 #[.agg #[.slice (some a) L c0, .slice a1 L c1, .slice a2 L c2, .slice a3 L2 c3, .slice a4 L2 c4, .slice a5 L2 c5], .int .i64 M] W0 fun e w' => e = .returned (.bool x.rgt) ∧ Below W0.heap.size W0 w') := Lib.hid (by
      have h := HT.out
      have := rtrightX_any (c0 := c0) (c1 := c1) (c2 := c2) (c3 := c3) (c4 := c4) (c5 := c5) W0 h.below h.bt H60.out hx hfx
      unfold treeV at this
      rw [HLX.out, HLT.out] at this
      exact this)
    have CQ : Hid (x.rgt = true → ∀ V, Below W0.heap.size W0 V → Calls Try.prog 18 #[exV x co ck] V fun e w' => e = .returned (.int .i64 (x.knd : Nat)) ∧ Below V.heap.size V w') := Lib.hid fun h V hV => rkind_any (B := W0.heap.size) HT.out.below x co ck V hV.size (xrgt_blt h) hck (hex.stay (fun _ h => h) fun b hb => hV.block b (HT.out.below b hb))
    have HEX : Hid (∀ V, Below W0.heap.size W0 V → x.args.length ≤ ck ∧ ExL R V x.args co) := Lib.hid fun V hV => ⟨hck, hex.stay (fun _ h => h) fun b hb => hV.block b (HT.out.below b hb)⟩
    have HMEM := Lib.hid hmem
    obtain ⟨rg, hrgt⟩ : ∃ v, v = x.rgt := ⟨_, rfl⟩
    obtain ⟨kn, hkn⟩ : ∃ v, v = x.knd := ⟨_, rfl⟩
    rw [← hrgt] at CR CQ
    rw [← hkn] at CQ
    have HRK := Lib.hid (And.intro hrgt hkn)
    obtain ⟨xo, hxo⟩ : ∃ v, v = x.op := ⟨_, rfl⟩
    obtain ⟨xn, hxn⟩ : ∃ v, v = x.n := ⟨_, rfl⟩
    obtain ⟨xn2, hxs⟩ : ∃ v, v = x.nm := ⟨_, rfl⟩
    obtain ⟨m1, hm1⟩ : ∃ m, m = x.args.length := ⟨_, rfl⟩
    have hxe : exV x co ck = .agg #[.int .i64 xo, .int .i64 xn, .string xn2, .slice co m1 ck] := by rw [hm1, hxo, hxn, hxs]
    have HXE := Lib.hid hxe
    rw [hxe] at CQ
    rw [← hxo] at y0
    rw [← hxn] at y1
    rw [← hxs] at y2
    rw [← hm1] at y3
    have HAC : Hid (∀ V, Below W0.heap.size W0 V → (V.cell? (a.add (M * 4)) = some (.int .i64 xo) ∧ V.cell? ⟨(a.add (M * 4)).block, (a.add (M * 4)).off + 1, none⟩ = some (.int .i64 xn) ∧ V.cell? ⟨(a.add (M * 4)).block, (a.add (M * 4)).off + 2, none⟩ = some (.string xn2) ∧ V.cell? ⟨(a.add (M * 4)).block, (a.add (M * 4)).off + 3, none⟩ = some (.slice co m1 ck))) := Lib.hid fun V hW => by
      have ha : (a.add (M * 4)).block < W0.heap.size := by rw [add_block]; exact HT.out.below _ hra
      exact ⟨(hW.cell (p := a.add (M * 4)) ha).trans y0, (hW.cell (p := ⟨(a.add (M * 4)).block, (a.add (M * 4)).off + 1, none⟩) ha).trans y1, (hW.cell (p := ⟨(a.add (M * 4)).block, (a.add (M * 4)).off + 2, none⟩) ha).trans y2, (hW.cell (p := ⟨(a.add (M * 4)).block, (a.add (M * 4)).off + 3, none⟩) ha).trans y3⟩
    clear hx hmem hfx hra hck hex hxo hxn hxs hm1 hxe hrgt hkn hM y0 y1 y2 y3
    cases rg with
    | false =>
      go_wp2_with (go_at_call 17; (with_reducible refine CR.out.mono ?_); rintro e w4 ⟨rfl, hb⟩; have HB4 := Lib.hid (below_mono HT.out.bel hb (Nat.le_refl _)); clear hb; obtain ⟨d0, d1, d2, d3⟩ := quad (HZA.out w4 HB4.out); have p0 : (w4).frozen? ⟨z, 0, none⟩ = false := free_blk (HZA.out w4 HB4.out) 0; have p1 : (w4).frozen? ⟨z, 1, none⟩ = false := free_blk (HZA.out w4 HB4.out) 1; have p2 : (w4).frozen? ⟨z, 2, none⟩ = false := free_blk (HZA.out w4 HB4.out) 2; have p3 : (w4).frozen? ⟨z, 3, none⟩ = false := free_blk (HZA.out w4 HB4.out) 3)
      have HS10 := Lib.hid (four_set w4 z (.int .i64 0) (.int .i64 0) (.string ⟨#[]⟩) (.slice none 0 0) _ _ ⟨_, _, _, _, rfl⟩ (HZA.out w4 HB4.out))
      clear d0 d1 d2 d3 p0 p1 p2 p3
      obtain ⟨W10, hW10⟩ : ∃ Y, (((w4.setCell ⟨z, 0, none⟩ (.int .i64 0)).setCell ⟨z, 1, none⟩ (.int .i64 0)).setCell ⟨z, 2, none⟩ (.string ⟨#[]⟩)).setCell ⟨z, 3, none⟩ (.slice none 0 0) = Y := ⟨_, rfl⟩
      rw [hW10]
      obtain ⟨k10, h10, s10, x10⟩ := HS10.out W10 hW10
      obtain ⟨u0, u1, u2, u3⟩ := quad x10
      exact bodyPost_ret (v := .tuple #[.agg #[.int .i64 0, .int .i64 0, .string ⟨#[]⟩, .slice none 0 0], .bool false]) (by simp [results, Try.results45, go_sem, u0, u1, u2, u3]) rfl ⟨.inr rfl, (below_mono HG0.out.1 HB4.out (Nat.le_refl _)).trans (k10 _ (by have := HG0.out.2.2; omega))⟩
    | true =>
      have CQ2 := Lib.hid (CQ.out rfl)
      clear CQ
      by_cases hk0 : kn = 0
      · have CQ3 : Hid (∀ V, Below W0.heap.size W0 V → Calls Try.prog 18 #[.agg #[.int .i64 xo, .int .i64 xn, .string xn2, .slice co m1 ck]] V fun e w' => e = .returned (.int .i64 0) ∧ Below V.heap.size V w') := by rw [hk0] at CQ2; exact CQ2
        clear CQ2 hk0
        go_wp2_with (first | (go_at_call 17; (with_reducible refine CR.out.mono ?_); rintro e w3 ⟨rfl, hb⟩; have HB3 := Lib.hid hb; clear hb t0 t1 t2 t3 t4 t5; obtain ⟨t0, t1, t2, t3, t4, t5⟩ := (HT.out.next HB3.out).cells; obtain ⟨y0, y1, y2, y3⟩ := HAC.out w3 HB3.out) | (go_at_call 18; (with_reducible refine (CQ3.out _ HB3.out).mono ?_); rintro e w4 ⟨rfl, hb⟩; have HB4 := Lib.hid (below_mono (below_mono HT.out.bel HB3.out (Nat.le_refl _)) hb (Nat.le_refl _)); clear hb; obtain ⟨d0, d1, d2, d3⟩ := quad (HZA.out w4 HB4.out); have p0 : (w4).frozen? ⟨z, 0, none⟩ = false := free_blk (HZA.out w4 HB4.out) 0; have p1 : (w4).frozen? ⟨z, 1, none⟩ = false := free_blk (HZA.out w4 HB4.out) 1; have p2 : (w4).frozen? ⟨z, 2, none⟩ = false := free_blk (HZA.out w4 HB4.out) 2; have p3 : (w4).frozen? ⟨z, 3, none⟩ = false := free_blk (HZA.out w4 HB4.out) 3))
        have HS10 := Lib.hid (four_set w4 z (.int .i64 0) (.int .i64 0) (.string ⟨#[]⟩) (.slice none 0 0) _ _ ⟨_, _, _, _, rfl⟩ (HZA.out w4 HB4.out))
        clear d0 d1 d2 d3 p0 p1 p2 p3
        obtain ⟨W10, hW10⟩ : ∃ Y, (((w4.setCell ⟨z, 0, none⟩ (.int .i64 0)).setCell ⟨z, 1, none⟩ (.int .i64 0)).setCell ⟨z, 2, none⟩ (.string ⟨#[]⟩)).setCell ⟨z, 3, none⟩ (.slice none 0 0) = Y := ⟨_, rfl⟩
        rw [hW10]
        obtain ⟨k10, h10, s10, x10⟩ := HS10.out W10 hW10
        obtain ⟨u0, u1, u2, u3⟩ := quad x10
        exact bodyPost_ret (v := .tuple #[.agg #[.int .i64 0, .int .i64 0, .string ⟨#[]⟩, .slice none 0 0], .bool false]) (by simp [results, Try.results45, go_sem, u0, u1, u2, u3]) rfl ⟨.inr rfl, (below_mono HG0.out.1 HB4.out (Nat.le_refl _)).trans (k10 _ (by have := HG0.out.2.2; omega))⟩
      · obtain ⟨K, hK⟩ : ∃ K : Int, K = (kn : Nat) := ⟨_, rfl⟩
        rw [← hK] at CQ2
        have f1 : (K == 0) = false := by simp; omega
        have f2 : ((L : Int) == 0) = false := by simp; omega
        clear hL0 hL0'
        have HK0 := Lib.hid hk0
        clear hK hk0
        go_wp2_with (first | (go_at_call 17; (with_reducible refine CR.out.mono ?_); rintro e w3 ⟨rfl, hb⟩; have HB3 := Lib.hid hb; clear hb t0 t1 t2 t3 t4 t5; obtain ⟨t0, t1, t2, t3, t4, t5⟩ := (HT.out.next HB3.out).cells; obtain ⟨y0, y1, y2, y3⟩ := HAC.out w3 HB3.out) | (go_at_call 18; (with_reducible refine (CQ2.out _ HB3.out).mono ?_); rintro e w4 ⟨rfl, hb⟩; have HB0 := Lib.hid (below_mono HB3.out hb (Nat.le_refl _)); have HB4 := Lib.hid (below_mono HT.out.bel HB0.out (Nat.le_refl _)); clear hb t0 t1 t2 t3 t4 t5 y0 y1 y2 y3; obtain ⟨t0, t1, t2, t3, t4, t5⟩ := (HT.out.next HB0.out).cells; obtain ⟨y0, y1, y2, y3⟩ := HAC.out w4 HB0.out; obtain ⟨d0, d1, d2, d3⟩ := quad (HZA.out w4 HB4.out); have p0 : (w4).frozen? ⟨z, 0, none⟩ = false := free_blk (HZA.out w4 HB4.out) 0; have p1 : (w4).frozen? ⟨z, 1, none⟩ = false := free_blk (HZA.out w4 HB4.out) 1; have p2 : (w4).frozen? ⟨z, 2, none⟩ = false := free_blk (HZA.out w4 HB4.out) 2; have p3 : (w4).frozen? ⟨z, 3, none⟩ = false := free_blk (HZA.out w4 HB4.out) 3))
        have hfin : ∀ W10, Below w.heap.size w W10 → (∀ b, b ≠ z → W10.heap[b]? = w4.heap[b]?) → W10.heap.size = w4.heap.size → LastP w xs (.returned (.tuple #[.agg #[.int .i64 xo, .int .i64 xn, .string xn2, .slice co m1 ck], .bool true])) W10 := fun W10 hb hh hs => by
          have hRb : ∀ b, R b → z < b ∧ b < w4.heap.size := fun b hb => by
            have h1 := (HRL.out b hb).1
            have h2 := HT.out.below b hb
            have h3 := HB0.out.size
            have h4 := HG0.out.2.1
            omega
          refine ⟨.inl ⟨x, co, ck, HMEM.out, HRK.out.1.symm, by rw [← HRK.out.2]; exact HK0.out, by rw [HXE.out], (HEX.out w4 HB0.out).1, (HEX.out w4 HB0.out).2.stay (fun b hb => ?_) fun b hb => hh b (by have := hRb b hb; omega)⟩, hb⟩
          have := hRb b hb
          have := HG0.out.2.2
          exact ⟨by omega, by rw [hs]; omega⟩
        have HS10 := Lib.hid (four_set w4 z (.int .i64 xo) (.int .i64 xn) (.string xn2) (.slice co m1 ck) _ _ ⟨_, _, _, _, rfl⟩ (HZA.out w4 HB4.out))
        clear d0 d1 d2 d3 p0 p1 p2 p3
        obtain ⟨W10, hW10⟩ : ∃ Y, (((w4.setCell ⟨z, 0, none⟩ (.int .i64 xo)).setCell ⟨z, 1, none⟩ (.int .i64 xn)).setCell ⟨z, 2, none⟩ (.string xn2)).setCell ⟨z, 3, none⟩ (.slice co m1 ck) = Y := ⟨_, rfl⟩
        rw [hW10]
        obtain ⟨k10, h10, s10, x10⟩ := HS10.out W10 hW10
        obtain ⟨u0, u1, u2, u3⟩ := quad x10
        exact bodyPost_ret (v := .tuple #[.agg #[.int .i64 xo, .int .i64 xn, .string xn2, .slice co m1 ck], .bool true]) (by simp [results, Try.results45, go_sem, u0, u1, u2, u3]) rfl (hfin W10 ((below_mono HG0.out.1 HB4.out (Nat.le_refl _)).trans (k10 _ (by have := HG0.out.2.2; omega))) h10 s10)
end Go.Proofs.Ytidldlhhmophjaa
namespace Go.Proofs.Ytidldlhhmophjaa
open Go.RowKit Go.PlainAid Go.Sort
set_option linter.unusedVariables false
set_option linter.unusedSimpArgs false
theorem bXs_rng2 (l : List Lf) (h : ∀ f ∈ l, InR f.n) : ∀ i, i ≤ l.length → ∀ x ∈ bXs (l.take i), x.rng := by
  intro i
  induction i with
  | zero => intro _ x hx; simp [bXs] at hx
  | succ i ih =>
    intro hi x hx
    have hf : l[i]? = some l[i] := List.getElem?_eq_getElem (by omega)
    rw [bXs_take hf] at hx
    rcases List.mem_append.1 hx with hx | hx
    · exact ih (by omega) x hx
    · rw [List.mem_singleton] at hx
      subst hx
      exact (Xp.rng_eq _).2 ⟨h _ (List.getElem_mem _), fun y hy => ih (by omega) y (pick_mem hy)⟩
set_option maxRecDepth 100000 in
theorem great22_yes (n m : Nat) (ao fo : Option Addr) (cap fc : Nat) (day : Int) (h : 60 < n ∨ 60 < m) (w : World) : Calls Try.prog 38 #[.slice ao n cap, .agg #[.int .i64 day, .slice fo m fc]] w fun e w' => e = .returned (.bool true) ∧ Below w.heap.size w w' := by
  have GA := Lib.hid (two_made (.int .i64 day) (.slice fo m fc) 58 w)
  by_cases h1 : (60 : Int) < (n : Int)
  · go_enter Try.func38, Try.ntmps38
    go_upto_region 1 with fail
    obtain ⟨W, hW⟩ : ∃ X, w.alloc (.cells #[.int .i64 day, .slice fo m fc] 58) = X := ⟨_, rfl⟩
    obtain ⟨g1, b1, _⟩ := GA.out W hW
    obtain ⟨e0, e1⟩ := duo b1
    rw [hW]
    go_wp2_with fail
    go_ret
    exact ⟨rfl, g1⟩
  · have h2 : (60 : Int) < (m : Int) := by omega
    go_enter Try.func38, Try.ntmps38
    go_upto_region 1 with fail
    obtain ⟨W, hW⟩ : ∃ X, w.alloc (.cells #[.int .i64 day, .slice fo m fc] 58) = X := ⟨_, rfl⟩
    obtain ⟨g1, b1, _⟩ := GA.out W hW
    obtain ⟨e0, e1⟩ := duo b1
    rw [hW]
    go_wp2_with fail
    go_ret
    exact ⟨rfl, g1⟩
set_option maxRecDepth 100000 in
theorem great22_no (n m : Nat) (ao fo : Option Addr) (cap fc : Nat) (day : Int) (h1 : n ≤ 60) (h2 : m ≤ 60) (w : World) : Calls Try.prog 38 #[.slice ao n cap, .agg #[.int .i64 day, .slice fo m fc]] w fun e w' => e = .returned (.bool false) ∧ Below w.heap.size w w' := by
  have GA := Lib.hid (two_made (.int .i64 day) (.slice fo m fc) 58 w)
  have h3 : ¬ (60 : Int) < (n : Int) := by omega
  have h4 : ¬ (60 : Int) < (m : Int) := by omega
  go_enter Try.func38, Try.ntmps38
  go_upto_region 1 with fail
  obtain ⟨W, hW⟩ : ∃ X, w.alloc (.cells #[.int .i64 day, .slice fo m fc] 58) = X := ⟨_, rfl⟩
  obtain ⟨g1, b1, _⟩ := GA.out W hW
  obtain ⟨e0, e1⟩ := duo b1
  rw [hW]
  go_wp2_with fail
  go_ret
  exact ⟨rfl, g1⟩
/-- The last expression, taken apart. -/
theorem LastP.parts {w w' : World} {xs : List Xp} {e : Ending} (h : LastP w xs e w') : Below w.heap.size w w' ∧ ((∃ (x : Xp) (co : Option Addr) (ck : Nat) (xo xn : Int) (nm : ByteArray) (m : Nat), (x ∈ xs ∧ x.rgt = true ∧ x.knd ≠ 0 ∧ (∀ bo k, exV x bo k = .agg #[.int .i64 xo, .int .i64 xn, .string nm, .slice bo m k]) ∧ x.args.length ≤ ck ∧ ExL (fun b => w.heap.size ≤ b ∧ b < w'.heap.size) w' x.args co) ∧ e = .returned (.tuple #[.agg #[.int .i64 xo, .int .i64 xn, .string nm, .slice co m ck], .bool true])) ∨ e = .returned (.tuple #[.agg #[.int .i64 0, .int .i64 0, .string ⟨#[]⟩, .slice none 0 0], .bool false])) := by
  obtain ⟨⟨x, co, ck, h1, h2, h3, h4, h5, h6⟩ | h1, hb⟩ := h
  · exact ⟨hb, .inl ⟨x, co, ck, x.op, x.n, x.nm, x.args.length, ⟨h1, h2, h3, fun _ _ => rfl, h5, h6⟩, h4⟩⟩
  · exact ⟨hb, .inr h1⟩
theorem knd_kd {x : Xp} (h : x.rgt = true) : x.kd = x.knd := by unfold Xp.kd; rw [if_pos h]
end Go.Proofs.Ytidldlhhmophjaa
