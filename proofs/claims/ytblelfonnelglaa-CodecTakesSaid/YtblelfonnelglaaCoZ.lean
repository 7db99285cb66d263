/- takes of layer 3 (what the document says of one asking), kind by kind. No conditions beyond those written. -/
import Derived.Test.YtblelfonnelglaaCoY
namespace Go.Proofs.Ytblelfonnelglaa
open Go.RowKit
set_option linter.unusedSimpArgs false
set_option linter.unusedVariables false

theorem ask_cells {K N : Int} {w w1 : World} (k : Below (w.alloc (.cells #[.int .i64 K, .int .i64 N] 52)).heap.size (w.alloc (.cells #[.int .i64 K, .int .i64 N] 52)) w1) :
    w1.cell? ⟨w.heap.size, 0, none⟩ = some (.int .i64 K) ∧ w1.cell? ⟨w.heap.size, 1, none⟩ = some (.int .i64 N) := by
  have h := (k.block w.heap.size (by simp)).trans (heap_alloc_new w _)
  exact ⟨by rw [Lib.cell_of_heap h]; rfl, by rw [Lib.cell_of_heap h]; rfl⟩
def Takes (s : ByteArray) (n kk : Int) : Prop := ∀ w, Calls Try.prog 22 #[.string s] w fun e w' => e = .returned (.tuple #[.int .u64 n, .int .i64 kk]) ∧ Below w.heap.size w w'
theorem takes_0n (s : ByteArray) (N : Int) (n : Int)  (T : Takes s n 0) (w : World) :
    Calls Try.prog 30 #[.string s, .agg #[.int .i64 0, .int .i64 N]] w fun e w' => e = .returned (.tuple #[.int .u64 (0), .string ⟨#[]⟩, .int .i64 (-1)]) ∧ Below w.heap.size w w' := by
  have G := Lib.hid T
  clear T
  go_enter Try.func30, Try.ntmps30
  go_wp2_with fail
  refine (G.out _).mono ?_
  rintro e w1 ⟨rfl, d1⟩
  obtain ⟨c0, c1⟩ := ask_cells d1
  have K1 := Lib.hid (below_mono ((Below.refl w.heap.size w).alloc (Nat.le_refl _) _) d1 (Nat.le_refl _))
  clear d1 G
  go_wp2_with fail
  go_ret3
  exact ⟨rfl, K1.out⟩
theorem takes_0b (s : ByteArray) (N : Int) (n kk : Int) (h1 : ¬ kk = 0) (h2 : 9223372036854775808 ≤ n) (T : Takes s n kk) (w : World) :
    Calls Try.prog 30 #[.string s, .agg #[.int .i64 0, .int .i64 N]] w fun e w' => e = .returned (.tuple #[.int .u64 (0), .string ⟨#[]⟩, .int .i64 (-1)]) ∧ Below w.heap.size w w' := by
  have G := Lib.hid T
  clear T
  go_enter Try.func30, Try.ntmps30
  go_wp2_with fail
  refine (G.out _).mono ?_
  rintro e w1 ⟨rfl, d1⟩
  obtain ⟨c0, c1⟩ := ask_cells d1
  have K1 := Lib.hid (below_mono ((Below.refl w.heap.size w).alloc (Nat.le_refl _) _) d1 (Nat.le_refl _))
  clear d1 G
  go_wp2_with fail
  go_ret3
  exact ⟨rfl, K1.out⟩
theorem takes_0y (s : ByteArray) (N : Int) (n kk : Int) (h1 : ¬ kk = 0) (h2 : ¬ 9223372036854775808 ≤ n) (T : Takes s n kk) (w : World) :
    Calls Try.prog 30 #[.string s, .agg #[.int .i64 0, .int .i64 N]] w fun e w' => e = .returned (.tuple #[.int .u64 (n), .string ⟨#[]⟩, .int .i64 kk]) ∧ Below w.heap.size w w' := by
  have G := Lib.hid T
  have e1 : (kk == 0) = false := by rw [beq_eq_false_iff_ne]; exact h1
  have e2 : decide (9223372036854775808 ≤ n) = false := by simpa using h2
  clear T
  go_enter Try.func30, Try.ntmps30
  go_wp2_with fail
  refine (G.out _).mono ?_
  rintro e w1 ⟨rfl, d1⟩
  obtain ⟨c0, c1⟩ := ask_cells d1
  have K1 := Lib.hid (below_mono ((Below.refl w.heap.size w).alloc (Nat.le_refl _) _) d1 (Nat.le_refl _))
  clear d1 G
  go_wp2_with fail
  go_ret3
  exact ⟨rfl, K1.out⟩
theorem takes_1n (s : ByteArray) (N : Int) (n : Int)  (T : Takes s n 0) (w : World) :
    Calls Try.prog 30 #[.string s, .agg #[.int .i64 1, .int .i64 N]] w fun e w' => e = .returned (.tuple #[.int .u64 (0), .string ⟨#[]⟩, .int .i64 (-1)]) ∧ Below w.heap.size w w' := by
  have G := Lib.hid T
  clear T
  go_enter Try.func30, Try.ntmps30
  go_wp2_with fail
  refine (G.out _).mono ?_
  rintro e w1 ⟨rfl, d1⟩
  obtain ⟨c0, c1⟩ := ask_cells d1
  have K1 := Lib.hid (below_mono ((Below.refl w.heap.size w).alloc (Nat.le_refl _) _) d1 (Nat.le_refl _))
  clear d1 G
  go_wp2_with fail
  go_ret3
  exact ⟨rfl, K1.out⟩
theorem takes_1y (s : ByteArray) (N : Int) (n : Nat) (kk : Int) (hn : n < 18446744073709551616) (h1 : ¬ kk = 0) (T : Takes s n kk) (w : World) :
    Calls Try.prog 30 #[.string s, .agg #[.int .i64 1, .int .i64 N]] w fun e w' => e = .returned (.tuple #[.int .u64 (IntKind.u64.wrap (num n)), .string ⟨#[]⟩, .int .i64 kk]) ∧ Below w.heap.size w w' := by
  have G := Lib.hid T
  clear T
  have HN := Lib.hid hn
  clear hn
  go_enter Try.func30, Try.ntmps30
  go_wp2_with fail
  refine (G.out _).mono ?_
  rintro e w1 ⟨rfl, d1⟩
  obtain ⟨c0, c1⟩ := ask_cells d1
  have K1 := Lib.hid (below_mono ((Below.refl w.heap.size w).alloc (Nat.le_refl _) _) d1 (Nat.le_refl _))
  clear d1 G
  go_wp2_with fail
  refine (num_any n HN.out _).mono ?_
  rintro e w2 ⟨rfl, rfl⟩
  go_wp2_with fail
  go_ret3
  exact ⟨rfl, K1.out⟩
theorem takes_2n (s : ByteArray) (N : Int) (n kk : Int) (h1 : (s.size : Int) < 4) (T : Takes s n kk) (w : World) :
    Calls Try.prog 30 #[.string s, .agg #[.int .i64 2, .int .i64 N]] w fun e w' => e = .returned (.tuple #[.int .u64 (0), .string ⟨#[]⟩, .int .i64 (-1)]) ∧ Below w.heap.size w w' := by
  have G := Lib.hid T
  clear T
  go_enter Try.func30, Try.ntmps30
  go_wp2_with fail
  refine (G.out _).mono ?_
  rintro e w1 ⟨rfl, d1⟩
  obtain ⟨c0, c1⟩ := ask_cells d1
  have K1 := Lib.hid (below_mono ((Below.refl w.heap.size w).alloc (Nat.le_refl _) _) d1 (Nat.le_refl _))
  clear d1 G
  go_wp2_with fail
  go_ret3
  exact ⟨rfl, K1.out⟩
theorem takes_2y (s : ByteArray) (N : Int) (n kk : Int) (h1 : ¬ (s.size : Int) < 4) (h3 : (4 : Int) ≤ (s.size : Int)) (T : Takes s n kk) (w : World) :
    Calls Try.prog 30 #[.string s, .agg #[.int .i64 2, .int .i64 N]] w fun e w' => e = .returned (.tuple #[.int .u64 (val (s.data.toList.take 4)), .string ⟨#[]⟩, .int .i64 4]) ∧ Below w.heap.size w w' := by
  have G := Lib.hid T
  clear T
  go_enter Try.func30, Try.ntmps30
  go_wp2_with fail
  refine (G.out _).mono ?_
  rintro e w1 ⟨rfl, d1⟩
  obtain ⟨c0, c1⟩ := ask_cells d1
  have K1 := Lib.hid (below_mono ((Below.refl w.heap.size w).alloc (Nat.le_refl _) _) d1 (Nat.le_refl _))
  clear d1 G
  go_wp2_with fail
  refine (rvalue_any (s.extract 0 4) (by rw [ByteArray.size_extract]; omega) _).mono ?_
  rintro e w2 ⟨rfl, rfl⟩
  go_wp2_with fail
  go_ret3
  exact ⟨rfl, K1.out⟩
theorem takes_3n (s : ByteArray) (N : Int) (n kk : Int) (h1 : (s.size : Int) < 8) (T : Takes s n kk) (w : World) :
    Calls Try.prog 30 #[.string s, .agg #[.int .i64 3, .int .i64 N]] w fun e w' => e = .returned (.tuple #[.int .u64 (0), .string ⟨#[]⟩, .int .i64 (-1)]) ∧ Below w.heap.size w w' := by
  have G := Lib.hid T
  clear T
  go_enter Try.func30, Try.ntmps30
  go_wp2_with fail
  refine (G.out _).mono ?_
  rintro e w1 ⟨rfl, d1⟩
  obtain ⟨c0, c1⟩ := ask_cells d1
  have K1 := Lib.hid (below_mono ((Below.refl w.heap.size w).alloc (Nat.le_refl _) _) d1 (Nat.le_refl _))
  clear d1 G
  go_wp2_with fail
  go_ret3
  exact ⟨rfl, K1.out⟩
theorem takes_3y (s : ByteArray) (N : Int) (n kk : Int) (h1 : ¬ (s.size : Int) < 8) (h3 : (8 : Int) ≤ (s.size : Int)) (T : Takes s n kk) (w : World) :
    Calls Try.prog 30 #[.string s, .agg #[.int .i64 3, .int .i64 N]] w fun e w' => e = .returned (.tuple #[.int .u64 (val (s.data.toList.take 8)), .string ⟨#[]⟩, .int .i64 8]) ∧ Below w.heap.size w w' := by
  have G := Lib.hid T
  clear T
  go_enter Try.func30, Try.ntmps30
  go_wp2_with fail
  refine (G.out _).mono ?_
  rintro e w1 ⟨rfl, d1⟩
  obtain ⟨c0, c1⟩ := ask_cells d1
  have K1 := Lib.hid (below_mono ((Below.refl w.heap.size w).alloc (Nat.le_refl _) _) d1 (Nat.le_refl _))
  clear d1 G
  go_wp2_with fail
  refine (rvalue_any (s.extract 0 8) (by rw [ByteArray.size_extract]; omega) _).mono ?_
  rintro e w2 ⟨rfl, rfl⟩
  go_wp2_with fail
  go_ret3
  exact ⟨rfl, K1.out⟩
theorem takes_4n (s : ByteArray) (N : Int) (n : Int)  (T : Takes s n 0) (w : World) :
    Calls Try.prog 30 #[.string s, .agg #[.int .i64 4, .int .i64 N]] w fun e w' => e = .returned (.tuple #[.int .u64 (0), .string ⟨#[]⟩, .int .i64 (-1)]) ∧ Below w.heap.size w w' := by
  have G := Lib.hid T
  clear T
  go_enter Try.func30, Try.ntmps30
  go_wp2_with fail
  refine (G.out _).mono ?_
  rintro e w1 ⟨rfl, d1⟩
  obtain ⟨c0, c1⟩ := ask_cells d1
  have K1 := Lib.hid (below_mono ((Below.refl w.heap.size w).alloc (Nat.le_refl _) _) d1 (Nat.le_refl _))
  clear d1 G
  go_wp2_with fail
  go_ret3
  exact ⟨rfl, K1.out⟩
theorem takes_4b (s : ByteArray) (N : Int) (n kk : Int) (h1 : ¬ kk = 0) (h2 : 9223372036854775808 ≤ n) (T : Takes s n kk) (w : World) :
    Calls Try.prog 30 #[.string s, .agg #[.int .i64 4, .int .i64 N]] w fun e w' => e = .returned (.tuple #[.int .u64 (0), .string ⟨#[]⟩, .int .i64 (-1)]) ∧ Below w.heap.size w w' := by
  have G := Lib.hid T
  clear T
  go_enter Try.func30, Try.ntmps30
  go_wp2_with fail
  refine (G.out _).mono ?_
  rintro e w1 ⟨rfl, d1⟩
  obtain ⟨c0, c1⟩ := ask_cells d1
  have K1 := Lib.hid (below_mono ((Below.refl w.heap.size w).alloc (Nat.le_refl _) _) d1 (Nat.le_refl _))
  clear d1 G
  go_wp2_with fail
  go_ret3
  exact ⟨rfl, K1.out⟩
theorem takes_4o (s : ByteArray) (N : Int) (n kk : Int) (h1 : ¬ kk = 0) (h2 : ¬ 9223372036854775808 ≤ n) (hw : IntKind.i64.wrap n = n) (h3 : N < n) (T : Takes s n kk) (w : World) :
    Calls Try.prog 30 #[.string s, .agg #[.int .i64 4, .int .i64 N]] w fun e w' => e = .returned (.tuple #[.int .u64 (0), .string ⟨#[]⟩, .int .i64 (-1)]) ∧ Below w.heap.size w w' := by
  have G := Lib.hid T
  clear T
  go_enter Try.func30, Try.ntmps30
  go_wp2_with fail
  refine (G.out _).mono ?_
  rintro e w1 ⟨rfl, d1⟩
  obtain ⟨c0, c1⟩ := ask_cells d1
  have K1 := Lib.hid (below_mono ((Below.refl w.heap.size w).alloc (Nat.le_refl _) _) d1 (Nat.le_refl _))
  clear d1 G
  go_wp2_with fail
  go_ret3
  exact ⟨rfl, K1.out⟩
theorem takes_4s (s : ByteArray) (N : Int) (n kk : Int) (h1 : ¬ kk = 0) (h2 : ¬ 9223372036854775808 ≤ n) (hw : IntKind.i64.wrap n = n) (h3 : ¬ N < n) (hw2 : IntKind.i64.wrap ((s.size : Int) - kk) = (s.size : Int) - kk) (h4 : (s.size : Int) - kk < n) (T : Takes s n kk) (w : World) :
    Calls Try.prog 30 #[.string s, .agg #[.int .i64 4, .int .i64 N]] w fun e w' => e = .returned (.tuple #[.int .u64 (0), .string ⟨#[]⟩, .int .i64 (-1)]) ∧ Below w.heap.size w w' := by
  have G := Lib.hid T
  clear T
  go_enter Try.func30, Try.ntmps30
  go_wp2_with fail
  refine (G.out _).mono ?_
  rintro e w1 ⟨rfl, d1⟩
  obtain ⟨c0, c1⟩ := ask_cells d1
  have K1 := Lib.hid (below_mono ((Below.refl w.heap.size w).alloc (Nat.le_refl _) _) d1 (Nat.le_refl _))
  clear d1 G
  go_wp2_with fail
  go_ret3
  exact ⟨rfl, K1.out⟩
set_option maxRecDepth 100000 in
theorem takes_4y (s : ByteArray) (N n P Z : Int) (kk p : Nat) (hP : P = (p : Int)) (e1 : ((kk : Int) == 0) = false) (e2 : decide (9223372036854775808 ≤ n) = false) (hw : IntKind.i64.wrap n = n) (e3 : decide (N < n) = false) (hz : (s.size : Int) - (kk : Int) = Z) (hzw : IntKind.i64.wrap Z = Z) (e4 : decide (Z < n) = false) (hs : (kk : Int) + n = P) (hsw : IntKind.i64.wrap P = P) (h5 : (kk : Int) ≤ (p : Int)) (h6 : (p : Int) ≤ (s.size : Int)) (T : Takes s n kk) (w : World) :
    Calls Try.prog 30 #[.string s, .agg #[.int .i64 4, .int .i64 N]] w fun e w' => e = .returned (.tuple #[.int .u64 (0), .string (s.extract kk p), .int .i64 p]) ∧ Below w.heap.size w w' := by
  have G := Lib.hid T
  have H5 := Lib.hid h5
  have H6 := Lib.hid h6
  have HP := Lib.hid hP
  clear T h5 h6 hP
  go_enter Try.func30, Try.ntmps30
  go_wp2_with fail
  refine (G.out _).mono ?_
  rintro e w1 ⟨rfl, d1⟩
  obtain ⟨c0, c1⟩ := ask_cells d1
  have K1 := Lib.hid (below_mono ((Below.refl w.heap.size w).alloc (Nat.le_refl _) _) d1 (Nat.le_refl _))
  clear d1 G
  go_wp2_with fail
  obtain rfl := HP.out
  have h5 := H5.out
  have h6 := H6.out
  clear HP hz hzw e3 e4 H5 H6
  go_region
  go_wp2_with fail
  go_ret3
  exact ⟨rfl, K1.out.drew⟩
theorem takes_5m (s : ByteArray) (K : Int) (N : Int) (n kk : Int) (k0 : ¬ K = 0) (k1 : ¬ K = 1) (k2 : ¬ K = 2) (k3 : ¬ K = 3) (k4 : ¬ K = 4) (h1 : N < 0) (T : Takes s n kk) (w : World) :
    Calls Try.prog 30 #[.string s, .agg #[.int .i64 K, .int .i64 N]] w fun e w' => e = .returned (.tuple #[.int .u64 (0), .string ⟨#[]⟩, .int .i64 (-1)]) ∧ Below w.heap.size w w' := by
  have G := Lib.hid T
  clear T
  go_enter Try.func30, Try.ntmps30
  go_wp2_with fail
  refine (G.out _).mono ?_
  rintro e w1 ⟨rfl, d1⟩
  obtain ⟨c0, c1⟩ := ask_cells d1
  have K1 := Lib.hid (below_mono ((Below.refl w.heap.size w).alloc (Nat.le_refl _) _) d1 (Nat.le_refl _))
  clear d1 G
  go_wp2_with fail
  go_ret3
  exact ⟨rfl, K1.out⟩
theorem takes_5o (s : ByteArray) (K : Int) (N : Int) (n kk : Int) (k0 : ¬ K = 0) (k1 : ¬ K = 1) (k2 : ¬ K = 2) (k3 : ¬ K = 3) (k4 : ¬ K = 4) (h1 : ¬ N < 0) (h2 : (s.size : Int) < N) (T : Takes s n kk) (w : World) :
    Calls Try.prog 30 #[.string s, .agg #[.int .i64 K, .int .i64 N]] w fun e w' => e = .returned (.tuple #[.int .u64 (0), .string ⟨#[]⟩, .int .i64 (-1)]) ∧ Below w.heap.size w w' := by
  have G := Lib.hid T
  clear T
  go_enter Try.func30, Try.ntmps30
  go_wp2_with fail
  refine (G.out _).mono ?_
  rintro e w1 ⟨rfl, d1⟩
  obtain ⟨c0, c1⟩ := ask_cells d1
  have K1 := Lib.hid (below_mono ((Below.refl w.heap.size w).alloc (Nat.le_refl _) _) d1 (Nat.le_refl _))
  clear d1 G
  go_wp2_with fail
  go_ret3
  exact ⟨rfl, K1.out⟩
theorem takes_5y (s : ByteArray) (K : Int) (n kk : Int) (M : Nat) (k0 : ¬ K = 0) (k1 : ¬ K = 1) (k2 : ¬ K = 2) (k3 : ¬ K = 3) (k4 : ¬ K = 4) (h1 : ¬ (M : Int) < 0) (h2 : ¬ (s.size : Int) < (M : Int)) (h3 : (M : Int) ≤ (s.size : Int)) (T : Takes s n kk) (w : World) :
    Calls Try.prog 30 #[.string s, .agg #[.int .i64 K, .int .i64 M]] w fun e w' => e = .returned (.tuple #[.int .u64 (0), .string (s.extract 0 M), .int .i64 M]) ∧ Below w.heap.size w w' := by
  have G := Lib.hid T
  clear T
  go_enter Try.func30, Try.ntmps30
  go_wp2_with fail
  refine (G.out _).mono ?_
  rintro e w1 ⟨rfl, d1⟩
  obtain ⟨c0, c1⟩ := ask_cells d1
  have K1 := Lib.hid (below_mono ((Below.refl w.heap.size w).alloc (Nat.le_refl _) _) d1 (Nat.le_refl _))
  clear d1 G
  go_wp2_with fail
  have c1d : w1.drew.cell? ⟨w.heap.size, 1, none⟩ = some (.int .i64 M) := c1
  go_region
  go_wp2_with fail
  go_ret3
  exact ⟨rfl, K1.out.drew⟩
end Go.Proofs.Ytblelfonnelglaa
