/- The example of layer 10, and what no cache answers. Conditions: those written at each theorem. -/
import Derived.Test.YtnganclkjoiggaaCaCi
import Derived.Test.YtnganclkjoiggaaCaCs
namespace Go.Proofs.Ytnganclkjoiggaa
open Go.RowKit Go.Maps Go.WideShapes
set_option linter.unusedVariables false
set_option linter.unusedSimpArgs false

theorem put_nil (k v : Int) (w : World) : Calls Try.prog 9 #[.pointer none, .int .i64 k, .int .i64 v] w fun e w' => e = .returned (.tuple #[.int .i64 0, .bool false]) ∧ w = w' := by
  go_enter Try.func9, Try.ntmps9
  go_wp2_with fail
  go_ret2
  exact ⟨rfl, rfl⟩
theorem get_nil (k : Int) (w : World) : Calls Try.prog 11 #[.pointer none, .int .i64 k] w fun e w' => e = .returned (.tuple #[.int .i64 0, .bool false]) ∧ w = w' := by
  go_enter Try.func11, Try.ntmps11
  go_wp2_with fail
  go_ret2
  exact ⟨rfl, rfl⟩
theorem hits_nil (w : World) : Calls Try.prog 14 #[.pointer none] w fun e w' => e = .returned (.tuple #[.int .i64 0, .int .i64 0]) ∧ w = w' := by
  go_enter Try.func14, Try.ntmps14
  go_wp2_with fail
  go_ret2
  exact ⟨rfl, rfl⟩
theorem drop_nil (k : Int) (w : World) : Calls Try.prog 12 #[.pointer none, .int .i64 k] w fun e w' => e = .returned (.bool false) ∧ w = w' := by
  go_enter Try.func12, Try.ntmps12
  go_wp2_with fail
  go_ret
  exact ⟨rfl, rfl⟩
theorem len_nil (w : World) : Calls Try.prog 15 #[.pointer none] w fun e w' => e = .returned (.int .i64 0) ∧ w = w' := by
  go_enter Try.func15, Try.ntmps15
  go_wp2_with fail
  go_ret
  exact ⟨rfl, rfl⟩
theorem keys_nil (w : World) : Calls Try.prog 13 #[.pointer none] w fun e w' => e = .returned (.slice none 0 0) ∧ w = w' := by
  go_enter Try.func13, Try.ntmps13
  go_wp2_with fail
  go_ret
  exact ⟨rfl, rfl⟩
set_option maxRecDepth 100000 in
set_option maxHeartbeats 4000000 in
theorem awake_any (w : World) : Calls Try.prog 6 #[] w fun e w' => e = .returned (.bool true) ∧ Below w.heap.size w w' := by
  go_enter Try.func6, Try.ntmps6
  go_wp2_with fail
  refine (ks.new_any 2 w).mono ?_
  rintro e w1 ⟨c, m, r, rfl, h1, k1⟩
  rw [show max (2 : Int) 0 = 2 from rfl] at h1
  have P1 := Lib.hid (ks.put_new h1 k1.size (by omega) (by simp) ⟨#[97]⟩ (by decide) 1 (fun e he => (by cases he)))
  have K1 := Lib.hid k1
  obtain ⟨ea, hea⟩ : ∃ e : En, e = ⟨w1.heap.size, .string ⟨#[97]⟩, .string [97], 1⟩ := ⟨_, rfl⟩
  have HEA := Lib.hid hea
  clear h1 k1 hea
  go_wp2_with fail
  refine P1.out.mono ?_
  rintro e w2 (⟨rfl, _, h2, k2, _⟩ | ⟨a, t, _, _, hgt, _⟩)
  rotate_left
  · simp at hgt
  have h2' : ks.At w.heap.size c m r (0 + 1) 2 0 0 [ea] w2 := by rw [HEA.out]; exact h2
  have K2 := Lib.hid (K1.out.trans k2)
  have P2 := Lib.hid (ks.put_new h2' K2.out.size (by omega) (by simp) ⟨#[98]⟩ (by decide) 2 (fun e he => (by rw [List.mem_singleton] at he; subst he; rw [HEA.out]; show Lit.string [97] ≠ Lit.string [98]; simp)))
  obtain ⟨eb, heb⟩ : ∃ e : En, e = ⟨w2.heap.size, .string ⟨#[98]⟩, .string [98], 2⟩ := ⟨_, rfl⟩
  have HEB := Lib.hid heb
  clear h2 h2' k2 heb P1
  go_wp2_with fail
  refine P2.out.mono ?_
  rintro e w3 (⟨rfl, _, h3, k3, _⟩ | ⟨a, t, _, _, hgt, _⟩)
  rotate_left
  · simp at hgt
  have h3' : ks.At w.heap.size c m r (0 + 1 + 1) 2 0 0 ([] ++ ea :: [eb]) w3 := by rw [HEB.out]; exact h3
  have K3 := Lib.hid (K2.out.trans k3)
  have P3 := Lib.hid (ks.get_yes h3' K3.out.size ⟨#[97]⟩ (by decide) (by rw [HEA.out]) (by omega) (by simp))
  have hn1 : ea.n = 1 := by rw [HEA.out]
  rw [hn1] at P3
  clear h3 h3' k3 P2 hn1
  go_wp2_with fail
  refine P3.out.mono ?_
  rintro e w4 ⟨rfl, h4, k4, _⟩
  have h4' : ks.At w.heap.size c m r (0 + 1 + 1) 2 (0 + 1) 0 [eb, ea] w4 := h4
  have K4 := Lib.hid (K3.out.trans k4)
  have P4 := Lib.hid (ks.put_new h4' K4.out.size (by omega) (by simp) ⟨#[99]⟩ (by decide) 3 (fun e he => (by
    rcases List.mem_cons.1 he with rfl | he
    · rw [HEB.out]; show Lit.string [98] ≠ Lit.string [99]; simp
    · rw [List.mem_singleton] at he; subst he; rw [HEA.out]; show Lit.string [97] ≠ Lit.string [99]; simp)))
  clear h4 h4' k4 P3
  go_wp2_with fail
  refine P4.out.mono ?_
  rintro e w5 (⟨_, hle, _, _⟩ | ⟨a, t, hat, rfl, _, h5, k5, _⟩)
  · simp at hle
  injection hat with h6 h7
  subst h6 h7
  have hk : eb.k = .string ⟨#[98]⟩ := by rw [HEB.out]
  have L5 := Lib.hid (ks.len_any h5)
  have K5 := Lib.hid (K4.out.trans k5)
  rw [hk]
  clear h5 k5 P4 hk
  go_wp2_with fail
  refine L5.out.mono ?_
  rintro e w6 ⟨rfl, rfl⟩
  go_wp2_with fail
  go_ret
  exact ⟨rfl, K5.out⟩
set_option maxRecDepth 100000 in
set_option maxHeartbeats 4000000 in
theorem cacheNone_walk (k v : Int) (wk : (Lit.int .i64 k).wf = true) (wv : (Lit.int .i64 v).wf = true) (w : World) :
    Calls Try.prog 5 #[.int .i64 k, .int .i64 v] w fun e w' => e = .returned (.bool true) ∧ Below w.heap.size w w' := by
  go_enter Try.func5, Try.ntmps5
  go_wp2_with fail
  refine (ki.new_any 0 w).mono ?_
  rintro e w1 ⟨c, m, r, rfl, h1, k1⟩
  rw [show max (0 : Int) 0 = 0 from rfl] at h1
  have P1 := Lib.hid (ki.put_new h1 k1.size (by omega) (by simp) k wk v (fun e he => (by cases he)))
  have K1 := Lib.hid k1
  clear h1 k1
  go_wp2_with fail
  refine (put_nil k v w1).mono ?_
  rintro e w9 ⟨rfl, rfl⟩
  go_wp2_with fail
  refine (get_nil k w1).mono ?_
  rintro e w9 ⟨rfl, rfl⟩
  go_wp2_with fail
  refine (hits_nil w1).mono ?_
  rintro e w9 ⟨rfl, rfl⟩
  go_wp2_with fail
  refine P1.out.mono ?_
  rintro e w2 (⟨_, hle, _, _⟩ | ⟨a, t, hat, rfl, _, h2, k2, _⟩)
  · simp at hle
  injection hat with h6 h7
  subst h6 h7
  have K2 := Lib.hid (K1.out.trans k2)
  have P2 := Lib.hid (ki.get_no h2 k wk (fun e he => (by cases he)) (by omega))
  have LO := Lib.hid h2.lo.1
  dsimp only
  clear h2 k2 P1
  go_wp2_with fail
  refine P2.out.mono ?_
  rintro e w3 ⟨rfl, h3, hO⟩
  have K3 := Lib.hid (hO.below (by simpa using LO.out) K2.out.size K2.out)
  have L3 := Lib.hid (ki.len_any h3)
  clear h3 hO P2
  go_wp2_with fail
  refine (drop_nil k w3).mono ?_
  rintro e w9 ⟨rfl, rfl⟩
  go_wp2_with fail
  refine (len_nil w3).mono ?_
  rintro e w9 ⟨rfl, rfl⟩
  go_wp2_with fail
  refine (keys_nil w3).mono ?_
  rintro e w9 ⟨rfl, rfl⟩
  go_wp2_with fail
  refine L3.out.mono ?_
  rintro e w9 ⟨rfl, rfl⟩
  go_wp2_with fail
  refine (awake_any w3).mono ?_
  rintro e w4 ⟨rfl, k4⟩
  have K4 := Lib.hid (below_mono K3.out k4 (Nat.le_refl _))
  clear k4
  go_wp2_with fail
  go_ret
  exact ⟨rfl, K4.out⟩
end Go.Proofs.Ytnganclkjoiggaa
