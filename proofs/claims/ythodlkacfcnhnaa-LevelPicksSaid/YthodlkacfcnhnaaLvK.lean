/- Layer 15: settings. Conditions: those written at each theorem. -/
import Derived.Test.YthodlkacfcnhnaaLvJ
namespace Go.Proofs.Ythodlkacfcnhnaa
open Go.RowKit Go.Sort
set_option linter.unusedVariables false
set_option linter.unusedSimpArgs false
/-- The number from one to another that is nearest. -/
def fitI (n lo hi : Int) : Int := if n < lo then lo else if hi < n then hi else n
theorem fit_any (n lo hi : Int) (h : lo ≤ hi) (w : World) : Calls Try.prog 29 #[.int .i64 n, .int .i64 lo, .int .i64 hi] w fun e w' => e = .returned (.int .i64 (fitI n lo hi)) ∧ w = w' := by
  unfold fitI
  by_cases h1 : n < lo
  · rw [if_pos h1]
    have h2 : (if lo > n then lo else n) = lo := if_pos h1
    have h3 : (if hi < lo then hi else lo) = lo := if_neg (by omega)
    go_enter Try.func29, Try.ntmps29
    go_wp2_with fail
    go_ret
    exact ⟨rfl, rfl⟩
  · rw [if_neg h1]
    have h2 : (if lo > n then lo else n) = n := if_neg h1
    by_cases h3 : hi < n
    · rw [if_pos h3]
      have h4 : (if hi < n then hi else n) = hi := if_pos h3
      go_enter Try.func29, Try.ntmps29
      go_wp2_with fail
      go_ret
      exact ⟨rfl, rfl⟩
    · rw [if_neg h3]
      have h4 : (if hi < n then hi else n) = n := if_neg h3
      go_enter Try.func29, Try.ntmps29
      go_wp2_with fail
      go_ret
      exact ⟨rfl, rfl⟩
theorem lfit_any (n lo hi : Int) (w : World) : Calls Try.prog 8 #[.int .i64 n, .int .i64 lo, .int .i64 hi] w fun e w' => e = .returned (.int .i64 (fitI n lo hi)) ∧ w = w' := by
  unfold fitI
  by_cases h1 : n < lo
  · rw [if_pos h1]
    go_enter Try.func8, Try.ntmps8
    go_wp2_with fail
    go_ret
    exact ⟨rfl, rfl⟩
  · rw [if_neg h1]
    by_cases h3 : hi < n
    · rw [if_pos h3]
      go_enter Try.func8, Try.ntmps8
      go_wp2_with fail
      go_ret
      exact ⟨rfl, rfl⟩
    · rw [if_neg h3]
      go_enter Try.func8, Try.ntmps8
      go_wp2_with fail
      go_ret
      exact ⟨rfl, rfl⟩
theorem far4 {W : World} {z y i : Nat} {v : Value} (h : W.cell? ⟨z, i, none⟩ = some v) (hne : y ≠ z) (x0 x1 x2 x3 : Value) : ((((W.setCell ⟨y, 0, none⟩ x0).setCell ⟨y, 1, none⟩ x1).setCell ⟨y, 2, none⟩ x2).setCell ⟨y, 3, none⟩ x3).drew.cell? ⟨z, i, none⟩ = some v := by
  show ((((W.setCell ⟨y, 0, none⟩ x0).setCell ⟨y, 1, none⟩ x1).setCell ⟨y, 2, none⟩ x2).setCell ⟨y, 3, none⟩ x3).cell? ⟨z, i, none⟩ = some v
  rw [World.cell?_setCell_far _ _ _ _ (by exact hne), World.cell?_setCell_far _ _ _ _ (by exact hne), World.cell?_setCell_far _ _ _ _ (by exact hne), World.cell?_setCell_far _ _ _ _ (by exact hne)]
  exact h
abbrev cfgV (a b c d : Int) : Value := .agg #[.int .i64 a, .int .i64 b, .int .i64 c, .int .i64 d]
set_option maxRecDepth 100000 in
set_option maxHeartbeats 8000000 in
theorem Fit_any (a b c d : Int) (w : World) : Calls Try.prog 9 #[cfgV a b c d] w fun e w' => e = .returned (cfgV (fitI a 1 50) (fitI b 1 1048576) (fitI c 2 20) (fitI d 64 262144)) ∧ Below w.heap.size w w' := by
  have C1 := Lib.hid (fit_any a 1 50 (by omega))
  have C2 := Lib.hid (fit_any b 1 1048576 (by omega))
  have C3 := Lib.hid (fit_any c 2 20 (by omega))
  have C4 := Lib.hid (fit_any d 64 262144 (by omega))
  obtain ⟨a', ha⟩ : ∃ x, x = fitI a 1 50 := ⟨_, rfl⟩
  obtain ⟨b', hb⟩ : ∃ x, x = fitI b 1 1048576 := ⟨_, rfl⟩
  obtain ⟨c', hc⟩ : ∃ x, x = fitI c 2 20 := ⟨_, rfl⟩
  obtain ⟨d', hd⟩ : ∃ x, x = fitI d 64 262144 := ⟨_, rfl⟩
  rw [← ha, ← hb, ← hc, ← hd]
  rw [← ha] at C1
  rw [← hb] at C2
  rw [← hc] at C3
  rw [← hd] at C4
  clear ha hb hc hd
  obtain ⟨z, hz⟩ : ∃ z, z = w.heap.size := ⟨_, rfl⟩
  obtain ⟨y, hy⟩ : ∃ y, y = w.heap.size + 1 := ⟨_, rfl⟩
  have GA : Hid (∀ W, (w.alloc (.cells #[.int .i64 a, .int .i64 b, .int .i64 c, .int .i64 d] 23)).alloc (.cells #[.int .i64 0, .int .i64 0, .int .i64 0, .int .i64 0] 23) = W → W.heap[z]? = some (.cells #[.int .i64 a, .int .i64 b, .int .i64 c, .int .i64 d] 23 (0, 0)) ∧ W.heap[y]? = some (.cells #[.int .i64 0, .int .i64 0, .int .i64 0, .int .i64 0] 23 (0, 0)) ∧ Below w.heap.size w W) := Lib.hid (by
    rintro W rfl
    have h1 : (w.alloc (.cells #[.int .i64 a, .int .i64 b, .int .i64 c, .int .i64 d] 23)).heap.size = w.heap.size + 1 := by simp
    refine ⟨?_, ?_, ((Below.refl w.heap.size w).alloc (Nat.le_refl _) _).alloc (by omega) _⟩
    · rw [hz]; exact (((Below.refl _ _).alloc (Nat.le_refl _) _).block w.heap.size (by omega)).trans (heap_alloc_new w _)
    · rw [hy, ← h1]; exact heap_alloc_new _ _)
  go_enter Try.func9, Try.ntmps9
  go_upto_region 1 with fail
  rw [← hz, show z + 1 = y from by omega]
  obtain ⟨W, hW⟩ : ∃ x, (w.alloc (.cells #[.int .i64 a, .int .i64 b, .int .i64 c, .int .i64 d] 23)).alloc (.cells #[.int .i64 0, .int .i64 0, .int .i64 0, .int .i64 0] 23) = x := ⟨_, rfl⟩
  obtain ⟨b1, b2, g1⟩ := GA.out W hW
  rw [hW]
  have HG := Lib.hid g1
  have HYZ := Lib.hid (show z ≠ y ∧ w.heap.size ≤ y by omega)
  have hzy := HYZ.out.1
  have HL := Lib.hid (lt_of_heap b2)
  obtain ⟨c0, c1, c2, c3⟩ := four_cells b1
  obtain ⟨d0, d1, d2, d3⟩ := four_cells b2
  have p0 : W.frozen? ⟨y, 0, none⟩ = false := free_blk b2 0
  have p1 : W.frozen? ⟨y, 1, none⟩ = false := free_blk b2 1
  have p2 : W.frozen? ⟨y, 2, none⟩ = false := free_blk b2 2
  have p3 : W.frozen? ⟨y, 3, none⟩ = false := free_blk b2 3
  have KS : Hid (∀ x0 x1 x2 x3 : Value, (((((W.setCell ⟨y, 0, none⟩ x0).setCell ⟨y, 1, none⟩ x1).setCell ⟨y, 2, none⟩ x2).setCell ⟨y, 3, none⟩ x3).drew.cell? ⟨z, 0, none⟩ = some (.int .i64 a) ∧ ((((W.setCell ⟨y, 0, none⟩ x0).setCell ⟨y, 1, none⟩ x1).setCell ⟨y, 2, none⟩ x2).setCell ⟨y, 3, none⟩ x3).drew.cell? ⟨z, 1, none⟩ = some (.int .i64 b) ∧ ((((W.setCell ⟨y, 0, none⟩ x0).setCell ⟨y, 1, none⟩ x1).setCell ⟨y, 2, none⟩ x2).setCell ⟨y, 3, none⟩ x3).drew.cell? ⟨z, 2, none⟩ = some (.int .i64 c) ∧ ((((W.setCell ⟨y, 0, none⟩ x0).setCell ⟨y, 1, none⟩ x1).setCell ⟨y, 2, none⟩ x2).setCell ⟨y, 3, none⟩ x3).drew.cell? ⟨z, 3, none⟩ = some (.int .i64 d))) := Lib.hid fun x0 x1 x2 x3 => ⟨far4 c0 (Ne.symm hzy) _ _ _ _, far4 c1 (Ne.symm hzy) _ _ _ _, far4 c2 (Ne.symm hzy) _ _ _ _, far4 c3 (Ne.symm hzy) _ _ _ _⟩
  clear hW b1 b2 g1 GA hz hy
  go_region_held3 (fun W => (W.cell? ⟨z, 0, none⟩ = some (.int .i64 a) ∧ W.cell? ⟨z, 1, none⟩ = some (.int .i64 b) ∧ W.cell? ⟨z, 2, none⟩ = some (.int .i64 c) ∧ W.cell? ⟨z, 3, none⟩ = some (.int .i64 d)))
    (first | exact ⟨c0, c1, c2, c3⟩ | exact KS.out _ _ _ _ | (go_keep; done))
    (first | (go_at_call 29; (first | with_reducible refine (C1.out _).mono ?_ | with_reducible refine (C2.out _).mono ?_ | with_reducible refine (C3.out _).mono ?_ | with_reducible refine (C4.out _).mono ?_); rintro e W1 ⟨rfl, rfl⟩))
  go_wp2_with fail
  exact bodyPost_ret (v := cfgV a' b' c' d') (by simp [results, Try.results9, go_sem, d0, d1, d2, d3, p0, p1, p2, p3, HL.out]) rfl ⟨rfl, ((((HG.out.setCell (p := ⟨y, 0, none⟩) HYZ.out.2 _).setCell (p := ⟨y, 1, none⟩) HYZ.out.2 _).setCell (p := ⟨y, 2, none⟩) HYZ.out.2 _).setCell (p := ⟨y, 3, none⟩) HYZ.out.2 _).drew⟩
theorem eq_cfg (a b c d a' b' c' d' : Int) (W : World) : (Op.equalIn 10000 23 (cfgV a b c d) (cfgV a' b' c' d')).run Try.prog W = .ok (a == a' && (b == b' && (c == c' && d == d'))) W := by
  cases h1 : (a == a') <;> cases h2 : (b == b') <;> cases h3 : (c == c') <;> cases h4 : (d == d') <;> simp [go_sem, h1, h2, h3, h4]
set_option maxRecDepth 100000 in
set_option maxHeartbeats 8000000 in
theorem Sound_any (a b c d : Int) (w : World) : Calls Try.prog 10 #[cfgV a b c d] w fun e w' => e = .returned (.bool (a == fitI a 1 50 && (b == fitI b 1 1048576 && (c == fitI c 2 20 && d == fitI d 64 262144)))) ∧ Below w.heap.size w w' := by
  have CF := Lib.hid (Fit_any a b c d)
  obtain ⟨a', ha⟩ : ∃ x, x = fitI a 1 50 := ⟨_, rfl⟩
  obtain ⟨b', hb⟩ : ∃ x, x = fitI b 1 1048576 := ⟨_, rfl⟩
  obtain ⟨c', hc⟩ : ∃ x, x = fitI c 2 20 := ⟨_, rfl⟩
  obtain ⟨d', hd⟩ : ∃ x, x = fitI d 64 262144 := ⟨_, rfl⟩
  rw [← ha, ← hb, ← hc, ← hd] at CF ⊢
  clear ha hb hc hd
  have HQ := eq_cfg a b c d a' b' c' d'
  obtain ⟨q, hq⟩ : ∃ q, q = (a == a' && (b == b' && (c == c' && d == d'))) := ⟨_, rfl⟩
  simp only [← hq] at HQ ⊢
  clear hq
  obtain ⟨z, hz⟩ : ∃ z, z = w.heap.size := ⟨_, rfl⟩
  have b1 := heap_alloc_new w (.cells #[.int .i64 a, .int .i64 b, .int .i64 c, .int .i64 d] 23)
  have HG := Lib.hid ((Below.refl w.heap.size w).alloc (Nat.le_refl _) (.cells #[.int .i64 a, .int .i64 b, .int .i64 c, .int .i64 d] 23))
  have HH := Lib.hid (And.intro b1 HG.out)
  clear b1 HG
  go_enter Try.func10, Try.ntmps10
  go_upto_region 1 with fail
  refine wp_letter (fun W => W.heap[w.heap.size]? = some (.cells #[.int .i64 a, .int .i64 b, .int .i64 c, .int .i64 d] 23 (0, 0)) ∧ Below w.heap.size w W) HH.out ?_
  clear HH
  rintro W ⟨b1, g1⟩
  rw [← hz] at b1 ⊢
  have HG := Lib.hid g1
  have HB := Lib.hid b1
  obtain ⟨c0, c1, c2, c3⟩ := four_cells b1
  have KX : Hid (∀ X, Below W.heap.size W X → X.cell? ⟨z, 0, none⟩ = some (.int .i64 a) ∧ X.cell? ⟨z, 1, none⟩ = some (.int .i64 b) ∧ X.cell? ⟨z, 2, none⟩ = some (.int .i64 c) ∧ X.cell? ⟨z, 3, none⟩ = some (.int .i64 d)) := Lib.hid fun X hX => four_cells ((hX.block z (lt_of_heap HB.out)).trans HB.out)
  clear b1 g1 hz
  go_region_held3 (fun W => (W.cell? ⟨z, 0, none⟩ = some (.int .i64 a) ∧ W.cell? ⟨z, 1, none⟩ = some (.int .i64 b) ∧ W.cell? ⟨z, 2, none⟩ = some (.int .i64 c) ∧ W.cell? ⟨z, 3, none⟩ = some (.int .i64 d)))
    (first | exact KX.out _ HBW.out | (go_keep; done))
    (first | (go_at_call 9; (with_reducible refine (CF.out _).mono ?_); rintro e W1 ⟨rfl, hb⟩; have HBW := Lib.hid (undraw (B := W.heap.size) hb); clear hb))
  go_wp2_with fail
  go_ret
  exact ⟨rfl, below_mono HG.out HBW.out (Nat.le_refl _)⟩
end Go.Proofs.Ythodlkacfcnhnaa
