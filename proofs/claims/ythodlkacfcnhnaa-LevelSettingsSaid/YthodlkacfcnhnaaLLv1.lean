/- The law LevelSettings, walked. Conditions: those written at each theorem. -/
import Derived.Test.YthodlkacfcnhnaaLvO
namespace Go.Proofs.Ythodlkacfcnhnaa
open Go.RowKit Go.Sort
set_option linter.unusedVariables false
set_option linter.unusedSimpArgs false
theorem fitI_twice {n lo hi : Int} (h : lo ≤ hi) : fitI (fitI n lo hi) lo hi = fitI n lo hi := by
  have := fitI_in (n := n) h
  generalize fitI n lo hi = m at *
  unfold fitI
  rw [if_neg (by omega), if_neg (by omega)]
set_option maxRecDepth 100000 in
set_option maxHeartbeats 8000000 in
theorem levelSettings_go (a b c d : Int) (w : World) : Calls Try.prog 3 #[cfgV a b c d] w fun e w' => e = .returned (.bool true) ∧ Below w.heap.size w w' := by
  have CA := Lib.hid awake_any
  have CF := Lib.hid (Fit_any a b c d)
  have CS1 := Lib.hid (Sound_any a b c d)
  have CS2 := Lib.hid (Sound_any (fitI a 1 50) (fitI b 1 1048576) (fitI c 2 20) (fitI d 64 262144))
  rw [fitI_twice (by omega), fitI_twice (by omega), fitI_twice (by omega), fitI_twice (by omega)] at CS2
  have C1 := Lib.hid (lfit_any a 1 50)
  have C2 := Lib.hid (lfit_any b 1 1048576)
  have C3 := Lib.hid (lfit_any c 2 20)
  have C4 := Lib.hid (lfit_any d 64 262144)
  obtain ⟨a', ha⟩ : ∃ x, x = fitI a 1 50 := ⟨_, rfl⟩
  obtain ⟨b', hb⟩ : ∃ x, x = fitI b 1 1048576 := ⟨_, rfl⟩
  obtain ⟨c', hc⟩ : ∃ x, x = fitI c 2 20 := ⟨_, rfl⟩
  obtain ⟨d', hd⟩ : ∃ x, x = fitI d 64 262144 := ⟨_, rfl⟩
  rw [← ha, ← hb, ← hc, ← hd] at CF CS1 CS2
  rw [← ha] at C1
  rw [← hb] at C2
  rw [← hc] at C3
  rw [← hd] at C4
  clear ha hb hc hd
  have HQ1 := eq_cfg a' b' c' d' a' b' c' d'
  have HQ2 := eq_cfg a' b' c' d' a b c d
  rw [show (a' == a && (b' == b && (c' == c && d' == d))) = (a == a' && (b == b' && (c == c' && d == d'))) from by rw [Bool.beq_comm (a := a'), Bool.beq_comm (a := b'), Bool.beq_comm (a := c'), Bool.beq_comm (a := d')]] at HQ2
  obtain ⟨q, hq⟩ : ∃ q, q = (a == a' && (b == b' && (c == c' && d == d'))) := ⟨_, rfl⟩
  simp only [← hq] at CS1 HQ2
  simp only [BEq.rfl, Bool.and_self] at HQ1 CS2
  clear hq
  obtain ⟨z, hz⟩ : ∃ z, z = w.heap.size := ⟨_, rfl⟩
  have b1 := heap_alloc_new w (.cells #[.int .i64 a, .int .i64 b, .int .i64 c, .int .i64 d] 23)
  have HG := Lib.hid ((Below.refl w.heap.size w).alloc (Nat.le_refl _) (.cells #[.int .i64 a, .int .i64 b, .int .i64 c, .int .i64 d] 23))
  have HH := Lib.hid (And.intro b1 HG.out)
  clear b1 HG
  go_enter Try.func3, Try.ntmps3
  go_upto_region 1 with fail
  refine wp_letter (fun W => W.heap[w.heap.size]? = some (.cells #[.int .i64 a, .int .i64 b, .int .i64 c, .int .i64 d] 23 (0, 0)) ∧ Below w.heap.size w W) HH.out ?_
  clear HH
  rintro W ⟨b1, g1⟩
  rw [← hz] at b1 ⊢
  have HG := Lib.hid g1
  have HB := Lib.hid b1
  obtain ⟨c0, c1, c2, c3⟩ := four_cells b1
  have KN : Hid (∀ o : Obj, (W.drew.alloc o).cell? ⟨z, 0, none⟩ = some (.int .i64 a) ∧ (W.drew.alloc o).cell? ⟨z, 1, none⟩ = some (.int .i64 b) ∧ (W.drew.alloc o).cell? ⟨z, 2, none⟩ = some (.int .i64 c) ∧ (W.drew.alloc o).cell? ⟨z, 3, none⟩ = some (.int .i64 d)) := Lib.hid fun o => four_cells ((((Below.refl W.heap.size W).drew.alloc (Nat.le_refl _) o).block z (lt_of_heap HB.out)).trans HB.out)
  clear b1 g1 hz
  go_cut [3] (fun s wx => s = .pointer (some ⟨W.heap.size, 0, none⟩) ∧ wx = (W.alloc (.cells #[.int .i64 a', .int .i64 b', .int .i64 c', .int .i64 d'] 23)).drew)
  case first =>
    go_region_held3 (fun W => (W.cell? ⟨z, 0, none⟩ = some (.int .i64 a) ∧ W.cell? ⟨z, 1, none⟩ = some (.int .i64 b) ∧ W.cell? ⟨z, 2, none⟩ = some (.int .i64 c) ∧ W.cell? ⟨z, 3, none⟩ = some (.int .i64 d)))
      (first | exact ⟨c0, c1, c2, c3⟩ | exact KN.out _ | (go_keep; done))
      (first | (go_at_call 8; (first | with_reducible refine (C1.out _).mono ?_ | with_reducible refine (C2.out _).mono ?_ | with_reducible refine (C3.out _).mono ?_ | with_reducible refine (C4.out _).mono ?_); rintro e W1 ⟨rfl, rfl⟩))
    all_goals (go_wp2_with fail; go_meet; exact ⟨rfl, rfl⟩)
  case rest =>
    obtain ⟨rfl, rfl⟩ := hcut
    obtain ⟨y, hy⟩ : ∃ y, y = W.heap.size := ⟨_, rfl⟩
    have HX : Hid (Below w.heap.size w (W.alloc (.cells #[.int .i64 a', .int .i64 b', .int .i64 c', .int .i64 d'] 23)).drew ∧ (W.alloc (.cells #[.int .i64 a', .int .i64 b', .int .i64 c', .int .i64 d'] 23)).drew.heap[z]? = some (.cells #[.int .i64 a, .int .i64 b, .int .i64 c, .int .i64 d] 23 (0, 0)) ∧ (W.alloc (.cells #[.int .i64 a', .int .i64 b', .int .i64 c', .int .i64 d'] 23)).drew.heap[y]? = some (.cells #[.int .i64 a', .int .i64 b', .int .i64 c', .int .i64 d'] 23 (0, 0))) := Lib.hid (by
      refine ⟨(HG.out.alloc HG.out.size _).drew, (((Below.refl W.heap.size W).alloc (Nat.le_refl _) _).block z (lt_of_heap HB.out)).trans HB.out, ?_⟩
      rw [hy]
      exact heap_alloc_new W _)
    go_upto_region 2 with fail
    rw [← hy]
    refine wp_letter (fun X => Below w.heap.size w X ∧ X.heap[z]? = some (.cells #[.int .i64 a, .int .i64 b, .int .i64 c, .int .i64 d] 23 (0, 0)) ∧ X.heap[y]? = some (.cells #[.int .i64 a', .int .i64 b', .int .i64 c', .int .i64 d'] 23 (0, 0))) HX.out ?_
    clear HX hy HG HB KN c0 c1 c2 c3 C1 C2 C3 C4
    rintro X ⟨g1, b1, b2⟩
    have HG := Lib.hid g1
    have HB1 := Lib.hid b1
    have HB2 := Lib.hid b2
    obtain ⟨c0, c1, c2, c3⟩ := four_cells b1
    obtain ⟨d0, d1, d2, d3⟩ := four_cells b2
    have KX : Hid (∀ W, Below X.heap.size X W → (W.cell? ⟨z, 0, none⟩ = some (.int .i64 a) ∧ W.cell? ⟨z, 1, none⟩ = some (.int .i64 b) ∧ W.cell? ⟨z, 2, none⟩ = some (.int .i64 c) ∧ W.cell? ⟨z, 3, none⟩ = some (.int .i64 d)) ∧ W.cell? ⟨y, 0, none⟩ = some (.int .i64 a') ∧ W.cell? ⟨y, 1, none⟩ = some (.int .i64 b') ∧ W.cell? ⟨y, 2, none⟩ = some (.int .i64 c') ∧ W.cell? ⟨y, 3, none⟩ = some (.int .i64 d')) := Lib.hid fun W hW => ⟨four_cells ((hW.block z (lt_of_heap HB1.out)).trans HB1.out), four_cells ((hW.block y (lt_of_heap HB2.out)).trans HB2.out)⟩
    have HBW := Lib.hid (Below.refl X.heap.size X)
    clear b1 b2 g1
    go_region_held3 (fun W => (W.cell? ⟨z, 0, none⟩ = some (.int .i64 a) ∧ W.cell? ⟨z, 1, none⟩ = some (.int .i64 b) ∧ W.cell? ⟨z, 2, none⟩ = some (.int .i64 c) ∧ W.cell? ⟨z, 3, none⟩ = some (.int .i64 d)) ∧ W.cell? ⟨y, 0, none⟩ = some (.int .i64 a') ∧ W.cell? ⟨y, 1, none⟩ = some (.int .i64 b') ∧ W.cell? ⟨y, 2, none⟩ = some (.int .i64 c') ∧ W.cell? ⟨y, 3, none⟩ = some (.int .i64 d'))
      (first | exact KX.out _ HBW.out | (go_keep; done))
      (first | (go_at_call 9; (with_reducible refine (CF.out _).mono ?_); rintro e W1 ⟨rfl, hb⟩; have HBW' := Lib.hid (show Below X.heap.size X W1 by first | exact below_mono HBW.out hb (Nat.le_refl _) | exact undraw (B := X.heap.size) hb); have HBW := HBW'; clear HBW' hb) | (go_at_call 10; (first | with_reducible refine (CS1.out _).mono ?_ | with_reducible refine (CS2.out _).mono ?_); rintro e W1 ⟨rfl, hb⟩; have HBW' := Lib.hid (show Below X.heap.size X W1 by first | exact below_mono HBW.out hb (Nat.le_refl _) | exact undraw (B := X.heap.size) hb); have HBW := HBW'; clear HBW' hb) | (go_at_call 11; (with_reducible refine (CA.out _).mono ?_); rintro e W1 ⟨rfl, hb⟩; have HBW' := Lib.hid (show Below X.heap.size X W1 by first | exact below_mono HBW.out hb (Nat.le_refl _) | exact undraw (B := X.heap.size) hb); have HBW := HBW'; clear HBW' hb))
    go_wp2_with fail
    go_ret
    exact ⟨rfl, below_mono HG.out HBW.out (Nat.le_refl _)⟩
theorem levelSettings_walk (a b c d : Int) (w : World) : Calls Try.prog 3 #[.agg #[.int .i64 a, .int .i64 b, .int .i64 c, .int .i64 d]] w fun e w' => e = .returned (.bool true) ∧ Below w.heap.size w w' := levelSettings_go a b c d w
end Go.Proofs.Ythodlkacfcnhnaa
