/- The law DateSteps walked: for every day number and every count of months the call returns true. No conditions. -/
import Derived.Test.YtknahehmkjaelabDateW
namespace Go.Proofs.Ytknahehmkjaelab
open Go.RowKit
set_option linter.unusedSimpArgs false

set_option maxRecDepth 100000 in
set_option maxHeartbeats 1000000 in
theorem dateSteps_out (k M n : Int) (hk : k % 2932897 = n) (h0 : 0 ≤ k) (h1 : k ≤ 4294967295) (m0 : -32768 ≤ M) (m1 : M ≤ 32767) (w : World)
    (hm : ∀ w : World, Calls Try.prog 10 #[.int .i64 n, .int .i64 M] w fun e w' => e = .returned (.tuple #[.int .i64 0, .bool false]) ∧ w = w') :
    Calls Try.prog 8 #[.int .u32 k, .int .i16 M] w fun e w' => e = .returned (.bool true) ∧ Below w.heap.size w w' := by
  have HM := Lib.hid hm
  have HK := Lib.hid hk
  clear hm hk
  go_enter Try.func8, Try.ntmps8
  go_wp2_with fail
  rw [HK.out]
  refine (HM.out _).mono ?_
  rintro e1 w1 ⟨rfl, rfl⟩
  go_wp2_with (go_at_call 13; refine (awake_any _).mono ?_; rintro e2 w2 ⟨rfl, hB⟩)
  go_ret
  exact ⟨rfl, hB⟩

set_option maxRecDepth 100000 in
set_option maxHeartbeats 1000000 in
theorem dateSteps_in (k M n a b y m d e : Int) (hk : k % 2932897 = n) (h0 : 0 ≤ k) (h1 : k ≤ 4294967295) (m0 : -32768 ≤ M) (m1 : M ≤ 32767) (w : World)
    (hm : ∀ w : World, Calls Try.prog 10 #[.int .i64 n, .int .i64 M] w fun e w' => e = .returned (.tuple #[.int .i64 a, .bool true]) ∧ w = w')
    (hm' : ∀ w : World, Calls Try.prog 10 #[.int .i64 a, .int .i64 (-M)] w fun e w' => e = .returned (.tuple #[.int .i64 b, .bool true]) ∧ w = w')
    (hn : Cal.Is n y m d) (hb : Cal.Is b y m e) (hle : e = d ∨ (28 < d ∧ e < d)) :
    Calls Try.prog 8 #[.int .u32 k, .int .i16 M] w fun e w' => e = .returned (.bool true) ∧ Below w.heap.size w w' := by
  have hbn : b ≤ n := by rw [hn.num, hb.num]; unfold Cal.dayNum; omega
  have HM := Lib.hid hm
  have HM' := Lib.hid hm'
  have HK := Lib.hid hk
  have HN := Lib.hid hn
  have HB := Lib.hid hb
  clear hm hm' hk hn hb
  rcases hle with hed | ⟨hd, hed⟩
  · subst hed
    go_enter Try.func8, Try.ntmps8
    go_wp2_with fail
    rw [HK.out]
    refine (HM.out _).mono ?_
    rintro e1 w1 ⟨rfl, rfl⟩
    go_wp2_with fail
    refine (HM'.out _).mono ?_
    rintro e1 w1 ⟨rfl, rfl⟩
    go_wp2_with fail
    refine (civil_is n y m e HN.out _).mono ?_
    rintro e1 w1 ⟨rfl, rfl⟩
    go_wp2_with fail
    refine (civil_is b y m e HB.out _).mono ?_
    rintro e1 w1 ⟨rfl, rfl⟩
    go_wp2_with (go_at_call 13; refine (awake_any _).mono ?_; rintro e2 w2 ⟨rfl, hB⟩)
    go_ret
    exact ⟨rfl, hB⟩
  · have hne : (e == d) = false := by simp; omega
    go_enter Try.func8, Try.ntmps8
    go_wp2_with fail
    rw [HK.out]
    refine (HM.out _).mono ?_
    rintro e1 w1 ⟨rfl, rfl⟩
    go_wp2_with fail
    refine (HM'.out _).mono ?_
    rintro e1 w1 ⟨rfl, rfl⟩
    go_wp2_with fail
    refine (civil_is n y m d HN.out _).mono ?_
    rintro e1 w1 ⟨rfl, rfl⟩
    go_wp2_with fail
    refine (civil_is b y m e HB.out _).mono ?_
    rintro e1 w1 ⟨rfl, rfl⟩
    go_wp2_with (go_at_call 13; refine (awake_any _).mono ?_; rintro e2 w2 ⟨rfl, hB⟩)
    go_ret
    exact ⟨rfl, hB⟩

set_option maxRecDepth 100000 in
set_option maxHeartbeats 1000000 in
theorem dateSteps_walk (k M : Int) (w0 : (Lit.int .u32 k).wf = true) (w1 : (Lit.int .i16 M).wf = true) (w : World) :
    Calls Try.prog 8 #[.int .u32 k, .int .i16 M] w fun e w' => e = .returned (.bool true) ∧ Below w.heap.size w w' := by
  have bk := bounds_u32 w0
  have bM := bounds_i16 w1
  clear w0 w1
  obtain ⟨n, hn⟩ : ∃ n, k % 2932897 = n := ⟨_, rfl⟩
  obtain ⟨y, m, d, hi⟩ := Cal.Is.exists_ (n := n) (by omega) (by omega)
  have hi' := hi
  obtain ⟨y1, y2, c1, c2, d1, d2, _⟩ := hi'
  by_cases hr : (12 * y + m - 1 + M) / 12 < 1970 ∨ 9999 < (12 * y + m - 1 + M) / 12
  · exact dateSteps_out k M n hn bk.1 bk.2 bM.1 bM.2 w (months_out n M y m d hi (by omega) (by omega) hr)
  · obtain ⟨z, hz⟩ : ∃ z, (12 * y + m - 1 + M) / 12 = z := ⟨_, rfl⟩
    obtain ⟨o, ho⟩ : ∃ o, (12 * y + m - 1 + M) % 12 + 1 = o := ⟨_, rfl⟩
    have d28 := Cal.dim_28 z o (by omega) (by omega)
    obtain ⟨D, hD⟩ : ∃ D, (if Cal.dim z o < d then Cal.dim z o else d) = D := ⟨_, rfl⟩
    have hD1 : 1 ≤ D ∧ D ≤ Cal.dim z o ∧ D ≤ d ∧ (D = d ∨ (28 < d ∧ D < d)) := by
      rw [← hD]; split <;> omega
    have ha : Cal.Is (Cal.dayNum z o D) z o D := Cal.is_dayNum (by omega) (by omega) (by omega) (by omega) (by omega) (by omega)
    have hb : Cal.Is (Cal.dayNum y m D) y m D := Cal.is_dayNum (by omega) (by omega) (by omega) (by omega) (by omega) (by omega)
    have e1 : (12 * z + o - 1 + -M) / 12 = y := by omega
    have e2 : (12 * z + o - 1 + -M) % 12 + 1 = m := by omega
    refine dateSteps_in k M n (Cal.dayNum z o D) (Cal.dayNum y m D) y m d D hn bk.1 bk.2 bM.1 bM.2 w
      (months_yes n M y m d _ hi (by omega) (by omega) (by rw [hz, ho, hD]; exact ha))
      (months_yes _ (-M) z o D _ ha (by omega) (by omega) (by rw [e1, e2, if_neg (by omega)]; exact hb)) hi hb hD1.2.2.2
end Go.Proofs.Ytknahehmkjaelab
