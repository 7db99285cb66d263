/- What the document's own answers Of, Civil, Months of layer 2 are, as contracts over plain mathematics. Conditions: those written at each theorem. -/
import Derived.Test.YtkfkoopfoiekoaaDoorDateRef
namespace Go.Proofs.YtkfkoopfoiekoaaDoor
open Go.RowKit
set_option linter.unusedSimpArgs false

theorem rof_no (y m d : Int) (h : y < 1970 ∨ 9999 < y ∨ d < 1 ∨ Cal.dim y m < d) (w : World) :
    Calls Tryd.prog 30 #[.int .i64 y, .int .i64 m, .int .i64 d] w fun e w' => e = .returned (.int .i64 (-1)) ∧ Below w.heap.size w w' := by
  by_cases h1 : y < 1970
  · clear h
    go_enter Tryd.func30, Tryd.ntmps30
    go_wp2_with fail
    go_ret
    exact ⟨rfl, Below.refl _ _⟩
  · by_cases h2 : 9999 < y
    · clear h
      go_enter Tryd.func30, Tryd.ntmps30
      go_wp2_with fail
      go_ret
      exact ⟨rfl, Below.refl _ _⟩
    · by_cases h3 : m < 1
      · clear h
        go_enter Tryd.func30, Tryd.ntmps30
        go_wp2_with fail
        go_ret
        exact ⟨rfl, Below.refl _ _⟩
      · by_cases h4 : 12 < m
        · clear h
          go_enter Tryd.func30, Tryd.ntmps30
          go_wp2_with fail
          go_ret
          exact ⟨rfl, Below.refl _ _⟩
        · by_cases h5 : d < 1
          · clear h
            go_enter Tryd.func30, Tryd.ntmps30
            go_wp2_with fail
            go_ret
            exact ⟨rfl, Below.refl _ _⟩
          · have h6 : Cal.dim y m < d := by omega
            clear h
            go_enter Tryd.func30, Tryd.ntmps30
            go_wp2_with (go_at_call 42; refine (rdays_any _ _ _).mono ?_; rintro e w' ⟨rfl, hB⟩)
            go_ret
            exact ⟨rfl, hB⟩

set_option maxHeartbeats 1000000 in
theorem rof_yes (n y m d : Int) (h : Cal.Is n y m d) (w : World) :
    Calls Tryd.prog 30 #[.int .i64 y, .int .i64 m, .int .i64 d] w fun e w' => e = .returned (.int .i64 n) ∧ Below w.heap.size w w' := by
  obtain ⟨a, b, c, e, f, g, hn⟩ := h
  have HN := Lib.hid hn
  clear hn
  have c5 := Cal.dim_hi y m
  obtain ⟨B, hB0⟩ : ∃ B, B = w.heap.size := ⟨_, rfl⟩
  have hst : B ≤ w.heap.size := by omega
  rw [← hB0]
  clear hB0
  go_enter Tryd.func30, Tryd.ntmps30
  go_wp2_with (go_at_call 42; refine (rdays_any _ _ _).mono ?_; rintro e w1 ⟨rfl, hB⟩)
  have hB1 := hB.mono hst
  have HB1 := Lib.hid hB1
  clear hB hB1
  go_loop [7, 8] (fun t u => ∃ x : Int, 1970 ≤ x ∧ x ≤ y ∧ u = .int .i64 x ∧ t = .int .i64 (Cal.dby x)) (fun _ u => (y - intOf u).toNat)
  case atStart => exact ⟨1970, by omega, a, rfl, by rw [Cal.dby_1970]⟩
  case round =>
    obtain ⟨x, x1, x2, rfl, rfl⟩ := hrel
    have d0 : -719162 ≤ Cal.dby x := by unfold Cal.dby; omega
    have d1 : Cal.dby x ≤ 370000000 := by unfold Cal.dby; omega
    by_cases hx : x < y
    · by_cases hl : lpB x = true
      · have HS := Lib.hid (show Cal.dby (x + 1) = Cal.dby x + 365 + 1 by rw [Cal.dby_succ, lp_true hl])
        go_wp2_with (go_at_call 43; refine (rleap_any _ _).mono ?_; rintro e w' ⟨rfl, rfl⟩)
        go_round
        case rel => exact ⟨x + 1, by omega, by omega, rfl, by rw [HS.out]⟩
        case measure => simp [intOf]; omega
      · have hl : lpB x = false := by simpa using hl
        have HS := Lib.hid (show Cal.dby (x + 1) = Cal.dby x + 365 by rw [Cal.dby_succ, lp_false hl]; omega)
        go_wp2_with (go_at_call 43; refine (rleap_any _ _).mono ?_; rintro e w' ⟨rfl, rfl⟩)
        go_round
        case rel => exact ⟨x + 1, by omega, by omega, rfl, by rw [HS.out]⟩
        case measure => simp [intOf]; omega
    · obtain rfl : x = y := by omega
      go_wp2_with fail
      go_loopw [7, 9] (fun t k wr => ∃ j : Int, 1 ≤ j ∧ j ≤ m ∧ k = .int .i64 j ∧ t = .int .i64 (Cal.dby x + Cal.cum x j) ∧ Below B w wr) (fun _ k _ => (m - intOf k).toNat)
      case atStart => exact ⟨1, by omega, c, rfl, by rw [Cal.cum_one]; simp, HB1.out⟩
      case round =>
        obtain ⟨j, j1, j2, rfl, rfl, hBr⟩ := hrel
        have c1 := Cal.cum_lo x j
        have c2 := Cal.cum_hi x j
        have c3 := (Cal.lp_01 x).2
        have c4 := Cal.dim_lo x j
        have c6 := Cal.dim_hi x j
        have HBr := Lib.hid hBr
        clear hBr
        by_cases hj : j < m
        · have HS := Lib.hid (Cal.cum_succ x j j1 (by omega))
          go_wp2_with (go_at_call 42; refine (rdays_any _ _ _).mono ?_; rintro e w3 ⟨rfl, hB3⟩)
          have hBB := below_mono HBr.out hB3 hst
          go_roundw
          case rel => exact ⟨j + 1, by omega, by omega, rfl, by rw [HS.out]; go_num, hBB⟩
          case measure => simp [intOf]; omega
        · obtain rfl : j = m := by omega
          go_wp2_with fail
          go_ret
          exact ⟨ret_int HN.out, HBr.out⟩

theorem rcivil_no (n : Int) (h : n < 0 ∨ 2932896 < n) (w : World) :
    Calls Tryd.prog 44 #[.int .i64 n] w fun e w' => e = .returned (.tuple #[.int .i64 0, .int .i64 0, .int .i64 0]) ∧ w = w' := by
  by_cases h1 : n < 0
  · clear h
    go_enter Tryd.func44, Tryd.ntmps44
    go_wp2_with fail
    go_ret3
    exact ⟨rfl, rfl⟩
  · have h2 : 2932896 < n := by omega
    clear h
    go_enter Tryd.func44, Tryd.ntmps44
    go_wp2_with fail
    go_ret3
    exact ⟨rfl, rfl⟩

set_option maxHeartbeats 2000000 in
theorem rcivil_yes (n : Int) (h1 : 0 ≤ n) (h2 : n ≤ 2932896) (w : World) :
    Calls Tryd.prog 44 #[.int .i64 n] w fun e w' => ∃ y m d : Int, Cal.Is n y m d ∧ e = .returned (.tuple #[.int .i64 y, .int .i64 m, .int .i64 d]) ∧ Below w.heap.size w w' := by
  obtain ⟨B, hB0⟩ : ∃ B, B = w.heap.size := ⟨_, rfl⟩
  have hst : B ≤ w.heap.size := by omega
  rw [← hB0]
  clear hB0
  have d1970 := Cal.dby_1970
  have h0 : n - Cal.dby 1970 = n := by omega
  have H0 := Lib.hid h0
  clear h0 d1970
  have hr := Below.refl B w
  go_enter Tryd.func44, Tryd.ntmps44
  go_wp2_with fail
  go_loop [0, 5] (fun t u => ∃ x : Int, 1970 ≤ x ∧ x ≤ 9999 ∧ Cal.dby x ≤ n ∧ u = .int .i64 x ∧ t = .int .i64 (n - Cal.dby x)) (fun _ u => (9999 - intOf u).toNat)
  case atStart => exact ⟨1970, by omega, by omega, by have := H0.out; omega, rfl, by rw [H0.out]⟩
  case round =>
    obtain ⟨x, x1, x2, x3, rfl, rfl⟩ := hrel
    have d0 : -719162 ≤ Cal.dby x := by unfold Cal.dby; omega
    have d1 : Cal.dby x ≤ 370000000 := by unfold Cal.dby; omega
    have hup : Cal.dby (x + 1) ≤ n → x < 9999 := fun h => by
      rcases Int.lt_or_le x 9999 with h' | h'
      · exact h'
      · have := Cal.dby_mono 10000 (x + 1) (by omega)
        rw [Cal.dby_10000] at this
        omega
    have HUP := Lib.hid hup
    clear hup
    by_cases hl : lpB x = true
    · have hs : Cal.dby (x + 1) = Cal.dby x + 365 + 1 := by rw [Cal.dby_succ, lp_true hl]
      have HS := Lib.hid hs
      by_cases hc : 366 ≤ n - Cal.dby x
      · have hx9 : x < 9999 := HUP.out (by omega)
        clear hs
        go_wp2_with (go_at_call 43; refine (rleap_any _ _).mono ?_; rintro e w' ⟨rfl, rfl⟩)
        go_round
        case rel => exact ⟨x + 1, by omega, by omega, by rw [HS.out]; omega, rfl, by rw [HS.out]; go_num⟩
        case measure => simp [intOf]; omega
      · have hlast : n < Cal.dby (x + 1) := by omega
        have HL := Lib.hid hlast
        clear hs hlast
        by_cases hc2 : 365 ≤ n - Cal.dby x
        all_goals
          go_wp2_with (go_at_call 43; refine (rleap_any _ _).mono ?_; rintro e w' ⟨rfl, rfl⟩)
          go_loopw [0, 6] (fun t k wr => ∃ m : Int, 1 ≤ m ∧ m ≤ 12 ∧ k = .int .i64 m ∧ 0 ≤ n - Cal.dby x - Cal.cum x m ∧ t = .int .i64 (n - Cal.dby x - Cal.cum x m) ∧ Below B w wr) (fun _ k _ => (12 - intOf k).toNat)
          case atStart => exact ⟨1, by omega, by omega, rfl, by rw [Cal.cum_one]; omega, by rw [Cal.cum_one]; simp, hr⟩
          case round =>
            obtain ⟨m, m1, m2, rfl, hrest, rfl, hBr⟩ := hrel
            have HBr := Lib.hid hBr
            clear hBr
            have c1 := Cal.cum_lo x m
            have c2 := Cal.cum_hi x m
            have c3 := Cal.lp_01 x
            have c4 := Cal.dim_lo x m
            have c5 := Cal.dim_hi x m
            have CS := Lib.hid (Cal.cum_succ x m m1 m2)
            by_cases hd : Cal.dim x m ≤ n - Cal.dby x - Cal.cum x m
            · have hm : m < 12 := by
                rcases Int.lt_or_le m 12 with h | h
                · exact h
                · obtain rfl : m = 12 := by omega
                  have h13 := Cal.cum_13 x
                  have h1 : Cal.cum x 13 = _ := CS.out
                  have h2 := Cal.dby_succ x
                  have h3 := HL.out
                  omega
              go_wp2_with fail
              refine (rdays_any _ _ _).mono ?_
              rintro e w3 ⟨rfl, hB3⟩
              have HB3 := Lib.hid (below_mono HBr.out hB3 hst)
              clear hB3
              go_wp2_with fail
              refine (rdays_any _ _ _).mono ?_
              rintro e w4 ⟨rfl, hB4⟩
              have hBB := below_mono HB3.out hB4 hst
              clear hB4
              go_wp2_with fail
              go_roundw
              case rel => exact ⟨m + 1, by omega, by omega, rfl, by rw [CS.out]; omega, by rw [CS.out]; go_num, hBB⟩
              case measure => simp [intOf]; omega
            · go_wp2_with fail
              refine (rdays_any _ _ _).mono ?_
              rintro e w3 ⟨rfl, hB3⟩
              have HB3 := Lib.hid (below_mono HBr.out hB3 hst)
              clear hB3
              go_wp2_with fail
              go_ret3
              exact ⟨x, m, n - Cal.dby x - Cal.cum x m + 1, ⟨x1, x2, m1, m2, by omega, by omega, by omega⟩, rfl, HB3.out⟩
    · have hl : lpB x = false := by simpa using hl
      have hs : Cal.dby (x + 1) = Cal.dby x + 365 := by rw [Cal.dby_succ, lp_false hl]; omega
      have HS := Lib.hid hs
      by_cases hc : 365 ≤ n - Cal.dby x
      · have hx9 : x < 9999 := HUP.out (by omega)
        clear hs
        by_cases hc3 : 366 ≤ n - Cal.dby x
        all_goals
          go_wp2_with (go_at_call 43; refine (rleap_any _ _).mono ?_; rintro e w' ⟨rfl, rfl⟩)
          go_round
          case rel => exact ⟨x + 1, by omega, by omega, by rw [HS.out]; omega, rfl, by rw [HS.out]; go_num⟩
          case measure => simp [intOf]; omega
      · have hlast : n < Cal.dby (x + 1) := by omega
        have HL := Lib.hid hlast
        clear hs hlast
        all_goals
          go_wp2_with (go_at_call 43; refine (rleap_any _ _).mono ?_; rintro e w' ⟨rfl, rfl⟩)
          go_loopw [0, 6] (fun t k wr => ∃ m : Int, 1 ≤ m ∧ m ≤ 12 ∧ k = .int .i64 m ∧ 0 ≤ n - Cal.dby x - Cal.cum x m ∧ t = .int .i64 (n - Cal.dby x - Cal.cum x m) ∧ Below B w wr) (fun _ k _ => (12 - intOf k).toNat)
          case atStart => exact ⟨1, by omega, by omega, rfl, by rw [Cal.cum_one]; omega, by rw [Cal.cum_one]; simp, hr⟩
          case round =>
            obtain ⟨m, m1, m2, rfl, hrest, rfl, hBr⟩ := hrel
            have HBr := Lib.hid hBr
            clear hBr
            have c1 := Cal.cum_lo x m
            have c2 := Cal.cum_hi x m
            have c3 := Cal.lp_01 x
            have c4 := Cal.dim_lo x m
            have c5 := Cal.dim_hi x m
            have CS := Lib.hid (Cal.cum_succ x m m1 m2)
            by_cases hd : Cal.dim x m ≤ n - Cal.dby x - Cal.cum x m
            · have hm : m < 12 := by
                rcases Int.lt_or_le m 12 with h | h
                · exact h
                · obtain rfl : m = 12 := by omega
                  have h13 := Cal.cum_13 x
                  have h1 : Cal.cum x 13 = _ := CS.out
                  have h2 := Cal.dby_succ x
                  have h3 := HL.out
                  omega
              go_wp2_with fail
              refine (rdays_any _ _ _).mono ?_
              rintro e w3 ⟨rfl, hB3⟩
              have HB3 := Lib.hid (below_mono HBr.out hB3 hst)
              clear hB3
              go_wp2_with fail
              refine (rdays_any _ _ _).mono ?_
              rintro e w4 ⟨rfl, hB4⟩
              have hBB := below_mono HB3.out hB4 hst
              clear hB4
              go_wp2_with fail
              go_roundw
              case rel => exact ⟨m + 1, by omega, by omega, rfl, by rw [CS.out]; omega, by rw [CS.out]; go_num, hBB⟩
              case measure => simp [intOf]; omega
            · go_wp2_with fail
              refine (rdays_any _ _ _).mono ?_
              rintro e w3 ⟨rfl, hB3⟩
              have HB3 := Lib.hid (below_mono HBr.out hB3 hst)
              clear hB3
              go_wp2_with fail
              go_ret3
              exact ⟨x, m, n - Cal.dby x - Cal.cum x m + 1, ⟨x1, x2, m1, m2, by omega, by omega, by omega⟩, rfl, HB3.out⟩

theorem rcivil_is (n y m d : Int) (h : Cal.Is n y m d) (w : World) :
    Calls Tryd.prog 44 #[.int .i64 n] w fun e w' => e = .returned (.tuple #[.int .i64 y, .int .i64 m, .int .i64 d]) ∧ Below w.heap.size w w' := by
  have hr := h.range
  refine (rcivil_yes n hr.1 hr.2 w).mono ?_
  rintro e w' ⟨y', m', d', h', he, hw⟩
  obtain ⟨rfl, rfl, rfl⟩ := h'.unique h
  exact ⟨he, hw⟩

end Go.Proofs.YtkfkoopfoiekoaaDoor
