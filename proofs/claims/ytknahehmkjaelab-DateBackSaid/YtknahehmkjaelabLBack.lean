/- The law DateBack walked: for every number the call returns true. No conditions. -/
import Derived.Test.YtknahehmkjaelabDateW
import Derived.Test.YtknahehmkjaelabDatePa
namespace Go.Proofs.Ytknahehmkjaelab
open Go.RowKit Go.PlainAid
set_option linter.unusedSimpArgs false

def dayStr (y m d : Int) : ByteArray := ⟨(dayText y m d).toArray⟩
theorem dayText_eq (y m d : Int) : dayText y m d = [dgt (y / 1000), dgt (y / 100), dgt (y / 10), dgt (y / 1), 45, dgt (m / 10), dgt (m / 1), 45, dgt (d / 10), dgt (d / 1)] := rfl
theorem dayStr_size (y m d : Int) : (dayStr y m d).size = 10 := rfl
theorem dayStr_bt (y m d : Int) (i : Nat) (h : i < 10) : bt (dayStr y m d) i = (((dayText y m d)[i]'(by rw [dayText_eq]; simpa using h)).toNat : Int) := by
  unfold bt
  rw [dif_pos (by rw [dayStr_size]; exact h)]
  rfl
theorem dayStr_0 (y m d : Int) : bt (dayStr y m d) 0 = 48 + y / 1000 % 10 := by rw [dayStr_bt _ _ _ _ (by omega)]; exact dgt_val _
theorem dayStr_1 (y m d : Int) : bt (dayStr y m d) 1 = 48 + y / 100 % 10 := by rw [dayStr_bt _ _ _ _ (by omega)]; exact dgt_val _
theorem dayStr_2 (y m d : Int) : bt (dayStr y m d) 2 = 48 + y / 10 % 10 := by rw [dayStr_bt _ _ _ _ (by omega)]; exact dgt_val _
theorem dayStr_3 (y m d : Int) : bt (dayStr y m d) 3 = 48 + y / 1 % 10 := by rw [dayStr_bt _ _ _ _ (by omega)]; exact dgt_val _
theorem dayStr_4 (y m d : Int) : bt (dayStr y m d) 4 = 45 := by rw [dayStr_bt _ _ _ _ (by omega)]; rfl
theorem dayStr_5 (y m d : Int) : bt (dayStr y m d) 5 = 48 + m / 10 % 10 := by rw [dayStr_bt _ _ _ _ (by omega)]; exact dgt_val _
theorem dayStr_6 (y m d : Int) : bt (dayStr y m d) 6 = 48 + m / 1 % 10 := by rw [dayStr_bt _ _ _ _ (by omega)]; exact dgt_val _
theorem dayStr_7 (y m d : Int) : bt (dayStr y m d) 7 = 45 := by rw [dayStr_bt _ _ _ _ (by omega)]; rfl
theorem dayStr_8 (y m d : Int) : bt (dayStr y m d) 8 = 48 + d / 10 % 10 := by rw [dayStr_bt _ _ _ _ (by omega)]; exact dgt_val _
theorem dayStr_9 (y m d : Int) : bt (dayStr y m d) 9 = 48 + d / 1 % 10 := by rw [dayStr_bt _ _ _ _ (by omega)]; exact dgt_val _
theorem isDg_dig (x : Int) : isDg (48 + x % 10) = true := by simp [isDg]; omega
theorem dayStr_form (y m d : Int) : isForm (dayStr y m d) = true := by
  simp only [isForm, okd, dayStr_0, dayStr_1, dayStr_2, dayStr_3, dayStr_5, dayStr_6, dayStr_8, dayStr_9, isDg_dig, Bool.and_true, Bool.true_and, Nat.zero_add, Nat.add_zero, Nat.reduceAdd]
theorem dayStr_y (y m d : Int) (h : 0 ≤ y) (h' : y ≤ 9999) : pval (dayStr y m d) 0 4 = y := by
  simp only [pval, dayStr_0, dayStr_1, dayStr_2, dayStr_3, Nat.zero_add, Nat.add_zero, Nat.reduceAdd]; omega
theorem dayStr_m (y m d : Int) (h : 0 ≤ m) (h' : m ≤ 99) : pval (dayStr y m d) 5 2 = m := by
  simp only [pval, dayStr_5, dayStr_6, Nat.zero_add, Nat.add_zero, Nat.reduceAdd]; omega
theorem dayStr_d (y m d : Int) (h : 0 ≤ d) (h' : d ≤ 99) : pval (dayStr y m d) 8 2 = d := by
  simp only [pval, dayStr_8, dayStr_9, Nat.zero_add, Nat.add_zero, Nat.reduceAdd]; omega

theorem parse_print (n y m d : Int) (hi : Cal.Is n y m d) (w : World) :
    Calls Try.prog 25 #[.string (dayStr y m d)] w fun e w' => e = .returned (.tuple #[.int .i64 n, .bool true]) ∧ Below w.heap.size w w' := by
  have h31 := Cal.dim_hi y m
  refine parse_long (dayStr y m d) (dayStr_size y m d) (dayStr_4 y m d) (dayStr_7 y m d) w _ (fun h => by rw [dayStr_form] at h; cases h) (fun _ W => ?_) _ _ rfl
  rw [dayStr_y y m d (by have := hi.1; omega) hi.2.1, dayStr_m y m d (by have := hi.2.2.1; omega) (by have := hi.2.2.2.1; omega), dayStr_d y m d (by have := hi.2.2.2.2.1; omega) (by have := hi.2.2.2.2.2.1; omega)]
  exact of_yes n y m d hi W

def wk (n : Int) : Int := if 0 ≤ n ∧ n ≤ 2932896 then (n + 3) % 7 else -1

set_option maxRecDepth 100000 in
set_option maxHeartbeats 1000000 in
theorem dateBack_in (k n y m d : Int) (hk : k % 2932897 = n) (h0 : 0 ≤ k) (h1 : k ≤ 4294967295) (hi : Cal.Is n y m d) (w : World) :
    Calls Try.prog 7 #[.int .u32 k] w fun e w' => e = .returned (.bool true) ∧ Below w.heap.size w w' := by
  have hr := hi.range
  obtain ⟨r0, r1⟩ := hr
  have HK := Lib.hid hk
  have HI := Lib.hid hi
  clear hk hi
  by_cases hl : n = 2932896
  · have hne : (n == 2932896) = true := by simp [hl]
    have hw : (if 0 ≤ n + 1 ∧ n + 1 ≤ 2932896 then (n + 1 + 3) % 7 else (-1 : Int)) = -1 := if_neg (by omega)
    have HW := Lib.hid hw
    clear hl hw
    go_enter Try.func7, Try.ntmps7
    go_wp2_with fail
    rw [HK.out]
    refine (civil_is n y m d HI.out _).mono ?_
    rintro e1 w1 ⟨rfl, rfl⟩
    go_wp2_with fail
    refine (of_yes n y m d HI.out _).mono ?_
    rintro e1 w1 ⟨rfl, rfl⟩
    go_wp2_with fail
    refine (print_yes n y m d HI.out _).mono ?_
    rintro e1 w1 ⟨rfl, hB1⟩
    go_wp2_with fail
    refine (parse_print n y m d HI.out _).mono ?_
    rintro e2 w2 ⟨rfl, hB2⟩
    have hB := below_mono hB1 hB2 (Nat.le_refl _)
    clear hB1 hB2
    go_wp2_with fail
    refine (weekday_any (n + 1) _).mono ?_
    rw [HW.out]
    rintro e3 w3 ⟨rfl, rfl⟩
    go_wp2_with (go_at_call 13; refine (awake_any _).mono ?_; rintro e4 w4 ⟨rfl, hB4⟩)
    go_ret
    exact ⟨rfl, below_mono hB hB4 (Nat.le_refl _)⟩
  · have hne : (n == 2932896) = false := by simp [hl]
    have hw : (if 0 ≤ n + 1 ∧ n + 1 ≤ 2932896 then (n + 1 + 3) % 7 else (-1 : Int)) = (n + 4) % 7 := by rw [if_pos (by omega)]; congr 1; omega
    have hv : (if 0 ≤ n ∧ n ≤ 2932896 then (n + 3) % 7 else (-1 : Int)) = (n + 3) % 7 := if_pos (by omega)
    have hq : (((n + 4) % 7) == (((n + 3) % 7 + 1) % 7)) = true := by simp; omega
    have HW := Lib.hid hw
    have HV := Lib.hid hv
    clear hl hw hv
    go_enter Try.func7, Try.ntmps7
    go_wp2_with fail
    rw [HK.out]
    refine (civil_is n y m d HI.out _).mono ?_
    rintro e1 w1 ⟨rfl, rfl⟩
    go_wp2_with fail
    refine (of_yes n y m d HI.out _).mono ?_
    rintro e1 w1 ⟨rfl, rfl⟩
    go_wp2_with fail
    refine (print_yes n y m d HI.out _).mono ?_
    rintro e1 w1 ⟨rfl, hB1⟩
    go_wp2_with fail
    refine (parse_print n y m d HI.out _).mono ?_
    rintro e2 w2 ⟨rfl, hB2⟩
    have hB := below_mono hB1 hB2 (Nat.le_refl _)
    clear hB1 hB2
    go_wp2_with fail
    refine (weekday_any (n + 1) _).mono ?_
    rw [HW.out]
    rintro e3 w3 ⟨rfl, rfl⟩
    go_wp2_with fail
    refine (weekday_any n _).mono ?_
    rw [HV.out]
    rintro e3 w3 ⟨rfl, rfl⟩
    go_wp2_with (go_at_call 13; refine (awake_any _).mono ?_; rintro e4 w4 ⟨rfl, hB4⟩)
    go_ret
    exact ⟨rfl, below_mono hB hB4 (Nat.le_refl _)⟩

theorem dateBack_walk (k : Int) (w0 : (Lit.int .u32 k).wf = true) (w : World) :
    Calls Try.prog 7 #[.int .u32 k] w fun e w' => e = .returned (.bool true) ∧ Below w.heap.size w w' := by
  have bk := bounds_u32 w0
  obtain ⟨y, m, d, hi⟩ := Cal.Is.exists_ (n := k % 2932897) (by omega) (by omega)
  exact dateBack_in k _ y m d rfl bk.1 bk.2 hi w
end Go.Proofs.Ytknahehmkjaelab
