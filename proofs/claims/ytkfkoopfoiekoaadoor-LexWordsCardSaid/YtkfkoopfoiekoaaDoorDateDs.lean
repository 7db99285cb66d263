/- The text of a day, byte by byte; that Parse reads it back. No conditions beyond those written. -/
import Derived.Test.YtkfkoopfoiekoaaDoorDatePr
import Derived.Test.YtkfkoopfoiekoaaDoorDatePa
namespace Go.Proofs.YtkfkoopfoiekoaaDoor
open Go.RowKit Go.PlainAid
set_option linter.unusedSimpArgs false

def dayStr (y m d : Int) : ByteArray := ⟨(dayText y m d).toArray⟩
theorem dayText_eq (y m d : Int) : dayText y m d = [dgt (y / 1000), dgt (y / 100), dgt (y / 10), dgt (y / 1), 45, dgt (m / 10), dgt (m / 1), 45, dgt (d / 10), dgt (d / 1)] := rfl
theorem dayStr_size (y m d : Int) : (dayStr y m d).size = 10 := rfl
theorem dayStr_bt (y m d : Int) (i : Nat) (h : i < 10) : bt (dayStr y m d) i = (((dayText y m d)[i]'(by rw [dayText_eq]; simpa using h)).toNat : Int) := by
  unfold bt
  rw [dif_pos (by rw [dayStr_size]; exact h)]
  rfl
theorem dayStr_0 (y m d : Int) : bt (dayStr y m d) 0 = 48 + y / 1000 % 10 := by rw [dayStr_bt _ _ _ _ (by omega)]; exact dgt_val _
theorem dayStr_1 (y m d : Int) : bt (dayStr y m d) 1 = 48 + y / 100 % 10 := by rw [dayStr_bt _ _ _ _ (by omega)]; exact dgt_val _
theorem dayStr_2 (y m d : Int) : bt (dayStr y m d) 2 = 48 + y / 10 % 10 := by rw [dayStr_bt _ _ _ _ (by omega)]; exact dgt_val _
theorem dayStr_3 (y m d : Int) : bt (dayStr y m d) 3 = 48 + y / 1 % 10 := by rw [dayStr_bt _ _ _ _ (by omega)]; exact dgt_val _
theorem dayStr_4 (y m d : Int) : bt (dayStr y m d) 4 = 45 := by rw [dayStr_bt _ _ _ _ (by omega)]; rfl
theorem dayStr_5 (y m d : Int) : bt (dayStr y m d) 5 = 48 + m / 10 % 10 := by rw [dayStr_bt _ _ _ _ (by omega)]; exact dgt_val _
theorem dayStr_6 (y m d : Int) : bt (dayStr y m d) 6 = 48 + m / 1 % 10 := by rw [dayStr_bt _ _ _ _ (by omega)]; exact dgt_val _
theorem dayStr_7 (y m d : Int) : bt (dayStr y m d) 7 = 45 := by rw [dayStr_bt _ _ _ _ (by omega)]; rfl
theorem dayStr_8 (y m d : Int) : bt (dayStr y m d) 8 = 48 + d / 10 % 10 := by rw [dayStr_bt _ _ _ _ (by omega)]; exact dgt_val _
theorem dayStr_9 (y m d : Int) : bt (dayStr y m d) 9 = 48 + d / 1 % 10 := by rw [dayStr_bt _ _ _ _ (by omega)]; exact dgt_val _
theorem isDg_dig (x : Int) : isDg (48 + x % 10) = true := by simp [isDg]; omega
theorem dayStr_form (y m d : Int) : isForm (dayStr y m d) = true := by
  simp only [isForm, okd, dayStr_0, dayStr_1, dayStr_2, dayStr_3, dayStr_5, dayStr_6, dayStr_8, dayStr_9, isDg_dig, Bool.and_true, Bool.true_and, Nat.zero_add, Nat.add_zero, Nat.reduceAdd]
theorem dayStr_y (y m d : Int) (h : 0 ≤ y) (h' : y ≤ 9999) : pval (dayStr y m d) 0 4 = y := by
  simp only [pval, dayStr_0, dayStr_1, dayStr_2, dayStr_3, Nat.zero_add, Nat.add_zero, Nat.reduceAdd]; omega
theorem dayStr_m (y m d : Int) (h : 0 ≤ m) (h' : m ≤ 99) : pval (dayStr y m d) 5 2 = m := by
  simp only [pval, dayStr_5, dayStr_6, Nat.zero_add, Nat.add_zero, Nat.reduceAdd]; omega
theorem dayStr_d (y m d : Int) (h : 0 ≤ d) (h' : d ≤ 99) : pval (dayStr y m d) 8 2 = d := by
  simp only [pval, dayStr_8, dayStr_9, Nat.zero_add, Nat.add_zero, Nat.reduceAdd]; omega

theorem parse_print (n y m d : Int) (hi : Cal.Is n y m d) (w : World) :
    Calls Tryd.prog 38 #[.string (dayStr y m d)] w fun e w' => e = .returned (.tuple #[.int .i64 n, .bool true]) ∧ Below w.heap.size w w' := by
  have h31 := Cal.dim_hi y m
  refine parse_long (dayStr y m d) (dayStr_size y m d) (dayStr_4 y m d) (dayStr_7 y m d) w _ (fun h => by rw [dayStr_form] at h; cases h) (fun _ W => ?_) _ _ rfl
  rw [dayStr_y y m d (by have := hi.1; omega) hi.2.1, dayStr_m y m d (by have := hi.2.2.1; omega) (by have := hi.2.2.2.1; omega), dayStr_d y m d (by have := hi.2.2.2.2.1; omega) (by have := hi.2.2.2.2.2.1; omega)]
  exact of_yes n y m d hi W

end Go.Proofs.YtkfkoopfoiekoaaDoor
