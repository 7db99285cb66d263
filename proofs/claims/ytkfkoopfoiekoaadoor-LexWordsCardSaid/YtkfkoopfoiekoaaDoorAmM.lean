/- Plain: the text of a number with digits behind a point, and what is read of a text. -/
import Derived.Test.YtkfkoopfoiekoaaDoorHelp
import Derived.Lib.ItoaNum
namespace Go.Proofs.YtkfkoopfoiekoaaDoor
set_option linter.unusedVariables false

/-- The last i digits of m. -/
def rt : Nat → Nat → List UInt8
  | 0, _ => []
  | i + 1, m => Lib.dg m i :: rt i m
theorem rt_len : ∀ i m, (rt i m).length = i
  | 0, _ => rfl
  | i + 1, m => by simp [rt, rt_len i m]
theorem dg_add (m d i : Nat) : Lib.dg m (i + d) = Lib.dg (m / 10 ^ d) i := by
  unfold Lib.dg
  rw [Nat.div_div_eq_div_mul, ← Nat.pow_add, Nat.add_comm d i]
theorem rt_div (d m : Nat) : ∀ i, rt (i + d) m = rt i (m / 10 ^ d) ++ rt d m
  | 0 => by simp [rt]
  | i + 1 => by rw [show i + 1 + d = (i + d) + 1 by omega, rt, rt_div d m i, rt, dg_add]; rfl
theorem rt_eq (m : Nat) : ∀ i, rt i m = (List.range i).map fun t => Lib.dg m (i - 1 - t)
  | 0 => rfl
  | i + 1 => by
    rw [rt, rt_eq m i, List.range_succ_eq_map, List.map_cons, List.map_map]
    congr 1
    refine List.map_congr_left fun t ht => ?_
    simp only [Function.comp]
    congr 1
    omega
theorem dec_rt (u : Nat) : Lib.decDigits u = rt (Lib.nDigits u) u := by rw [Lib.decDigits_eq, rt_eq]
theorem dg_toNat (m i : Nat) : (Lib.dg m i).toNat = 48 + m / 10 ^ i % 10 := by
  unfold Lib.dg
  have := Nat.mod_lt (m / 10 ^ i) (show 0 < 10 by omega)
  simp only [UInt8.toNat_ofNat']
  omega
theorem rt_dig : ∀ i m, ∀ c ∈ rt i m, 48 ≤ c.toNat ∧ c.toNat ≤ 57
  | 0, _, c, h => by simp [rt] at h
  | i + 1, m, c, h => by
    rcases List.mem_cons.1 h with rfl | h
    · have := Nat.mod_lt (m / 10 ^ i) (show 0 < 10 by omega)
      rw [dg_toNat]; omega
    · exact rt_dig i m c h
theorem rt_low {m i : Nat} (h : m < 10 ^ i) : ∀ j, rt (j + i) m = List.replicate j 48 ++ rt i m
  | 0 => by simp
  | j + 1 => by
    rw [show j + 1 + i = (j + i) + 1 by omega, rt, rt_low h j, List.replicate_succ, List.cons_append]
    congr 1
    apply UInt8.toNat_inj.1
    rw [dg_toNat, Nat.div_eq_of_lt (Nat.lt_of_lt_of_le h (Nat.pow_le_pow_right (by omega) (by omega)))]
    rfl

/-- How many digits there are, with d behind the point. -/
def wide (m d : Nat) : Nat := max (d + 1) (Lib.nDigits m)
theorem wide_lt (m d : Nat) : m < 10 ^ wide m d := Nat.lt_of_lt_of_le (Lib.lt_pow_nDigits m) (Nat.pow_le_pow_right (by omega) (Nat.le_max_right _ _))
theorem wide_le (m d : Nat) : d + 1 ≤ wide m d := Nat.le_max_left _ _
theorem nDigits_le {m k : Nat} (hk : 1 ≤ k) (h : m < 10 ^ k) : Lib.nDigits m ≤ k := by
  rcases Nat.lt_or_ge k (Lib.nDigits m) with hl | hg
  · have hp : 10 ^ (Lib.nDigits m - 1) ≤ m := by
      rcases Nat.eq_zero_or_pos m with h0 | h0
      · subst h0; rw [Lib.nDigits_small (by omega)] at hl; omega
      · exact Classical.byContradiction fun hn => by
          have hm := Lib.nDigits_pos m
          have : ∀ j, 1 ≤ j → m < 10 ^ j → Lib.nDigits m ≤ j := by
            intro j
            induction j generalizing m with
            | zero => intro h; omega
            | succ j ih =>
              intro _ hj
              rcases Nat.eq_zero_or_pos j with hj0 | hj0
              · subst hj0; rw [Lib.nDigits_small (by omega)]; omega
              · rcases Nat.lt_or_ge m (10 ^ j) with hl' | hg'
                · exact Nat.le_succ_of_le (Classical.byContradiction fun hc => by
                    have : ∀ (j m : Nat), 1 ≤ j → m < 10 ^ j → Lib.nDigits m ≤ j := by
                      intro j
                      induction j with
                      | zero => intro m h; omega
                      | succ j ih2 =>
                        intro m _ hm
                        rcases Nat.lt_or_ge m 10 with h10 | h10
                        · rw [Lib.nDigits_small h10]; omega
                        · rw [Lib.nDigits_big (by omega)]
                          have : m / 10 < 10 ^ j := by rw [Nat.pow_succ] at hm; omega
                          have hj1 : 1 ≤ j := by
                            rcases Nat.eq_zero_or_pos j with hz | hz
                            · subst hz; simp at this; omega
                            · exact hz
                          have := ih2 (m / 10) hj1 this
                          omega
                    exact hc (this j m hj0 hl'))
                · exact Nat.le_of_eq (Lib.nDigits_unique j m hg' hj)
          have := this (Lib.nDigits m - 1) (by omega) (by omega)
          omega
    have : 10 ^ k ≤ 10 ^ (Lib.nDigits m - 1) := Nat.pow_le_pow_right (by omega) (by omega)
    omega
  · exact hg
theorem nDigits_ge {m : Nat} (h : m ≠ 0) : 10 ^ (Lib.nDigits m - 1) ≤ m := by
  rcases Nat.lt_or_ge m (10 ^ (Lib.nDigits m - 1)) with hl | hg
  · rcases Nat.lt_or_ge 1 (Lib.nDigits m) with h1 | h1
    · have := nDigits_le (k := Lib.nDigits m - 1) (by omega) hl
      omega
    · have : Lib.nDigits m - 1 = 0 := by omega
      rw [this] at hl; simp at hl; omega
  · exact hg
/-- The text of a size. -/
def body (m d : Nat) : List UInt8 := rt (wide m d - d) (m / 10 ^ d) ++ if d = 0 then [] else 46 :: rt d m
/-- The text of a number. -/
def txt (x : Int) (d : Nat) : List UInt8 := (if x < 0 then [45] else []) ++ body x.natAbs d
theorem body_len (m d : Nat) (hm : m ≤ 9223372036854775808) (hd : d ≤ 9) : (body m d).length ≤ 20 := by
  have : Lib.nDigits m ≤ 19 := nDigits_le (by omega) (by omega)
  have hw : wide m d ≤ 19 := by unfold wide; omega
  unfold body
  rw [List.length_append, rt_len]
  split
  · simp; omega
  · simp [rt_len]; omega
theorem txt_len (x : Int) (d : Nat) (hx : -9223372036854775808 ≤ x ∧ x ≤ 9223372036854775807) (hd : d ≤ 9) : (txt x d).length ≤ 21 := by
  have := body_len x.natAbs d (by omega) hd
  unfold txt
  rw [List.length_append]
  split <;> simp <;> omega

/-- What a row of digits is read as behind a number; none, if it isn't one, or beyond. -/
def readL : List UInt8 → Nat → Option Nat
  | [], n => some n
  | c :: l, n => if c.toNat < 48 ∨ 57 < c.toNat ∨ (9223372036854775808 - (c.toNat - 48)) / 10 < n then none else readL l (10 * n + (c.toNat - 48))
theorem readL_some : ∀ (l : List UInt8) (n0 n : Nat), readL l n0 = some n → n / 10 ^ l.length = n0 ∧ l = rt l.length n ∧ (n0 ≤ 9223372036854775808 → n ≤ 9223372036854775808)
  | [], n0, n, h => by simp [readL] at h; subst h; simp [rt]
  | c :: l, n0, n, h => by
    unfold readL at h
    split at h
    · cases h
    · rename_i hc
      obtain ⟨a, b, d⟩ := readL_some l _ n h
      have e : n / 10 ^ (l.length + 1) = n0 := by
        rw [Nat.pow_succ, ← Nat.div_div_eq_div_mul, a]
        omega
      refine ⟨by simpa using e, ?_, fun _ => d (by omega)⟩
      rw [List.length_cons, rt, ← b]
      congr 1
      apply UInt8.toNat_inj.1
      rw [dg_toNat, a]
      omega
theorem readL_rt (a : Nat) : ∀ (k n0 : Nat), n0 * 10 ^ k + a % 10 ^ k ≤ 9223372036854775808 → readL (rt k a) n0 = some (n0 * 10 ^ k + a % 10 ^ k)
  | 0, n0, h => by simp [rt, readL, Nat.mod_one]
  | k + 1, n0, h => by
    have hd := Nat.mod_lt (a / 10 ^ k) (show 0 < 10 by omega)
    have hp : 0 < 10 ^ k := Nat.pow_pos (by omega)
    have e : a % 10 ^ (k + 1) = a / 10 ^ k % 10 * 10 ^ k + a % 10 ^ k := by
      rw [Nat.pow_succ, Nat.mod_mul, Nat.mul_comm, Nat.add_comm]
    have e2 : n0 * 10 ^ (k + 1) + a % 10 ^ (k + 1) = (10 * n0 + a / 10 ^ k % 10) * 10 ^ k + a % 10 ^ k := by
      rw [e, Nat.pow_succ, Nat.add_mul, ← Nat.mul_assoc, Nat.mul_comm 10 n0, Nat.mul_assoc n0 (10 ^ k) 10, Nat.mul_comm (10 ^ k) 10, ← Nat.mul_assoc]
      omega
    rw [e2] at h ⊢
    unfold rt readL
    rw [dg_toNat]
    have h1 : (10 * n0 + a / 10 ^ k % 10) * 1 ≤ (10 * n0 + a / 10 ^ k % 10) * 10 ^ k := Nat.mul_le_mul_left _ hp
    rw [if_neg (by omega), show 48 + a / 10 ^ k % 10 - 48 = a / 10 ^ k % 10 by omega]
    exact readL_rt a k _ h
/-- What is collected of a text: its digits, whatever stands between. -/
def cvL : List UInt8 → Nat → Nat
  | [], n => n
  | c :: l, n => cvL l (if 48 ≤ c.toNat ∧ c.toNat ≤ 57 then 10 * n + (c.toNat - 48) else n)
theorem cvL_append : ∀ (l r : List UInt8) (n : Nat), cvL (l ++ r) n = cvL r (cvL l n)
  | [], _, _ => rfl
  | c :: l, r, n => by simp only [List.cons_append, cvL]; exact cvL_append l r _
theorem cvL_rt (a : Nat) : ∀ (k n0 : Nat), cvL (rt k a) n0 = n0 * 10 ^ k + a % 10 ^ k
  | 0, n0 => by simp [rt, cvL, Nat.mod_one]
  | k + 1, n0 => by
    have hd := Nat.mod_lt (a / 10 ^ k) (show 0 < 10 by omega)
    have e : a % 10 ^ (k + 1) = a / 10 ^ k % 10 * 10 ^ k + a % 10 ^ k := by
      rw [Nat.pow_succ, Nat.mod_mul, Nat.mul_comm, Nat.add_comm]
    have e2 : n0 * 10 ^ (k + 1) + a % 10 ^ (k + 1) = (10 * n0 + a / 10 ^ k % 10) * 10 ^ k + a % 10 ^ k := by
      rw [e, Nat.pow_succ, Nat.add_mul, ← Nat.mul_assoc, Nat.mul_comm 10 n0, Nat.mul_assoc n0 (10 ^ k) 10, Nat.mul_comm (10 ^ k) 10, ← Nat.mul_assoc]
      omega
    rw [e2]
    unfold rt cvL
    rw [dg_toNat, if_pos (by omega), show 48 + a / 10 ^ k % 10 - 48 = a / 10 ^ k % 10 by omega]
    exact cvL_rt a k _
theorem cvL_body (m d : Nat) : cvL (body m d) 0 = m := by
  have hw := wide_le m d
  have hl := wide_lt m d
  have hq : m / 10 ^ d < 10 ^ (wide m d - d) := by
    rw [Nat.div_lt_iff_lt_mul (Nat.pow_pos (by omega)), ← Nat.pow_add, show wide m d - d + d = wide m d by omega]
    exact hl
  unfold body
  rw [cvL_append, cvL_rt, Nat.mod_eq_of_lt hq]
  split
  · rename_i h0; subst h0; simp [cvL]
  · unfold cvL
    rw [if_neg (by decide), cvL_rt]
    have := Nat.div_add_mod m (10 ^ d)
    rw [Nat.mul_comm] at this
    rw [Nat.zero_mul, Nat.zero_add]
    exact this
theorem cvL_txt (x : Int) (d : Nat) : cvL (txt x d) 0 = x.natAbs := by
  unfold txt
  rw [cvL_append]
  split
  · rw [show cvL [45] 0 = 0 from rfl]; exact cvL_body _ _
  · exact cvL_body _ _
end Go.Proofs.YtkfkoopfoiekoaaDoor
