/- Whether a key is probably in a filter, as package bloom and as the document tell it. No conditions beyond those written. -/
import Derived.Test.YtblelfonnelglaaDoorBlC
import Derived.Test.YtblelfonnelglaaDoorCrcZ
namespace Go.Proofs.YtblelfonnelglaaDoor
open Go.RowKit
set_option linter.unusedSimpArgs false
set_option linter.unusedVariables false

/-- Is a key probably there? -/
def hasB (f key : List UInt8) : Bool := (List.range 6).all fun i => Crc.bitAt f (pl key (8 * f.length) i)
theorem index6_0 (k : List UInt8) (m : Nat) (w : World) : (Instr.index 61 (.agg #[.int .i64 (pl k m 0), .int .i64 (pl k m 1), .int .i64 (pl k m 2), .int .i64 (pl k m 3), .int .i64 (pl k m 4), .int .i64 (pl k m 5)]) (.int .i64 0)).run Tryd.prog w = .ok (.int .i64 (pl k m 0)) w := by kernel_rfl
theorem index6_1 (k : List UInt8) (m : Nat) (w : World) : (Instr.index 61 (.agg #[.int .i64 (pl k m 0), .int .i64 (pl k m 1), .int .i64 (pl k m 2), .int .i64 (pl k m 3), .int .i64 (pl k m 4), .int .i64 (pl k m 5)]) (.int .i64 1)).run Tryd.prog w = .ok (.int .i64 (pl k m 1)) w := by kernel_rfl
theorem index6_2 (k : List UInt8) (m : Nat) (w : World) : (Instr.index 61 (.agg #[.int .i64 (pl k m 0), .int .i64 (pl k m 1), .int .i64 (pl k m 2), .int .i64 (pl k m 3), .int .i64 (pl k m 4), .int .i64 (pl k m 5)]) (.int .i64 2)).run Tryd.prog w = .ok (.int .i64 (pl k m 2)) w := by kernel_rfl
theorem index6_3 (k : List UInt8) (m : Nat) (w : World) : (Instr.index 61 (.agg #[.int .i64 (pl k m 0), .int .i64 (pl k m 1), .int .i64 (pl k m 2), .int .i64 (pl k m 3), .int .i64 (pl k m 4), .int .i64 (pl k m 5)]) (.int .i64 3)).run Tryd.prog w = .ok (.int .i64 (pl k m 3)) w := by kernel_rfl
theorem index6_4 (k : List UInt8) (m : Nat) (w : World) : (Instr.index 61 (.agg #[.int .i64 (pl k m 0), .int .i64 (pl k m 1), .int .i64 (pl k m 2), .int .i64 (pl k m 3), .int .i64 (pl k m 4), .int .i64 (pl k m 5)]) (.int .i64 4)).run Tryd.prog w = .ok (.int .i64 (pl k m 4)) w := by kernel_rfl
theorem index6_5 (k : List UInt8) (m : Nat) (w : World) : (Instr.index 61 (.agg #[.int .i64 (pl k m 0), .int .i64 (pl k m 1), .int .i64 (pl k m 2), .int .i64 (pl k m 3), .int .i64 (pl k m 4), .int .i64 (pl k m 5)]) (.int .i64 5)).run Tryd.prog w = .ok (.int .i64 (pl k m 5)) w := by kernel_rfl
theorem index6 (k : List UInt8) (m j : Nat) (hj : j < 6) (w : World) : (Instr.index 61 (.agg (pls k m)) (.int .i64 (j : Int))).run Tryd.prog w = .ok (.int .i64 (pl k m j)) w := by
  have : j = 0 ∨ j = 1 ∨ j = 2 ∨ j = 3 ∨ j = 4 ∨ j = 5 := by omega
  rcases this with rfl | rfl | rfl | rfl | rfl | rfl
  · exact index6_0 k m w
  · exact index6_1 k m w
  · exact index6_2 k m w
  · exact index6_3 k m w
  · exact index6_4 k m w
  · exact index6_5 k m w
theorem bit_test (f : ByteArray) (p : Nat) (hp : p / 8 < f.size) : ∃ (a r q : Nat) (c : UInt8), a < f.size ∧ r < 8 ∧ Hid (a = p / 8) ∧ (p : Int) / 8 = (a : Int) ∧ (p : Int).tdiv 8 = (a : Int) ∧ (p : Int) % 8 = (r : Int) ∧ (p : Int).tmod 8 = (r : Int) ∧ (∀ h : a < f.size, f[a] = c) ∧ (c.toNat : Int) / 2 ^ r = (q : Int) ∧ q < 256 ∧ Hid (Crc.bitAt f.data.toList p = decide (q % 2 = 1)) := by
  refine ⟨p / 8, p % 8, f[p / 8].toNat / 2 ^ (p % 8), f[p / 8], hp, by omega, Lib.hid rfl, by omega, by rw [Int.tdiv_eq_ediv_of_nonneg (by omega)]; omega, by omega, by rw [Int.tmod_eq_emod_of_nonneg (by omega)]; omega, fun _ => rfl, by rw [Int.natCast_ediv, Int.natCast_pow]; rfl, ?_, Lib.hid ?_⟩
  · have := f[p / 8].toNat_lt
    exact Nat.lt_of_le_of_lt (Nat.div_le_self _ _) (by omega)
  · unfold Crc.bitAt
    rw [List.getD_eq_getElem?_getD, List.getElem?_eq_getElem (by simpa using hp), Option.getD_some, Nat.testBit_eq_decide_div_mod_eq]
    rfl
theorem and1 (q : Nat) (h : q < 256) : bits .and .u8 (q : Int) 1 = ((q % 2 : Nat) : Int) := by
  rw [show (1 : Int) = ((1 : Nat) : Int) by rfl, u8_and_nat _ _ h (by decide)]
  congr 1
  rw [show (1 : Nat) = 2 ^ 1 - 1 by rfl, Nat.and_two_pow_sub_one_eq_mod]
theorem has_from {f key : List UInt8} (j : Nat) (hj : j < 6) (h : Crc.bitAt f (pl key (8 * f.length) j) = false) : hasB f key = false := by
  unfold hasB
  rw [List.all_eq_false]
  exact ⟨j, by simpa using hj, by rw [h]; simp⟩
theorem has_all {f key : List UInt8} (h : ∀ j, j < 6 → Crc.bitAt f (pl key (8 * f.length) j) = true) : hasB f key = true := by
  unfold hasB
  rw [List.all_eq_true]
  intro j hj
  exact h j (by simpa using hj)
theorem isEmpty_false' {s : ByteArray} (h : s.size ≠ 0) : s.toList.isEmpty = false := by
  rw [ByteArray.toList_eq, Bool.eq_false_iff]
  intro e
  rw [List.isEmpty_iff] at e
  exact h (by have := congrArg List.length e; simpa using this)
set_option maxRecDepth 100000 in
set_option maxHeartbeats 4000000 in
theorem has_any (f s : ByteArray) (hf1 : 1 ≤ f.size) (hf2 : f.size ≤ 134217728) (hs : s.size ≤ maxLen) (w : World) (hT : TabAt w) :
    Calls Tryd.prog 36 #[.string f, .string s] w fun e w' => e = .returned (.bool (hasB f.data.toList s.data.toList)) ∧ Below w.heap.size w w' := by
  have K0 := Lib.hid (Below.refl w.heap.size w)
  obtain ⟨m, hm⟩ : ∃ m, m = 8 * f.size := ⟨_, rfl⟩
  have G := Lib.hid (fun w hT => spread_any s m hs (by omega) (by omega) w hT)
  have em : 8 * (f.size : Int) = (m : Int) := by omega
  have hfl : f.data.toList.length = f.size := by simp
  obtain ⟨k, hk⟩ : ∃ k, k = s.data.toList := ⟨_, rfl⟩
  rw [← hk] at G ⊢
  have HM := Lib.hid hm
  have T0 := Lib.hid hT
  have HFL := Lib.hid hfl
  have he : ((f.size : Int) == 0) = false := by rw [beq_eq_false_iff_ne]; omega
  have he2 : f.toList.isEmpty = false := isEmpty_false' (by omega)
  clear hm hk hT hfl
  go_enter Tryd.func36, Tryd.ntmps36
  go_wp2_with fail
  refine (G.out _ T0.out).mono ?_
  rintro e w1 ⟨rfl, k1⟩
  have K1 := Lib.hid k1
  clear k1
  go_wp2_with fail
  go_loop [19] (fun i => ∃ j : Nat, j ≤ 6 ∧ i = .int .i64 j ∧ Hid (∀ i, i < j → Crc.bitAt f.data.toList (pl k (8 * f.data.toList.length) i) = true)) (fun i => 6 - (intOf i).toNat)
  case atStart => exact ⟨0, by omega, rfl, Lib.hid (fun i hi => by omega)⟩
  case round =>
    obtain ⟨j, hj, rfl, HALL⟩ := hrel
    by_cases hlt : j < 6
    · have hix := index6 k m j hlt
      obtain ⟨p, hp⟩ : ∃ p, p = pl k m j := ⟨_, rfl⟩
      have hpl : p < m := by rw [hp]; exact pl_lt k m j (by omega)
      have HP : Hid (p = pl k (8 * f.data.toList.length) j) := Lib.hid (by rw [hp, HM.out, HFL.out])
      rw [← hp] at hix
      obtain ⟨a, r, q, c, t1, t2, t3, t4, t5, t6, t7, t8, t9, t10, t11⟩ := bit_test f p (by have := HM.out; omega)
      have t8' := t8 t1
      have t12 : (a : Int) < f.size := by omega
      have t13 := and1 q t10
      clear hp t8
      by_cases hq : q % 2 = 1
      · have y1 : bits .and .u8 (q : Int) 1 = 1 := by rw [t13, hq]; rfl
        clear t13
        go_wp2_with fail
        go_round
        case rel => exact ⟨j + 1, by omega, by go_num, Lib.hid (fun i hi => by
          by_cases e : i = j
          · subst e; rw [← HP.out, t11.out]; simpa using hq
          · exact HALL.out i (by omega))⟩
        case measure => simp [intOf]; omega
      · have hq0 : q % 2 = 0 := by omega
        have y1 : bits .and .u8 (q : Int) 1 = 0 := by rw [t13, hq0]; rfl
        clear t13
        go_wp2_with fail
        go_ret
        refine ⟨?_, K1.out⟩
        rw [has_from j hlt (by rw [← HP.out, t11.out]; simpa using hq)]; rfl
    · obtain rfl : j = 6 := by omega
      go_wp2_with fail
      go_ret
      refine ⟨?_, K1.out⟩
      rw [has_all HALL.out]; rfl
end Go.Proofs.YtblelfonnelglaaDoor
