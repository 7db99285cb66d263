/- What the document's own answers digits and Print of layer 2 are. Conditions: those written at each theorem. -/
import Derived.Test.YtkfkoopfoiekoaaDoorDateRe2
import Derived.Test.YtkfkoopfoiekoaaDoorDatePr
import Derived.Lib.ConvBytes
namespace Go.Proofs.YtkfkoopfoiekoaaDoor
open Go.RowKit
set_option linter.unusedSimpArgs false
set_option linter.unusedVariables false

theorem one_byte (w : World) (c : Int) : (convert 76 9 (.slice (some ⟨w.heap.size, 0, none⟩) 1 1)).run Tryd.prog (w.alloc (.cells #[.int .u8 c] 5)) = .ok (.string (strOfNums [c])) (w.alloc (.cells #[.int .u8 c] 5)) :=
  run_convert_bytes_arg (P := Tryd.prog) _ 76 5 Tryd.underlying76 Tryd.underlying5 w.heap.size 0 1 1 [c] rfl (fun i hi => by
    obtain rfl : i = 0 := by omega
    simp) _ Tryd.underlying9

theorem digs_cons (v : Int) (j : Nat) (q : Int) (hq : v / 10 ^ j = q) (st : ByteArray) (hs : st = ⟨(digs v j).toArray⟩) : strOfNums [48 + q % 10] ++ st = ⟨(digs v (j + 1)).toArray⟩ := by
  subst hs hq
  apply ByteArray.ext
  simp [strOfNums, digs, dgt, ByteArray.append_eq, ByteArray.append]

set_option maxRecDepth 100000 in
set_option maxHeartbeats 1000000 in
theorem rdigits_any (v : Int) (K : Nat) (h0 : 0 ≤ v) (h1 : v ≤ 9999) (hK : K ≤ 4) (w : World) :
    Calls Tryd.prog 45 #[.int .i64 v, .int .i64 K] w fun e w' => e = .returned (.string ⟨(digs v K).toArray⟩) ∧ Below w.heap.size w w' := by
  obtain ⟨B, hB0⟩ : ∃ B, B = w.heap.size := ⟨_, rfl⟩
  have hst : B ≤ w.heap.size := by omega
  rw [← hB0]
  clear hB0
  have hr := Below.refl B w
  have hcv := one_byte
  go_enter Tryd.func45, Tryd.ntmps45
  go_wp2_with fail
  go_loopw [0, 5, 6] (fun a s c wr => ∃ j : Nat, j ≤ K ∧ a = .int .i64 (v / 10 ^ j) ∧ c = .int .i64 j ∧ s = .string ⟨(digs v j).toArray⟩ ∧ Below B w wr) (fun _ _ c _ => K - (intOf c).toNat)
  case atStart => exact ⟨0, by omega, by simp, rfl, rfl, hr⟩
  case round =>
    obtain ⟨j, hj, ha, rfl, hs, hBr⟩ := hrel
    obtain ⟨q, hq⟩ : ∃ q : Int, v / 10 ^ j = q := ⟨_, rfl⟩
    obtain ⟨st, hs'⟩ : ∃ st : ByteArray, st = ⟨(digs v j).toArray⟩ := ⟨_, rfl⟩
    rw [hq] at ha
    rw [← hs'] at hs
    subst ha
    subst hs
    have hsz : st.size ≤ 4 := by rw [hs']; show (digs v j).toArray.size ≤ 4; simp [digs_length]; omega
    have q0 : 0 ≤ q := by rw [← hq]; exact Int.ediv_nonneg h0 (Int.pow_nonneg (by omega))
    have q1 : q ≤ 9999 := by
      rw [← hq]
      exact Int.le_trans (Int.ediv_le_self _ h0) h1
    have HQ := Lib.hid hq
    have HS := Lib.hid hs'
    clear hq hs'
    have HBr := Lib.hid hBr
    clear hBr
    by_cases hlt : j < K
    · have hz1 : (strOfNums [48 + q % 10]).size ≤ 1 := by rw [strOfNums_size]; simp
      go_wp2_with fail
      go_roundw
      case rel => exact ⟨j + 1, by omega, by rw [Int.pow_succ, ← Int.ediv_ediv_of_nonneg (Int.pow_nonneg (by omega)), HQ.out], by go_num, by rw [digs_cons v j q HQ.out st HS.out], HBr.out.alloc (Nat.le_trans hst HBr.out.size) _⟩
      case measure => simp [intOf]; omega
    · obtain rfl : j = K := by omega
      go_wp2_with fail
      go_ret
      exact ⟨by rw [HS.out]; rfl, HBr.out⟩

theorem rdig4 (v : Int) (h0 : 0 ≤ v) (h1 : v ≤ 9999) (w : World) :
    Calls Tryd.prog 45 #[.int .i64 v, .int .i64 4] w fun e w' => e = .returned (.string ⟨(digs v 4).toArray⟩) ∧ Below w.heap.size w w' := rdigits_any v 4 h0 h1 (by omega) w
theorem rdig2 (v : Int) (h0 : 0 ≤ v) (h1 : v ≤ 9999) (w : World) :
    Calls Tryd.prog 45 #[.int .i64 v, .int .i64 2] w fun e w' => e = .returned (.string ⟨(digs v 2).toArray⟩) ∧ Below w.heap.size w w' := rdigits_any v 2 h0 h1 (by omega) w

theorem rprint_no (n : Int) (h : n < 0 ∨ 2932896 < n) (w : World) :
    Calls Tryd.prog 31 #[.int .i64 n] w fun e w' => e = .returned (.string ⟨#[]⟩) ∧ w = w' := by
  go_enter Tryd.func31, Tryd.ntmps31
  go_wp2_with (go_at_call 44; refine (rcivil_no n h _).mono ?_; rintro e w' ⟨rfl, rfl⟩)
  go_ret
  exact ⟨rfl, rfl⟩

theorem str_size (l : List UInt8) : (⟨l.toArray⟩ : ByteArray).size = l.length := by simp [ByteArray.size]

set_option maxRecDepth 100000 in
set_option maxHeartbeats 1000000 in
theorem rprint_yes (n y m d : Int) (hi : Cal.Is n y m d) (w : World) :
    Calls Tryd.prog 31 #[.int .i64 n] w fun e w' => e = .returned (.string ⟨(dayText y m d).toArray⟩) ∧ Below w.heap.size w w' := by
  have hd31 := Cal.dim_hi y m
  have hi' := hi
  obtain ⟨y1, y2, m1, m2, d1, d2, _⟩ := hi'
  have HI := Lib.hid hi
  have hy0 : (y == 0) = false := by simp; omega
  clear hi
  obtain ⟨sy, hsy⟩ : ∃ s : ByteArray, s = ⟨(digs y 4).toArray⟩ := ⟨_, rfl⟩
  obtain ⟨sm, hsm⟩ : ∃ s : ByteArray, s = ⟨(digs m 2).toArray⟩ := ⟨_, rfl⟩
  obtain ⟨sd, hsd⟩ : ∃ s : ByteArray, s = ⟨(digs d 2).toArray⟩ := ⟨_, rfl⟩
  have zy : sy.size ≤ 4 := by rw [hsy, str_size, digs_length]; omega
  have zm : sm.size ≤ 4 := by rw [hsm, str_size, digs_length]; omega
  have zd : sd.size ≤ 4 := by rw [hsd, str_size, digs_length]; omega
  have HSY := Lib.hid hsy
  have HSM := Lib.hid hsm
  have HSD := Lib.hid hsd
  clear hsy hsm hsd
  go_enter Tryd.func31, Tryd.ntmps31
  go_wp2_with fail
  refine (rcivil_is n y m d HI.out _).mono ?_
  rintro e w1 ⟨rfl, hB1⟩
  go_wp2_with fail
  refine (rdig4 y (by omega) (by omega) _).mono ?_
  rw [← HSY.out]
  rintro e w2 ⟨rfl, hB2⟩
  have hC2 := below_mono hB1 hB2 (Nat.le_refl _)
  clear hB1 hB2
  go_wp2_with fail
  refine (rdig2 m (by omega) (by omega) _).mono ?_
  rw [← HSM.out]
  rintro e w3 ⟨rfl, hB3⟩
  have hC3 := below_mono hC2 hB3 (Nat.le_refl _)
  clear hC2 hB3
  go_wp2_with fail
  refine (rdig2 d (by omega) (by omega) _).mono ?_
  rw [← HSD.out]
  rintro e w4 ⟨rfl, hB4⟩
  have hC4 := below_mono hC3 hB4 (Nat.le_refl _)
  clear hC3 hB4
  go_wp2_with fail
  go_ret
  refine ⟨?_, hC4⟩
  have e : sy ++ ⟨#[45]⟩ ++ sm ++ ⟨#[45]⟩ ++ sd = (⟨(dayText y m d).toArray⟩ : ByteArray) := by
    rw [HSY.out, HSM.out, HSD.out]
    apply ByteArray.ext
    simp [dayText, ByteArray.append_eq, ByteArray.append]
  rw [← e]
  rfl
end Go.Proofs.YtkfkoopfoiekoaaDoor
