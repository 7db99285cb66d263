/- What math/bits.Div64 and Rem64 answer at any numbers whose quotient fits. Conditions: those written at each theorem. -/
import Derived.Test.YtknahehmkjaelaaDoorNuL
import Derived.Laws.BitsAllLaws
import Derived.Deep.DeepCutAuto
import Derived.Outline
namespace Go.Proofs.YtknahehmkjaelaaDoor
open Go.RowKit Go.Sort
set_option linter.unusedSimpArgs false
set_option linter.unusedVariables false

/-- A word's halves. -/
theorem halves (x : Nat) (hx : x < 18446744073709551616) : ∃ x1 x0 : Nat, x1 < 4294967296 ∧ x0 < 4294967296 ∧ x = x1 * 4294967296 + x0 ∧ (x : Int) / 4294967296 = (x1 : Int) ∧ bits .and .u64 (x : Int) 4294967295 = (x0 : Int) ∧ x1 = x / 4294967296 ∧ x0 = x % 4294967296 ∧ (x : Int) % 4294967296 = (x0 : Int) := by
  refine ⟨x / 4294967296, x % 4294967296, by omega, by omega, by omega, by omega, ?_, rfl, rfl, by omega⟩
  have := u64_and_nat x 4294967295 hx (by omega)
  rw [show (4294967295 : Nat) = 2 ^ 32 - 1 by rfl, Nat.and_two_pow_sub_one_eq_mod] at this
  exact this
/-- A guess, and its rest, as the walk has them. -/
theorem guess_in (U Y1 : Nat) (h1 : 2147483648 ≤ Y1) (hU : U < 18446744073709551616) : ∃ a r m : Nat, a = U / Y1 ∧ r = U - U / Y1 * Y1 ∧ m = a * Y1 ∧ (U : Int) / (Y1 : Int) = (a : Int) ∧ (U : Int).tdiv (Y1 : Int) = (a : Int) ∧ IntKind.u64.wrap (a : Int) = (a : Int) ∧ (a : Int) * (Y1 : Int) = (m : Int) ∧ IntKind.u64.wrap (m : Int) = (m : Int) ∧ (U : Int) - (m : Int) = (r : Int) ∧ IntKind.u64.wrap (r : Int) = (r : Int) ∧ r < Y1 ∧ m ≤ U := by
  have hm := Nat.div_mul_le_self U Y1
  have hr := Nat.mod_lt U (show 0 < Y1 by omega)
  have he := Nat.div_add_mod U Y1
  have hq := Nat.div_le_self U Y1
  rw [Nat.mul_comm] at he
  refine ⟨U / Y1, U - U / Y1 * Y1, U / Y1 * Y1, rfl, rfl, rfl, by rw [Int.natCast_ediv], by rw [Int.tdiv_eq_ediv_of_nonneg (by omega), Int.natCast_ediv], ?_, by rw [Int.natCast_mul], ?_, by omega, ?_, by omega, hm⟩
  · rw [IntKind.wrap_u64]; generalize U / Y1 = a at *; omega
  · rw [IntKind.wrap_u64]; generalize U / Y1 * Y1 = a at *; omega
  · rw [IntKind.wrap_u64]; generalize U / Y1 * Y1 = a at *; omega
theorem norm_great {hi lo y s : Nat} (h0 : hi < y) (hl : lo < 18446744073709551616) (hs : s ≤ 63) (hn2 : y * 2 ^ s < 18446744073709551616) :
    ∃ H L U V : Nat, hi * 2 ^ s = H ∧ H < 18446744073709551616 ∧ lo / 2 ^ (64 - s) = L ∧ L < 18446744073709551616 ∧ H ||| L = U ∧ U < y * 2 ^ s ∧ lo * 2 ^ s % 18446744073709551616 = V ∧ U = (hi * 18446744073709551616 + lo) * 2 ^ s / 18446744073709551616 ∧ V = (hi * 18446744073709551616 + lo) * 2 ^ s % 18446744073709551616 := by
  have hp := Nat.two_pow_pos s
  have h := kn_in (hi := hi) hs hl
  have e64 : (2 : Nat) ^ 64 = 18446744073709551616 := rfl
  rw [e64] at h
  refine ⟨_, _, _, _, rfl, ?_, rfl, Nat.lt_of_le_of_lt (Nat.div_le_self _ _) hl, rfl, ?_, rfl, h.1, h.2⟩
  · have := Nat.mul_lt_mul_of_pos_right h0 hp; omega
  · rw [h.1, Nat.div_lt_iff_lt_mul (by omega)]
    have e : y * 2 ^ s * 18446744073709551616 = y * 18446744073709551616 * 2 ^ s := by rw [Nat.mul_right_comm]
    rw [e]
    exact Nat.mul_lt_mul_of_pos_right (by omega) hp
theorem lz_any (y s : Nat) (hy : y < 18446744073709551616) (h : 64 - (Lib.bitLen y : Int) = (s : Int)) (w : World) :
    Calls Tryd.prog 73 #[.int .u64 y] w fun e w' => e = .returned (.int .i64 s) ∧ w = w' :=
  (Tryd.bits_LeadingZeros64 (y : Int) w (by omega) (by omega)).mono fun e w' h' => ⟨by rw [h'.1, Int.toNat_natCast, h], h'.2.symm⟩
theorem ret_two {k l : IntKind} {a b c d : Int} (h : a = b) (h' : c = d) : Ending.returned (.tuple #[.int k a, .int l c]) = .returned (.tuple #[.int k b, .int l d]) := by rw [h, h']
/-- The head of a loop: the guess and its rest. -/
def KnHead (u y1 y0 v : Nat) (q r : Value) : Prop := ∃ a b : Nat, q = .int .u64 a ∧ r = .int .u64 b ∧ b < 4294967296 ∧ a ≤ 4294967297 ∧ Hid (Kn 4294967296 u y1 y0 v a b)
set_option maxRecDepth 100000 in
set_option maxHeartbeats 4000000 in
theorem div64_great (hi lo y : Nat) (h1 : 0 < hi) (h0 : hi < y) (hl : lo < 18446744073709551616) (hy : y < 18446744073709551616) (w : World) :
    Calls Tryd.prog 52 #[.int .u64 hi, .int .u64 lo, .int .u64 y] w fun e w' => e = .returned (.tuple #[.int .u64 ((hi * 18446744073709551616 + lo) / y : Nat), .int .u64 ((hi * 18446744073709551616 + lo) % y : Nat)]) ∧ w = w' := by
  obtain ⟨s, hs, hbl, hn1, hn2⟩ := norm (y := y) (by omega) hy
  have LZ := Lib.hid (lz_any y s hy hbl)
  obtain ⟨H, L, U, V, hH, bH, hL, bL, hU, bU, hV, eU, eV⟩ := norm_great h0 hl hs hn2
  have hall := kn_all (n := hi * 18446744073709551616 + lo) (y := y) (k := 2 ^ s) (by omega) (Nat.two_pow_pos s)
  rw [← eU, ← eV] at hall
  have x1 : IntKind.u64.wrap ((y : Int) * 2 ^ s) = ((y * 2 ^ s : Nat) : Int) := by
    rw [show (y : Int) * 2 ^ s = ((y * 2 ^ s : Nat) : Int) by rw [Int.natCast_mul, Int.natCast_pow]; rfl, IntKind.wrap_u64]; omega
  have x2 : IntKind.u64.wrap ((hi : Int) * 2 ^ s) = (H : Int) := by
    rw [show (hi : Int) * 2 ^ s = ((hi * 2 ^ s : Nat) : Int) by rw [Int.natCast_mul, Int.natCast_pow]; rfl, IntKind.wrap_u64, hH]; omega
  have x3 : (lo : Int) / 2 ^ (64 - s) = (L : Int) := by rw [← hL, Int.natCast_ediv, Int.natCast_pow]; rfl
  have x4 : bits .or .u64 (H : Int) (L : Int) = (U : Int) := by rw [u64_or_nat H L bH bL, hU]
  have x5 : IntKind.u64.wrap ((lo : Int) * 2 ^ s) = (V : Int) := by
    rw [show (lo : Int) * 2 ^ s = ((lo * 2 ^ s : Nat) : Int) by rw [Int.natCast_mul, Int.natCast_pow]; rfl, IntKind.wrap_u64, ← hV]; omega
  have bV : V < 18446744073709551616 := by rw [← hV]; exact Nat.mod_lt _ (by omega)
  obtain ⟨Y, hY⟩ : ∃ Y, Y = y * 2 ^ s := ⟨_, rfl⟩
  rw [← hY] at x1 hn1 hn2 bU hall
  obtain ⟨Y1, Y0, bY1, bY0, eY, x6, x7, g1, g0, x7'⟩ := halves Y hn2
  obtain ⟨V1, V0, bV1, bV0, eVV, x8, x9, f1, f0, x9'⟩ := halves V bV
  rw [← f1, ← f0] at hall
  have hY1 : 2147483648 ≤ Y1 := by omega
  have bU64 : U < 18446744073709551616 := by omega
  obtain ⟨a0, r0, m0, ea0, er0, em0, z1, z2, z3, z4, z5, z6, z7, br0, bm0⟩ := guess_in U Y1 hY1 bU64
  have K0 : Hid (Kn 4294967296 U Y1 Y0 V1 a0 r0) := Lib.hid (by
    rw [ea0, er0]; exact Kn.start (by omega) bY0 (by omega) bV1 (by rw [← eY]; exact bU))
  have ba0 := K0.out.top
  have HALL := Lib.hid hall
  have HEY := Lib.hid eY
  have HBU := Lib.hid bU
  have d1 : ¬ (Y1 : Int) = 0 := by omega
  have d7 : ¬ (Y : Int) / 4294967296 = 0 := by rw [x6]; omega
  have d2 : ¬ (y : Int) = 0 := by omega
  have d3 : ¬ (hi : Int) = 0 := by omega
  have d4 : ¬ (y : Int) ≤ (hi : Int) := by omega
  have d5 : ((y : Int) == 0) = false := by rw [beq_eq_false_iff_ne]; omega
  have d6 : ((hi : Int) == 0) = false := by rw [beq_eq_false_iff_ne]; omega
  have s1 : IntKind.u64.wrap (s : Int) = (s : Int) := by rw [IntKind.wrap_u64]; omega
  have s2 : (0 : Int) ≤ (s : Int) := by omega
  have s3 : (s : Int) < 64 := by omega
  have X6 := Lib.hid x6
  have X7 := Lib.hid x7'
  have X7b := Lib.hid x7
  have X9 := Lib.hid x9'
  clear x6 x7 x7' x9' g1 g0
  clear hs hbl hH bH hL bL hU hV eU eV hall hY hn1 eVV f1 f0 ea0 er0 em0 eY bU h1 h0 hl hy
  go_enter Tryd.func52, Tryd.ntmps52
  go_wp2_with fail
  refine (LZ.out _).mono ?_
  rintro e w1 ⟨rfl, rfl⟩
  go_upto_block 0 with fail
  simp only [X6.out, X7.out, X7b.out, z1, z3, z4, z5, z6, z7]
  go_cut [15] (fun q wx => q = .int .u64 ((U * 4294967296 + V1) / Y : Nat) ∧ w = wx)
  case first =>
    go_wp2_with fail
    go_loop [15, 16] (fun q r => KnHead U Y1 Y0 V1 q r) (fun q _ => (intOf q).toNat)
    case atStart => exact ⟨a0, r0, rfl, rfl, by omega, ba0, K0⟩
    case round =>
      obtain ⟨a, b, rfl, rfl, hb, ha, HK⟩ := hrel
      clear z1 z2 z3 z4 z5 z6 z7 br0 bm0 ba0 K0
      obtain ⟨m, hm⟩ : ∃ m, m = a * Y0 := ⟨_, rfl⟩
      have y1 : (a : Int) * (Y0 : Int) = (m : Int) := by rw [hm, Int.natCast_mul]
      by_cases hc : 4294967296 ≤ a ∨ 4294967296 * b + V1 < a * Y0
      · have hs := HK.out.step (by omega) bV1 (by rw [← HEY.out]; exact HBU.out) hc
        obtain ⟨d, hd⟩ : ∃ d, d = b + Y1 := ⟨_, rfl⟩
        obtain ⟨c, hcc⟩ : ∃ c, c = a - 1 := ⟨_, rfl⟩
        rw [← hd, ← hcc] at hs
        have HS := Lib.hid hs.2.1
        have hc4 : c ≤ 4294967296 := hs.2.2
        have y2 : (a : Int) - 1 = (c : Int) := by have := hs.1; omega
        have y3 : (b : Int) + (Y1 : Int) = (d : Int) := by omega
        have ha1 : 1 ≤ a := hs.1
        have hd2 : d < 8589934592 := by omega
        rw [← hm] at hc
        clear hs HK hcc hd
        by_cases hB : 4294967296 ≤ d
        · have HE : Hid (c = (U * 4294967296 + V1) / Y) := Lib.hid (by
            have := HS.out.broke (by omega) hc4 bY0 hB
            rw [this, HEY.out])
          clear HS
          by_cases hA : 4294967296 ≤ a
          · have hA' : 4294967296 ≤ (a : Int) := by omega
            have hbI : (b : Int) < 4294967296 := by omega
            have hdI : (d : Int) < 8589934592 := by omega
            have hBI : 4294967296 ≤ (d : Int) := by omega
            have haI : (a : Int) ≤ 4294967297 := by omega
            have HB := Lib.hid hB
            have HC := Lib.hid hc4
            clear hc y1 hm hA hB hb ha hd2 ha1 hc4
            obtain ⟨C, EC⟩ : ∃ C : Int, C = (c : Int) := ⟨_, rfl⟩
            obtain ⟨D, ED⟩ : ∃ D : Int, D = (d : Int) := ⟨_, rfl⟩
            rw [← EC] at y2
            rw [← ED] at y3 hdI hBI
            have HEC := Lib.hid EC
            have HED := Lib.hid ED
            have hA0 : 0 ≤ (a : Int) := by omega
            have hB0 : 0 ≤ (b : Int) := by omega
            have hC0 : 0 ≤ C := by omega
            have hD0 : 0 ≤ D := by omega
            clear EC ED
            generalize (a : Int) = A at *
            have v1a : 0 ≤ (V1 : Int) := by omega
            have v1b : (V1 : Int) < 4294967296 := by omega
            have y1a : 2147483648 ≤ (Y1 : Int) := by omega
            have y1b : (Y1 : Int) < 4294967296 := by omega
            have y0a : 0 ≤ (Y0 : Int) := by omega
            have y0b : (Y0 : Int) < 4294967296 := by omega
            generalize (b : Int) = B' at *
            generalize (V1 : Int) = V1' at *
            generalize (Y1 : Int) = Y1' at *
            generalize (Y0 : Int) = Y0' at *
            go_wp2_with fail
            go_meet
            exact ⟨by rw [HEC.out, HE.out], rfl⟩
          · have hbm : (m : Int) < 18446744073709551616 := by
              have := Nat.mul_le_mul (show a ≤ 4294967295 by omega) (show Y0 ≤ 4294967295 by omega)
              omega
            have hc2 : 4294967296 * (b : Int) + (V1 : Int) < (m : Int) := by have := hc.resolve_left hA; omega
            have hA' : ¬ 4294967296 ≤ (a : Int) := by omega
            have hbI : (b : Int) < 4294967296 := by omega
            have hdI : (d : Int) < 8589934592 := by omega
            have hBI : 4294967296 ≤ (d : Int) := by omega
            have haI : 1 ≤ (a : Int) := by omega
            have HB := Lib.hid hB
            have HC := Lib.hid hc4
            clear hA hB hb ha hd2 ha1 hc4
            clear hc hm
            obtain ⟨C, EC⟩ : ∃ C : Int, C = (c : Int) := ⟨_, rfl⟩
            obtain ⟨D, ED⟩ : ∃ D : Int, D = (d : Int) := ⟨_, rfl⟩
            rw [← EC] at y2
            rw [← ED] at y3 hdI hBI
            have HEC := Lib.hid EC
            have HED := Lib.hid ED
            have hA0 : 0 ≤ (a : Int) := by omega
            have hB0 : 0 ≤ (b : Int) := by omega
            have hC0 : 0 ≤ C := by omega
            have hD0 : 0 ≤ D := by omega
            clear EC ED
            generalize (a : Int) = A at *
            have v1a : 0 ≤ (V1 : Int) := by omega
            have v1b : (V1 : Int) < 4294967296 := by omega
            have y1a : 2147483648 ≤ (Y1 : Int) := by omega
            have y1b : (Y1 : Int) < 4294967296 := by omega
            have y0a : 0 ≤ (Y0 : Int) := by omega
            have y0b : (Y0 : Int) < 4294967296 := by omega
            generalize (b : Int) = B' at *
            have hm0 : 0 ≤ (m : Int) := by omega
            generalize (m : Int) = M' at *
            generalize (V1 : Int) = V1' at *
            generalize (Y1 : Int) = Y1' at *
            generalize (Y0 : Int) = Y0' at *
            go_wp2_with fail
            go_meet
            exact ⟨by rw [HEC.out, HE.out], rfl⟩
        · by_cases hA : 4294967296 ≤ a
          · have hA' : 4294967296 ≤ (a : Int) := by omega
            have hbI : (b : Int) < 4294967296 := by omega
            have hdI : (d : Int) < 8589934592 := by omega
            have hBI : ¬ 4294967296 ≤ (d : Int) := by omega
            have haI : (a : Int) ≤ 4294967297 := by omega
            have HB := Lib.hid hB
            have HC := Lib.hid hc4
            clear hc y1 hm hA hB hb ha hd2 ha1 hc4
            obtain ⟨C, EC⟩ : ∃ C : Int, C = (c : Int) := ⟨_, rfl⟩
            obtain ⟨D, ED⟩ : ∃ D : Int, D = (d : Int) := ⟨_, rfl⟩
            rw [← EC] at y2
            rw [← ED] at y3 hdI hBI
            have HEC := Lib.hid EC
            have HED := Lib.hid ED
            have hA0 : 0 ≤ (a : Int) := by omega
            have hB0 : 0 ≤ (b : Int) := by omega
            have hC0 : 0 ≤ C := by omega
            have hD0 : 0 ≤ D := by omega
            clear EC ED
            generalize (a : Int) = A at *
            have v1a : 0 ≤ (V1 : Int) := by omega
            have v1b : (V1 : Int) < 4294967296 := by omega
            have y1a : 2147483648 ≤ (Y1 : Int) := by omega
            have y1b : (Y1 : Int) < 4294967296 := by omega
            have y0a : 0 ≤ (Y0 : Int) := by omega
            have y0b : (Y0 : Int) < 4294967296 := by omega
            generalize (b : Int) = B' at *
            generalize (V1 : Int) = V1' at *
            generalize (Y1 : Int) = Y1' at *
            generalize (Y0 : Int) = Y0' at *
            go_wp2_with fail
            go_round
            case rel => exact ⟨c, d, by rw [HEC.out], by rw [HED.out], by have := HB.out; omega, by have := HC.out; omega, HS⟩
            case measure => simp [intOf]; omega
          · have hbm : (m : Int) < 18446744073709551616 := by
              have := Nat.mul_le_mul (show a ≤ 4294967295 by omega) (show Y0 ≤ 4294967295 by omega)
              omega
            have hc2 : 4294967296 * (b : Int) + (V1 : Int) < (m : Int) := by have := hc.resolve_left hA; omega
            have hA' : ¬ 4294967296 ≤ (a : Int) := by omega
            have hbI : (b : Int) < 4294967296 := by omega
            have hdI : (d : Int) < 8589934592 := by omega
            have hBI : ¬ 4294967296 ≤ (d : Int) := by omega
            have haI : 1 ≤ (a : Int) := by omega
            have HB := Lib.hid hB
            have HC := Lib.hid hc4
            clear hA hB hb ha hd2 ha1 hc4
            clear hc hm
            obtain ⟨C, EC⟩ : ∃ C : Int, C = (c : Int) := ⟨_, rfl⟩
            obtain ⟨D, ED⟩ : ∃ D : Int, D = (d : Int) := ⟨_, rfl⟩
            rw [← EC] at y2
            rw [← ED] at y3 hdI hBI
            have HEC := Lib.hid EC
            have HED := Lib.hid ED
            have hA0 : 0 ≤ (a : Int) := by omega
            have hB0 : 0 ≤ (b : Int) := by omega
            have hC0 : 0 ≤ C := by omega
            have hD0 : 0 ≤ D := by omega
            clear EC ED
            generalize (a : Int) = A at *
            have v1a : 0 ≤ (V1 : Int) := by omega
            have v1b : (V1 : Int) < 4294967296 := by omega
            have y1a : 2147483648 ≤ (Y1 : Int) := by omega
            have y1b : (Y1 : Int) < 4294967296 := by omega
            have y0a : 0 ≤ (Y0 : Int) := by omega
            have y0b : (Y0 : Int) < 4294967296 := by omega
            generalize (b : Int) = B' at *
            have hm0 : 0 ≤ (m : Int) := by omega
            generalize (m : Int) = M' at *
            generalize (V1 : Int) = V1' at *
            generalize (Y1 : Int) = Y1' at *
            generalize (Y0 : Int) = Y0' at *
            go_wp2_with fail
            go_round
            case rel => exact ⟨c, d, by rw [HEC.out], by rw [HED.out], by have := HB.out; omega, by have := HC.out; omega, HS⟩
            case measure => simp [intOf]; omega
      · have hA : ¬ 4294967296 ≤ a := fun h => hc (.inl h)
        have hc2 : ¬ 4294967296 * b + V1 < a * Y0 := fun h => hc (.inr h)
        have HE : Hid (a = (U * 4294967296 + V1) / Y) := Lib.hid (by
          have := HK.out.done (by omega) (by omega)
          rw [this, HEY.out])
        rw [← hm] at hc2
        have hbm : (m : Int) < 18446744073709551616 := by omega
        have hA' : ¬ 4294967296 ≤ (a : Int) := by omega
        have hbI : (b : Int) < 4294967296 := by omega
        have hc3 : ¬ 4294967296 * (b : Int) + (V1 : Int) < (m : Int) := by omega
        clear hc hm HK hA hc2 hb ha
        obtain ⟨A, EA⟩ : ∃ A : Int, A = (a : Int) := ⟨_, rfl⟩
        rw [← EA] at y1 hA' ⊢
        have HEA := Lib.hid EA
        have hA0 : 0 ≤ A := by omega
        clear EA
        have hb0 : 0 ≤ (b : Int) := by omega
        have hm0 : 0 ≤ (m : Int) := by omega
        have v1a : 0 ≤ (V1 : Int) := by omega
        have v1b : (V1 : Int) < 4294967296 := by omega
        have y1a : 2147483648 ≤ (Y1 : Int) := by omega
        have y1b : (Y1 : Int) < 4294967296 := by omega
        have y0a : 0 ≤ (Y0 : Int) := by omega
        have y0b : (Y0 : Int) < 4294967296 := by omega
        generalize (b : Int) = B' at *
        generalize (V1 : Int) = V1' at *
        generalize (Y1 : Int) = Y1' at *
        generalize (Y0 : Int) = Y0' at *
        generalize (m : Int) = M' at *
        go_wp2_with fail
        go_meet
        exact ⟨by rw [HEA.out, HE.out], rfl⟩
  case rest =>
    obtain ⟨rfl, rfl⟩ := hcut
    clear z1 z2 z3 z4 z5 z6 z7 br0 bm0 ba0 K0
    have hY0 : 0 < Y := by rw [HEY.out]; omega
    have W1 := Lib.hid (kn_wrap (u := U) (v := V1) (y := Y) (q := (U * 4294967296 + V1) / Y) hY0 hn2 rfl)
    obtain ⟨Q1, hQ1⟩ : ∃ Q1, Q1 = (U * 4294967296 + V1) / Y := ⟨_, rfl⟩
    obtain ⟨U2, hU2⟩ : ∃ U2, U2 = (U * 4294967296 + V1) % Y := ⟨_, rfl⟩
    have bQ1 : Q1 < 4294967296 := by rw [hQ1]; exact kn_digit HBU.out bV1 (Nat.div_mul_le_self _ _)
    have bU2 : U2 < Y := by rw [hU2]; exact Nat.mod_lt _ hY0
    have bU264 : U2 < 18446744073709551616 := by omega
    rw [← hQ1, ← hU2] at W1 HALL
    rw [← hQ1]
    obtain ⟨a1, r1, m1, ea1, er1, em1, z1, z2, z3, z4, z5, z6, z7, br1, bm1⟩ := guess_in U2 Y1 hY1 bU264
    have K1 : Hid (Kn 4294967296 U2 Y1 Y0 V0 a1 r1) := Lib.hid (by
      rw [ea1, er1]; exact Kn.start (by omega) bY0 (by omega) bV0 (by rw [← HEY.out]; exact bU2))
    have ba1 := K1.out.top
    have HBU2 := Lib.hid bU2
    have HQ1b := Lib.hid bQ1
    clear hQ1 hU2 ea1 er1 em1 bU2 HBU bQ1
    go_upto_block 2 with fail
    simp only [W1.out, X6.out, z1, z2, z3, z4, z5, z6, z7]
    go_cut [18] (fun q wx => q = .int .u64 ((U2 * 4294967296 + V0) / Y : Nat) ∧ w = wx)
    case first =>
      go_wp2_with fail
      go_loop [18, 16] (fun q r => KnHead U2 Y1 Y0 V0 q r) (fun q _ => (intOf q).toNat)
      case atStart => exact ⟨a1, r1, rfl, rfl, by omega, ba1, K1⟩
      case round =>
        obtain ⟨a, b, rfl, rfl, hb, ha, HK⟩ := hrel
        clear z1 z2 z3 z4 z5 z6 z7 br1 bm1 ba1 K1
        obtain ⟨m, hm⟩ : ∃ m, m = a * Y0 := ⟨_, rfl⟩
        have y1 : (a : Int) * (Y0 : Int) = (m : Int) := by rw [hm, Int.natCast_mul]
        by_cases hc : 4294967296 ≤ a ∨ 4294967296 * b + V0 < a * Y0
        · have hs := HK.out.step (by omega) bV0 (by rw [← HEY.out]; exact HBU2.out) hc
          obtain ⟨d, hd⟩ : ∃ d, d = b + Y1 := ⟨_, rfl⟩
          obtain ⟨c, hcc⟩ : ∃ c, c = a - 1 := ⟨_, rfl⟩
          rw [← hd, ← hcc] at hs
          have HS := Lib.hid hs.2.1
          have hc4 : c ≤ 4294967296 := hs.2.2
          have y2 : (a : Int) - 1 = (c : Int) := by have := hs.1; omega
          have y3 : (b : Int) + (Y1 : Int) = (d : Int) := by omega
          have ha1 : 1 ≤ a := hs.1
          have hd2 : d < 8589934592 := by omega
          rw [← hm] at hc
          clear hs HK hcc hd
          by_cases hB : 4294967296 ≤ d
          · have HE : Hid (c = (U2 * 4294967296 + V0) / Y) := Lib.hid (by
              have := HS.out.broke (by omega) hc4 bY0 hB
              rw [this, HEY.out])
            clear HS
            by_cases hA : 4294967296 ≤ a
            · have hA' : 4294967296 ≤ (a : Int) := by omega
              have hbI : (b : Int) < 4294967296 := by omega
              have hdI : (d : Int) < 8589934592 := by omega
              have hBI : 4294967296 ≤ (d : Int) := by omega
              have haI : (a : Int) ≤ 4294967297 := by omega
              have HB := Lib.hid hB
              have HC := Lib.hid hc4
              clear hc y1 hm hA hB hb ha hd2 ha1 hc4
              obtain ⟨C, EC⟩ : ∃ C : Int, C = (c : Int) := ⟨_, rfl⟩
              obtain ⟨D, ED⟩ : ∃ D : Int, D = (d : Int) := ⟨_, rfl⟩
              rw [← EC] at y2
              rw [← ED] at y3 hdI hBI
              have HEC := Lib.hid EC
              have HED := Lib.hid ED
              have hA0 : 0 ≤ (a : Int) := by omega
              have hB0 : 0 ≤ (b : Int) := by omega
              have hC0 : 0 ≤ C := by omega
              have hD0 : 0 ≤ D := by omega
              clear EC ED
              generalize (a : Int) = A at *
              have v0a : 0 ≤ (V0 : Int) := by omega
              have v0b : (V0 : Int) < 4294967296 := by omega
              have y1a : 2147483648 ≤ (Y1 : Int) := by omega
              have y1b : (Y1 : Int) < 4294967296 := by omega
              have y0a : 0 ≤ (Y0 : Int) := by omega
              have y0b : (Y0 : Int) < 4294967296 := by omega
              generalize (b : Int) = B' at *
              generalize (V0 : Int) = V0' at *
              generalize (Y1 : Int) = Y1' at *
              generalize (Y0 : Int) = Y0' at *
              go_wp2_with fail
              go_meet
              exact ⟨by rw [HEC.out, HE.out], rfl⟩
            · have hbm : (m : Int) < 18446744073709551616 := by
                have := Nat.mul_le_mul (show a ≤ 4294967295 by omega) (show Y0 ≤ 4294967295 by omega)
                omega
              have hc2 : 4294967296 * (b : Int) + (V0 : Int) < (m : Int) := by have := hc.resolve_left hA; omega
              have hA' : ¬ 4294967296 ≤ (a : Int) := by omega
              have hbI : (b : Int) < 4294967296 := by omega
              have hdI : (d : Int) < 8589934592 := by omega
              have hBI : 4294967296 ≤ (d : Int) := by omega
              have haI : 1 ≤ (a : Int) := by omega
              have HB := Lib.hid hB
              have HC := Lib.hid hc4
              clear hA hB hb ha hd2 ha1 hc4
              clear hc hm
              obtain ⟨C, EC⟩ : ∃ C : Int, C = (c : Int) := ⟨_, rfl⟩
              obtain ⟨D, ED⟩ : ∃ D : Int, D = (d : Int) := ⟨_, rfl⟩
              rw [← EC] at y2
              rw [← ED] at y3 hdI hBI
              have HEC := Lib.hid EC
              have HED := Lib.hid ED
              have hA0 : 0 ≤ (a : Int) := by omega
              have hB0 : 0 ≤ (b : Int) := by omega
              have hC0 : 0 ≤ C := by omega
              have hD0 : 0 ≤ D := by omega
              clear EC ED
              generalize (a : Int) = A at *
              have v0a : 0 ≤ (V0 : Int) := by omega
              have v0b : (V0 : Int) < 4294967296 := by omega
              have y1a : 2147483648 ≤ (Y1 : Int) := by omega
              have y1b : (Y1 : Int) < 4294967296 := by omega
              have y0a : 0 ≤ (Y0 : Int) := by omega
              have y0b : (Y0 : Int) < 4294967296 := by omega
              generalize (b : Int) = B' at *
              have hm0 : 0 ≤ (m : Int) := by omega
              generalize (m : Int) = M' at *
              generalize (V0 : Int) = V0' at *
              generalize (Y1 : Int) = Y1' at *
              generalize (Y0 : Int) = Y0' at *
              go_wp2_with fail
              go_meet
              exact ⟨by rw [HEC.out, HE.out], rfl⟩
          · by_cases hA : 4294967296 ≤ a
            · have hA' : 4294967296 ≤ (a : Int) := by omega
              have hbI : (b : Int) < 4294967296 := by omega
              have hdI : (d : Int) < 8589934592 := by omega
              have hBI : ¬ 4294967296 ≤ (d : Int) := by omega
              have haI : (a : Int) ≤ 4294967297 := by omega
              have HB := Lib.hid hB
              have HC := Lib.hid hc4
              clear hc y1 hm hA hB hb ha hd2 ha1 hc4
              obtain ⟨C, EC⟩ : ∃ C : Int, C = (c : Int) := ⟨_, rfl⟩
              obtain ⟨D, ED⟩ : ∃ D : Int, D = (d : Int) := ⟨_, rfl⟩
              rw [← EC] at y2
              rw [← ED] at y3 hdI hBI
              have HEC := Lib.hid EC
              have HED := Lib.hid ED
              have hA0 : 0 ≤ (a : Int) := by omega
              have hB0 : 0 ≤ (b : Int) := by omega
              have hC0 : 0 ≤ C := by omega
              have hD0 : 0 ≤ D := by omega
              clear EC ED
              generalize (a : Int) = A at *
              have v0a : 0 ≤ (V0 : Int) := by omega
              have v0b : (V0 : Int) < 4294967296 := by omega
              have y1a : 2147483648 ≤ (Y1 : Int) := by omega
              have y1b : (Y1 : Int) < 4294967296 := by omega
              have y0a : 0 ≤ (Y0 : Int) := by omega
              have y0b : (Y0 : Int) < 4294967296 := by omega
              generalize (b : Int) = B' at *
              generalize (V0 : Int) = V0' at *
              generalize (Y1 : Int) = Y1' at *
              generalize (Y0 : Int) = Y0' at *
              go_wp2_with fail
              go_round
              case rel => exact ⟨c, d, by rw [HEC.out], by rw [HED.out], by have := HB.out; omega, by have := HC.out; omega, HS⟩
              case measure => simp [intOf]; omega
            · have hbm : (m : Int) < 18446744073709551616 := by
                have := Nat.mul_le_mul (show a ≤ 4294967295 by omega) (show Y0 ≤ 4294967295 by omega)
                omega
              have hc2 : 4294967296 * (b : Int) + (V0 : Int) < (m : Int) := by have := hc.resolve_left hA; omega
              have hA' : ¬ 4294967296 ≤ (a : Int) := by omega
              have hbI : (b : Int) < 4294967296 := by omega
              have hdI : (d : Int) < 8589934592 := by omega
              have hBI : ¬ 4294967296 ≤ (d : Int) := by omega
              have haI : 1 ≤ (a : Int) := by omega
              have HB := Lib.hid hB
              have HC := Lib.hid hc4
              clear hA hB hb ha hd2 ha1 hc4
              clear hc hm
              obtain ⟨C, EC⟩ : ∃ C : Int, C = (c : Int) := ⟨_, rfl⟩
              obtain ⟨D, ED⟩ : ∃ D : Int, D = (d : Int) := ⟨_, rfl⟩
              rw [← EC] at y2
              rw [← ED] at y3 hdI hBI
              have HEC := Lib.hid EC
              have HED := Lib.hid ED
              have hA0 : 0 ≤ (a : Int) := by omega
              have hB0 : 0 ≤ (b : Int) := by omega
              have hC0 : 0 ≤ C := by omega
              have hD0 : 0 ≤ D := by omega
              clear EC ED
              generalize (a : Int) = A at *
              have v0a : 0 ≤ (V0 : Int) := by omega
              have v0b : (V0 : Int) < 4294967296 := by omega
              have y1a : 2147483648 ≤ (Y1 : Int) := by omega
              have y1b : (Y1 : Int) < 4294967296 := by omega
              have y0a : 0 ≤ (Y0 : Int) := by omega
              have y0b : (Y0 : Int) < 4294967296 := by omega
              generalize (b : Int) = B' at *
              have hm0 : 0 ≤ (m : Int) := by omega
              generalize (m : Int) = M' at *
              generalize (V0 : Int) = V0' at *
              generalize (Y1 : Int) = Y1' at *
              generalize (Y0 : Int) = Y0' at *
              go_wp2_with fail
              go_round
              case rel => exact ⟨c, d, by rw [HEC.out], by rw [HED.out], by have := HB.out; omega, by have := HC.out; omega, HS⟩
              case measure => simp [intOf]; omega
        · have hA : ¬ 4294967296 ≤ a := fun h => hc (.inl h)
          have hc2 : ¬ 4294967296 * b + V0 < a * Y0 := fun h => hc (.inr h)
          have HE : Hid (a = (U2 * 4294967296 + V0) / Y) := Lib.hid (by
            have := HK.out.done (by omega) (by omega)
            rw [this, HEY.out])
          rw [← hm] at hc2
          have hbm : (m : Int) < 18446744073709551616 := by omega
          have hA' : ¬ 4294967296 ≤ (a : Int) := by omega
          have hbI : (b : Int) < 4294967296 := by omega
          have hc3 : ¬ 4294967296 * (b : Int) + (V0 : Int) < (m : Int) := by omega
          clear hc hm HK hA hc2 hb ha
          obtain ⟨A, EA⟩ : ∃ A : Int, A = (a : Int) := ⟨_, rfl⟩
          rw [← EA] at y1 hA' ⊢
          have HEA := Lib.hid EA
          have hA0 : 0 ≤ A := by omega
          clear EA
          have hb0 : 0 ≤ (b : Int) := by omega
          have hm0 : 0 ≤ (m : Int) := by omega
          have v0a : 0 ≤ (V0 : Int) := by omega
          have v0b : (V0 : Int) < 4294967296 := by omega
          have y1a : 2147483648 ≤ (Y1 : Int) := by omega
          have y1b : (Y1 : Int) < 4294967296 := by omega
          have y0a : 0 ≤ (Y0 : Int) := by omega
          have y0b : (Y0 : Int) < 4294967296 := by omega
          generalize (b : Int) = B' at *
          generalize (V0 : Int) = V0' at *
          generalize (Y1 : Int) = Y1' at *
          generalize (Y0 : Int) = Y0' at *
          generalize (m : Int) = M' at *
          go_wp2_with fail
          go_meet
          exact ⟨by rw [HEA.out, HE.out], rfl⟩

    case rest =>
      obtain ⟨rfl, rfl⟩ := hcut
      clear z1 z2 z3 z4 z5 z6 z7 br1 bm1 ba1 K1
      have hY0 : 0 < Y := by rw [HEY.out]; omega
      have W2 := Lib.hid (kn_wrap (u := U2) (v := V0) (y := Y) (q := (U2 * 4294967296 + V0) / Y) hY0 hn2 rfl)
      obtain ⟨Q0, hQ0⟩ : ∃ Q0, Q0 = (U2 * 4294967296 + V0) / Y := ⟨_, rfl⟩
      obtain ⟨U3, hU3⟩ : ∃ U3, U3 = (U2 * 4294967296 + V0) % Y := ⟨_, rfl⟩
      have bQ0 : Q0 < 4294967296 := by rw [hQ0]; exact kn_digit HBU2.out bV0 (Nat.div_mul_le_self _ _)
      have bU3 : U3 < 18446744073709551616 := by
        have : U3 < Y := by rw [hU3]; exact Nat.mod_lt _ hY0
        omega
      rw [← hQ0, ← hU3] at W2 HALL
      rw [← hQ0]
      have bQ1 := HQ1b.out
      have e1 : (Q1 : Int) * 4294967296 + (Q0 : Int) = (((hi * 18446744073709551616 + lo) / y : Nat) : Int) := by have := HALL.out.1; omega
      have E1 := Lib.hid e1
      have W3 : Hid ((U3 : Int) / 2 ^ s = (((hi * 18446744073709551616 + lo) % y : Nat) : Int)) := Lib.hid (by rw [← HALL.out.2, Int.natCast_ediv, Int.natCast_pow]; rfl)
      clear e1 hQ0 hU3 HALL
      go_wp2_with fail
      go_ret2
      exact ⟨ret_two E1.out (by rw [W2.out]; exact W3.out), rfl⟩
theorem div64_any (hi lo y : Nat) (h0 : hi < y) (hl : lo < 18446744073709551616) (hy : y < 18446744073709551616) (w : World) :
    Calls Tryd.prog 52 #[.int .u64 hi, .int .u64 lo, .int .u64 y] w fun e w' => e = .returned (.tuple #[.int .u64 ((hi * 18446744073709551616 + lo) / y : Nat), .int .u64 ((hi * 18446744073709551616 + lo) % y : Nat)]) ∧ ∃ n, w' = w.drewN n := by
  rcases Nat.eq_zero_or_pos hi with h | h
  · subst h
    have := div_small lo y hl (by omega) hy w
    simpa using this
  · exact (div64_great hi lo y h h0 hl hy w).mono fun e w' ⟨h1, h2⟩ => ⟨h1, 0, by rw [← h2]; rfl⟩
set_option maxHeartbeats 1000000 in
theorem rem64_any (hi lo y : Nat) (h1 : 0 < y) (hh : hi < 18446744073709551616) (hl : lo < 18446744073709551616) (hy : y < 18446744073709551616) (w : World) :
    Calls Tryd.prog 61 #[.int .u64 hi, .int .u64 lo, .int .u64 y] w fun e w' => e = .returned (.int .u64 ((hi * 18446744073709551616 + lo) % y : Nat)) ∧ ∃ n, w' = w.drewN n := by
  have G := Lib.hid (fun W : World => div64_any (hi % y) lo y (Nat.mod_lt _ h1) hl hy W)
  have e : (hi % y * 18446744073709551616 + lo) % y = (hi * 18446744073709551616 + lo) % y := by
    rw [Nat.add_mod, Nat.mul_mod, Nat.mod_mod, ← Nat.mul_mod, ← Nat.add_mod]
  rw [e] at G
  have d1 : (hi : Int) % (y : Int) = ((hi % y : Nat) : Int) := by rw [Int.natCast_emod]
  have d2 : ¬ (y : Int) = 0 := by omega
  have d3 : (y = 0) = False := by simp; omega
  obtain ⟨q, hq⟩ : ∃ q, q = (hi % y * 18446744073709551616 + lo) / y := ⟨_, rfl⟩
  obtain ⟨r, hr⟩ : ∃ r, r = (hi * 18446744073709551616 + lo) % y := ⟨_, rfl⟩
  rw [← hq, ← hr] at G
  rw [← hr]
  obtain ⟨m, hm⟩ : ∃ r, r = hi % y := ⟨_, rfl⟩
  rw [← hm] at G d1
  clear e hq hr hm
  go_enter Tryd.func61, Tryd.ntmps61
  go_wp2_with fail
  refine (G.out _).mono ?_
  rintro e w2 ⟨rfl, n, rfl⟩
  go_wp2_with fail
  go_ret
  exact ⟨rfl, n, rfl⟩
end Go.Proofs.YtknahehmkjaelaaDoor
