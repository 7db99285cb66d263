/- The laws CrcSums and CrcFrames walked, and the examples of layer 4. No conditions but that the table stands there. -/
import Derived.Test.YtblelfonnelglaaDoorCrcQ
import Derived.OpenShut
namespace Go.Proofs.YtblelfonnelglaaDoor
open Go.RowKit
set_option linter.unusedSimpArgs false
set_option linter.unusedVariables false

theorem val_fx (n : Nat) : ∀ k, val (fx n k) = n % 256 ^ k
  | 0 => by simp [fx, val]; omega
  | k + 1 => by
    rw [fx, val_cons, fx_length, val_fx n k]
    have h : (UInt8.ofNat (n / 256 ^ k % 256)).toNat = n / 256 ^ k % 256 := by rw [UInt8.toNat_ofNat']; omega
    rw [h, Nat.mod_pow_succ, Nat.mul_comm]; omega
/-- What is framed is told. -/
theorem opn_frm (l r : List UInt8) (hl : l.length ≤ 131072) : opn (frm l ++ r) = (l, l.length + 12, 0) := by
  have h4 : (frm l ++ r).take 4 = fx l.length 4 := by
    unfold frm; rw [List.append_assoc, List.append_assoc, List.append_assoc, List.take_append_of_le_length (by rw [fx_length]; omega), List.take_of_length_le (by rw [fx_length]; omega)]
  have hv : val ((frm l ++ r).take 4) = l.length := by rw [h4, val_fx]; omega
  have e1 : frm l ++ r = fx l.length 4 ++ (le4 (sm (fx l.length 4)) ++ (l ++ (le4 (sm l) ++ r))) := by unfold frm; simp only [List.append_assoc]
  have d4 : ((frm l ++ r).drop 4).take 4 = le4 (sm (fx l.length 4)) := by
    rw [e1, List.drop_append_of_le_length (by rw [fx_length]; omega), List.drop_of_length_le (by rw [fx_length]; omega), List.nil_append, List.take_append_of_le_length (by rw [le4_len]; omega), List.take_of_length_le (by rw [le4_len]; omega)]
  have d8 : (frm l ++ r).drop 8 = l ++ (le4 (sm l) ++ r) := by
    rw [e1, ← List.append_assoc, List.drop_append_of_le_length (by rw [List.length_append, fx_length, le4_len]; omega), List.drop_of_length_le (by rw [List.length_append, fx_length, le4_len]; omega), List.nil_append]
  have d9 : (frm l ++ r).drop (8 + l.length) = le4 (sm l) ++ r := by
    rw [← List.drop_drop, d8, List.drop_append_of_le_length (Nat.le_refl _), List.drop_of_length_le (Nat.le_refl _), List.nil_append]
  have t8 : ((frm l ++ r).drop 8).take l.length = l := by rw [d8, List.take_append_of_le_length (Nat.le_refl _), List.take_of_length_le (Nat.le_refl _)]
  have t9 : ((frm l ++ r).drop (8 + l.length)).take 4 = le4 (sm l) := by rw [d9, List.take_append_of_le_length (by rw [le4_len]; omega), List.take_of_length_le (by rw [le4_len]; omega)]
  have hlen : (frm l ++ r).length = l.length + 12 + r.length := by rw [List.length_append, frm_len]
  unfold opn
  rw [hv, if_neg (by omega), if_neg (by rw [d4, h4]; intro e; rcases e with e | e; exact e rfl; omega), if_neg (by omega), t8, if_pos t9]

theorem more_below (sum : Crc.W) (s : ByteArray) (w : World) (hs : s.size ≤ maxLen) (hT : TabAt w) :
    Calls Tryd.prog 16 #[.int .u32 (wi sum), .string s] w fun e w' => e = .returned (.int .u32 (wi (Crc.more sum s.data.toList))) ∧ Below w.heap.size w w' :=
  (more_any sum s w hs hT).mono fun e w' ⟨h, n, hn⟩ => ⟨h, below_of_drewN hn⟩
theorem sum_digits : wi (sm [49, 50, 51, 52, 53, 54, 55, 56, 57]) = 3808858755 := by decide +kernel
theorem awake_any (w : World) (hT : TabAt w) : Calls Tryd.prog 19 #[] w fun e w' => e = .returned (.bool true) ∧ Below w.heap.size w w' := by
  have T0 := Lib.hid hT
  have K0 := Lib.hid (Below.refl w.heap.size w)
  obtain ⟨f, hf⟩ : ∃ f : ByteArray, f = bstr (frm [97, 98]) := ⟨_, rfl⟩
  have fz : f.size = 14 := by rw [hf, bstr_size, frm_len]; rfl
  have G1 : Hid (∀ w, TabAt w → Calls Tryd.prog 20 #[.string ⟨#[97, 98]⟩] w fun e w' => e = .returned (.tuple #[.string f, .bool true]) ∧ Below w.heap.size w w') := Lib.hid (by
    rw [hf]; exact fun w hT => frame_any ⟨#[97, 98]⟩ w (by decide) hT)
  have G2 : Hid (∀ w, TabAt w → Calls Tryd.prog 22 #[.string f] w fun e w' => e = .returned (.tuple #[.string ⟨#[97, 98]⟩, .int .i64 14, .int .i64 0]) ∧ Below w.heap.size w w') := Lib.hid (by
    intro w hT
    have := open_any f w (by omega) hT
    rw [hf, bstr_list] at this
    have e : opnE (frm [97, 98]) = .returned (.tuple #[.string ⟨#[97, 98]⟩, .int .i64 14, .int .i64 0]) := by
      have := opn_frm [97, 98] [] (by decide)
      rw [List.append_nil] at this
      unfold opnE; rw [this]; rfl
    rw [e] at this; rw [hf]; exact this)
  have G3 : Hid (∀ w, TabAt w → Calls Tryd.prog 14 #[.string ⟨#[49, 50, 51, 52, 53, 54, 55, 56, 57]⟩] w fun e w' => e = .returned (.int .u32 3808858755) ∧ Below w.heap.size w w') := Lib.hid (by
    intro w hT
    have := sum_any ⟨#[49, 50, 51, 52, 53, 54, 55, 56, 57]⟩ w (by decide) hT
    rwa [show sm (⟨#[49, 50, 51, 52, 53, 54, 55, 56, 57]⟩ : ByteArray).data.toList = sm [49, 50, 51, 52, 53, 54, 55, 56, 57] from rfl, sum_digits] at this)
  clear hT hf fz
  go_enter Tryd.func19, Tryd.ntmps19
  go_wp2_with fail
  refine (G1.out _ T0.out).mono ?_
  rintro e w1 ⟨rfl, k1⟩
  have K1 := Lib.hid (below_mono K0.out k1 (Nat.le_refl _))
  have T1 := Lib.hid (T0.out.next K1.out)
  clear k1
  go_wp2_with fail
  refine (G2.out _ T1.out).mono ?_
  rintro e w2 ⟨rfl, k2⟩
  have K2 := Lib.hid (below_mono K1.out k2 (Nat.le_refl _))
  have T2 := Lib.hid (T0.out.next K2.out)
  clear k2
  go_wp2_with fail
  refine (G3.out _ T2.out).mono ?_
  rintro e w3 ⟨rfl, k3⟩
  have K3 := Lib.hid (below_mono K2.out k3 (Nat.le_refl _))
  have T3 := Lib.hid (T0.out.next K3.out)
  clear k3
  go_wp2_with fail
  go_ret
  exact ⟨rfl, K3.out⟩

theorem crcSums_walk (s : ByteArray) (sum : Int) (ws : s.size ≤ maxLen) (w1 : (Lit.int .u32 sum).wf = true) (w : World) (hT : TabAt w) :
    Calls Tryd.prog 3 #[.string s, .int .u32 sum] w fun e w' => e = .returned (.bool true) ∧ Below w.heap.size w w' := by
  have T0 := Lib.hid hT
  have K0 := Lib.hid (Below.refl w.heap.size w)
  obtain ⟨h0, h1⟩ := bounds_u32 w1
  clear w1
  obtain ⟨c, rfl⟩ : ∃ c : Crc.W, sum = wi c := ⟨BitVec.ofNat 32 sum.toNat, by unfold wi; rw [BitVec.toNat_ofNat]; omega⟩
  unfold maxLen at ws
  clear hT h0 h1
  by_cases hs : s.size ≤ 2000
  · have hm : s.size ≤ maxLen := by unfold maxLen; omega
    have G1 := Lib.hid (fun w hT => sum_any s w hm hT)
    have G2 := Lib.hid (fun w => rsum_any s w hm)
    have G3 := Lib.hid (fun w hT => more_below c s w hm hT)
    have G4 := Lib.hid (fun w => rmore_any c s w hm)
    have G5 := Lib.hid (fun w hT => laid_any s w hm hT)
    have G6 := Lib.hid (fun w => rlaid_any s w hm)
    clear hm
    go_enter Tryd.func3, Tryd.ntmps3
    go_wp2_with fail
    refine (G1.out _ T0.out).mono ?_
    rintro e w1 ⟨rfl, k1⟩
    have K1 := Lib.hid (below_mono K0.out k1 (Nat.le_refl _))
    have T1 := Lib.hid (T0.out.next K1.out)
    clear k1
    go_wp2_with fail
    refine (G2.out _).mono ?_
    rintro e w2 ⟨rfl, k2⟩
    have K2 := Lib.hid (below_mono K1.out k2 (Nat.le_refl _))
    have T2 := Lib.hid (T0.out.next K2.out)
    clear k2
    go_wp2_with fail
    refine (G3.out _ T2.out).mono ?_
    rintro e w3 ⟨rfl, k3⟩
    have K3 := Lib.hid (below_mono K2.out k3 (Nat.le_refl _))
    have T3 := Lib.hid (T0.out.next K3.out)
    clear k3
    go_wp2_with fail
    refine (G4.out _).mono ?_
    rintro e w4 ⟨rfl, k4⟩
    have K4 := Lib.hid (below_mono K3.out k4 (Nat.le_refl _))
    have T4 := Lib.hid (T0.out.next K4.out)
    clear k4
    go_wp2_with fail
    refine (G5.out _ T4.out).mono ?_
    rintro e w5 ⟨rfl, k5⟩
    have K5 := Lib.hid (below_mono K4.out k5 (Nat.le_refl _))
    have T5 := Lib.hid (T0.out.next K5.out)
    clear k5
    go_wp2_with fail
    refine (G6.out _).mono ?_
    rintro e w6 ⟨rfl, k6⟩
    have K6 := Lib.hid (below_mono K5.out k6 (Nat.le_refl _))
    have T6 := Lib.hid (T0.out.next K6.out)
    clear k6
    go_wp2_with fail
    refine (awake_any _ T6.out).mono ?_
    rintro e w7 ⟨rfl, k7⟩
    have K7 := Lib.hid (below_mono K6.out k7 (Nat.le_refl _))
    have T7 := Lib.hid (T0.out.next K7.out)
    clear k7
    go_wp2_with fail
    go_ret
    exact ⟨rfl, K7.out⟩
  · go_enter Tryd.func3, Tryd.ntmps3
    go_wp2_with fail
    refine (awake_any _ T0.out).mono ?_
    rintro e w1 ⟨rfl, k1⟩
    have K1 := Lib.hid (below_mono K0.out k1 (Nat.le_refl _))
    have T1 := Lib.hid (T0.out.next K1.out)
    clear k1
    go_wp2_with fail
    go_ret
    exact ⟨rfl, K1.out⟩
end Go.Proofs.YtblelfonnelglaaDoor
