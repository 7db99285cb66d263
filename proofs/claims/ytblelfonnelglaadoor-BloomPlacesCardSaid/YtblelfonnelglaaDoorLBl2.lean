/- The law BloomPlaces walked: how many bits any count of keys gets; any key's places among any count of bits. No conditions but that the table stands there. -/
import Derived.Test.YtblelfonnelglaaDoorLBl1
namespace Go.Proofs.YtblelfonnelglaaDoor
open Go.RowKit
set_option linter.unusedSimpArgs false
set_option linter.unusedVariables false

set_option maxRecDepth 100000 in
set_option maxHeartbeats 4000000 in
theorem places_yesL (n : Int) (s : ByteArray) (m : Nat) (hs : s.size ≤ 300) (hm1 : 1 ≤ m) (hm2 : m ≤ 1073741824) (w : World) (hT : TabAt w) :
    Calls Tryd.prog 10 #[.int .i64 n, .string s, .int .i64 m] w fun e w' => e = .returned (.bool true) ∧ Below w.heap.size w w' := by
  have T0 := Lib.hid hT
  have K0 := Lib.hid (Below.refl w.heap.size w)
  have G1 := Lib.hid (fun w hT => places_yes s m (by unfold maxLen; omega) hm1 hm2 w hT)
  have G2 := Lib.hid (fun w => rplaces_yes s m (by unfold maxLen; omega) hm1 hm2 w)
  obtain ⟨k, hk⟩ : ∃ k, k = s.data.toList := ⟨_, rfl⟩
  rw [← hk] at G1 G2
  obtain ⟨bn, hbn⟩ : ∃ b, b = bN n := ⟨_, rfl⟩
  have G3 := Lib.hid (fun w => bits_any n w)
  have G4 := Lib.hid (fun w => rbits_any n w)
  rw [← hbn] at G3 G4
  clear hT hk hbn
  go_enter Tryd.func10, Tryd.ntmps10
  go_wp2_with fail
  refine (G1.out _ T0.out).mono ?_
  rintro e w1 ⟨⟨b, rfl, p1⟩, k1⟩
  have P1 := Lib.hid p1
  have K1 := Lib.hid k1
  clear p1 k1
  go_wp2_with fail
  refine (G2.out _).mono ?_
  rintro e w2 ⟨⟨ao, cap, rfl, s2⟩, k2⟩
  obtain ⟨a, rfl⟩ := s2.1 (by simp [plL])
  have S2 := Lib.hid s2
  have P2 := Lib.hid (P1.out.next k2)
  have K2 := Lib.hid (below_mono K1.out k2 (Nat.le_refl _))
  clear s2 k2
  go_wp2_with fail
  go_loopw [9] (fun i wr => ∃ j d : Nat, j ≤ 6 ∧ i = .int .i64 j ∧ wr = w2.drewN d) (fun i _ => 6 - (intOf i).toNat)
  case atStart => exact ⟨0, 0, by omega, rfl, rfl⟩
  case round =>
    obtain ⟨j, d, hj, rfl, rfl⟩ := hrel
    by_cases hlt : j < 6
    · obtain ⟨p, hp⟩ : ∃ p, p = pl k m j := ⟨_, rfl⟩
      have c0 : w2.cell? (a.add j) = some (.int .i64 p) := by
        rw [hp]
        exact (S2.out.2 a rfl (by simp [plL])).2 j _ (by simp [plL, hlt])
      have c1 : w2.cell? ⟨b, j, none⟩ = some (.int .i64 p) := by rw [hp]; exact P2.out.2 j hlt
      have t14 : (j : Int) < 6 := by omega
      clear hp
      go_wp2_with fail
      go_quiet (fail)
      go_wp2_with fail
      go_roundw
      case rel => exact ⟨j + 1, _, by omega, by go_num, rfl⟩
      case measure => simp [intOf]; omega
    · obtain rfl : j = 6 := by omega
      have T2' : TabAt w2 := T0.out.next K2.out
      have T2 : Hid (∀ d, TabAt (w2.drewN d)) := Lib.hid (fun _ => T2')
      clear T2'
      have K3 := Lib.hid (below_drewN K2.out d)
      go_wp2_with fail
      refine (G3.out _).mono ?_
      rintro e w3 ⟨rfl, rfl⟩
      go_wp2_with fail
      refine (G4.out _).mono ?_
      rintro e w3 ⟨rfl, rfl⟩
      go_wp2_with fail
      refine (awake8_any _ (T2.out _)).mono ?_
      rintro e w4 ⟨rfl, k4⟩
      have K4 := Lib.hid (below_mono K3.out k4 (Nat.le_refl _))
      clear k4
      go_wp2_with fail
      go_ret
      exact ⟨rfl, K4.out⟩
theorem places_noL (n : Int) (s : ByteArray) (m : Int) (hs : s.size ≤ 300) (hm : m < 1 ∨ 1073741824 < m) (w : World) (hT : TabAt w) :
    Calls Tryd.prog 10 #[.int .i64 n, .string s, .int .i64 m] w fun e w' => e = .returned (.bool true) ∧ Below w.heap.size w w' := by
  have T0 := Lib.hid hT
  have K0 := Lib.hid (Below.refl w.heap.size w)
  have G1 := Lib.hid (fun w => places_no s m hm w)
  have G2 := Lib.hid (fun w => rplaces_no s m hm w)
  obtain ⟨bn, hbn⟩ : ∃ b, b = bN n := ⟨_, rfl⟩
  have G3 := Lib.hid (fun w => bits_any n w)
  have G4 := Lib.hid (fun w => rbits_any n w)
  rw [← hbn] at G3 G4
  clear hT hbn hm
  go_enter Tryd.func10, Tryd.ntmps10
  go_wp2_with fail
  refine (G1.out _).mono ?_
  rintro e w1 ⟨rfl, k1⟩
  have K1 := Lib.hid (below_mono K0.out k1 (Nat.le_refl _))
  have T1 := Lib.hid (T0.out.next K1.out)
  clear k1
  go_wp2_with fail
  refine (G2.out _).mono ?_
  rintro e w2 ⟨rfl, k2⟩
  have K2 := Lib.hid (below_mono K1.out k2 (Nat.le_refl _))
  have T2 := Lib.hid (T0.out.next K2.out)
  clear k2
  go_wp2_with fail
  refine wp_loop_rounds 1 ?_
  rw [rounds_succ]
  go_wp2_with fail
  refine (G3.out _).mono ?_
  rintro e w3 ⟨rfl, rfl⟩
  go_wp2_with fail
  refine (G4.out _).mono ?_
  rintro e w3 ⟨rfl, rfl⟩
  go_wp2_with fail
  refine (awake8_any _ T2.out).mono ?_
  rintro e w3 ⟨rfl, k3⟩
  have K3 := Lib.hid (below_mono K2.out k3 (Nat.le_refl _))
  have T3 := Lib.hid (T0.out.next K3.out)
  clear k3
  go_wp2_with fail
  go_ret
  exact ⟨rfl, K3.out⟩
theorem bloomPlaces_walk (n : Int) (s : ByteArray) (m : Int) (w0 : (Lit.int .i64 n).wf = true) (w1 : s.size ≤ maxLen) (w2 : (Lit.int .i64 m).wf = true) (w : World) (hT : TabAt w) :
    Calls Tryd.prog 10 #[.int .i64 n, .string s, .int .i64 m] w fun e w' => e = .returned (.bool true) ∧ Below w.heap.size w w' := by
  by_cases h1 : s.size ≤ 300
  · by_cases hm : m < 1 ∨ 1073741824 < m
    · exact places_noL n s m h1 hm w hT
    · obtain ⟨k, rfl⟩ := Int.eq_ofNat_of_zero_le (show 0 ≤ m by omega)
      exact places_yesL n s k h1 (by omega) (by omega) w hT
  · have T0 := Lib.hid hT
    have K0 := Lib.hid (Below.refl w.heap.size w)
    unfold maxLen at w1
    clear hT
    go_enter Tryd.func10, Tryd.ntmps10
    go_wp2_with fail
    refine (awake8_any _ T0.out).mono ?_
    rintro e w1 ⟨rfl, k1⟩
    have K1 := Lib.hid (below_mono K0.out k1 (Nat.le_refl _))
    have T1 := Lib.hid (T0.out.next K1.out)
    clear k1
    go_wp2_with fail
    go_ret
    exact ⟨rfl, K1.out⟩
end Go.Proofs.YtblelfonnelglaaDoor
