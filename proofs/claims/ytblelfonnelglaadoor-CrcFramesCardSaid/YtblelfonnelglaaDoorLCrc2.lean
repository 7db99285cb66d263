/- The law CrcFrames walked: any bytes' frame; or that they are too many. No conditions but that the table stands there. -/
import Derived.Test.YtblelfonnelglaaDoorLCrc1
namespace Go.Proofs.YtblelfonnelglaaDoor
open Go.RowKit
set_option linter.unusedSimpArgs false
set_option linter.unusedVariables false

theorem frame_no (s : ByteArray) (w : World) (hs : s.size ≤ maxLen) (h : 131072 < s.size) :
    Calls Tryd.prog 20 #[.string s] w fun e w' => e = .returned (.tuple #[.string ⟨#[]⟩, .bool false]) ∧ Below w.heap.size w w' := by
  have HB := Lib.hid (Below.refl w.heap.size w)
  unfold maxLen at hs
  go_enter Tryd.func20, Tryd.ntmps20
  go_wp2_with fail
  go_ret2
  exact ⟨rfl, HB.out⟩
theorem crcFrames_walk (s : ByteArray) (ws : s.size ≤ maxLen) (w : World) (hT : TabAt w) :
    Calls Tryd.prog 4 #[.string s] w fun e w' => e = .returned (.bool true) ∧ Below w.heap.size w w' := by
  have T0 := Lib.hid hT
  have K0 := Lib.hid (Below.refl w.heap.size w)
  clear hT
  by_cases hs : s.size ≤ 2000
  · have G1 := Lib.hid (fun w hT => frame_any s w (by omega) hT)
    have G2 := Lib.hid (fun w => rframe_any s w (by omega))
    obtain ⟨f, hf⟩ : ∃ f : ByteArray, f = bstr (frm s.data.toList) := ⟨_, rfl⟩
    rw [← hf] at G1 G2
    unfold maxLen at ws
    clear hf
    go_enter Tryd.func4, Tryd.ntmps4
    go_wp2_with fail
    refine (G1.out _ T0.out).mono ?_
    rintro e w1 ⟨rfl, k1⟩
    have K1 := Lib.hid (below_mono K0.out k1 (Nat.le_refl _))
    have T1 := Lib.hid (T0.out.next K1.out)
    clear k1
    go_wp2_with fail
    refine (G2.out _).mono ?_
    rintro e w2 ⟨rfl, k2⟩
    have K2 := Lib.hid (below_mono K1.out k2 (Nat.le_refl _))
    have T2 := Lib.hid (T0.out.next K2.out)
    clear k2
    go_wp2_with fail
    refine (awake_any _ T2.out).mono ?_
    rintro e w3 ⟨rfl, k3⟩
    have K3 := Lib.hid (below_mono K2.out k3 (Nat.le_refl _))
    have T3 := Lib.hid (T0.out.next K3.out)
    clear k3
    go_wp2_with fail
    go_ret
    exact ⟨rfl, K3.out⟩
  · by_cases hs2 : s.size ≤ 131072
    · unfold maxLen at ws
      go_enter Tryd.func4, Tryd.ntmps4
      go_wp2_with fail
      refine (awake_any _ T0.out).mono ?_
      rintro e w1 ⟨rfl, k1⟩
      have K1 := Lib.hid (below_mono K0.out k1 (Nat.le_refl _))
      have T1 := Lib.hid (T0.out.next K1.out)
      clear k1
      go_wp2_with fail
      go_ret
      exact ⟨rfl, K1.out⟩
    · have G1 := Lib.hid (fun w => frame_no s w ws (by omega))
      unfold maxLen at ws
      go_enter Tryd.func4, Tryd.ntmps4
      go_wp2_with fail
      refine (G1.out _).mono ?_
      rintro e w1 ⟨rfl, k1⟩
      have K1 := Lib.hid (below_mono K0.out k1 (Nat.le_refl _))
      have T1 := Lib.hid (T0.out.next K1.out)
      clear k1
      go_wp2_with fail
      refine (awake_any _ T1.out).mono ?_
      rintro e w2 ⟨rfl, k2⟩
      have K2 := Lib.hid (below_mono K1.out k2 (Nat.le_refl _))
      have T2 := Lib.hid (T0.out.next K2.out)
      clear k2
      go_wp2_with fail
      go_ret
      exact ⟨rfl, K2.out⟩
end Go.Proofs.YtblelfonnelglaaDoor
