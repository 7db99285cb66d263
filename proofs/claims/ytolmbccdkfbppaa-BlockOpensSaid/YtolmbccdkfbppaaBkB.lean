/- What two keys have in common; a pair is added to a builder. Conditions: those written at each theorem. -/
import Derived.Test.YtolmbccdkfbppaaBkA
import Derived.LoopTactic
import Derived.Deep.DeepCutAuto
import Derived.Deep.QuietTactic
import Derived.BigQuiet
namespace Go.Proofs.Ytolmbccdkfbppaa
open Go.RowKit
set_option linter.unusedVariables false
set_option linter.unusedSimpArgs false

theorem data_get (a : ByteArray) (k : Nat) (h : k < a.size) : a.data.toList[k]'(by simpa using h) = a[k] := rfl
set_option maxRecDepth 100000 in
set_option maxHeartbeats 1000000 in
theorem common_any (a b : ByteArray) (ha : a.size ≤ 1000000) (hb : b.size ≤ 1000000) (w : World) :
    Calls Try.prog 28 #[.string a, .string b] w fun e w' => e = .returned (.int .i64 (com a.data.toList b.data.toList)) ∧ ∃ n, w' = w.drewN n := by
  go_enter Try.func28, Try.ntmps28
  go_wp2_with fail
  go_loopw [5] (fun i wr => ∃ k n : Nat, k ≤ a.size ∧ k ≤ b.size ∧ i = .int .i64 k ∧ Hid (com a.data.toList b.data.toList = k + com (a.data.toList.drop k) (b.data.toList.drop k)) ∧ Hid (wr = w.drewN n)) (fun i _ => a.size - (intOf i).toNat)
  case atStart => exact ⟨0, 0, by omega, by omega, rfl, Lib.hid (by simp), Lib.hid rfl⟩
  case round =>
    obtain ⟨k, n, hka, hkb, rfl, HC, HW⟩ := hrel
    by_cases h1 : k < a.size
    · have h1i : (k : Int) < (a.size : Int) := by omega
      by_cases h2 : k < b.size
      · have h2i : (k : Int) < (b.size : Int) := by omega
        have hs := com_step a.data.toList b.data.toList k (by simpa using h1) (by simpa using h2)
        rw [data_get a k h1, data_get b k h2] at hs
        have HS := Lib.hid hs
        clear hs
        cases he : ((a[k].toNat : Int) == (b[k].toNat : Int)) with
        | true =>
          have HE : Hid (a[k] = b[k]) := Lib.hid (by
            have := eq_of_beq he
            exact UInt8.toNat_inj.1 (by omega))
          go_wp2_with fail
          go_quiet (fail)
          go_wp2_with fail
          go_roundw
          case rel =>
            refine ⟨k + 1, n + nq, by omega, by omega, by go_num, Lib.hid ?_, Lib.hid ?_⟩
            · have h3 := HS.out
              rw [if_pos HE.out] at h3
              rw [HC.out, h3]; omega
            · rw [HW.out, World.drewN_drewN]
          case measure => simp [intOf]; omega
        | false =>
          have HE : Hid (¬ a[k] = b[k]) := Lib.hid (by
            intro e
            rw [e] at he
            simp at he)
          go_wp2_with fail
          go_quiet (fail)
          go_wp2_with fail
          go_ret
          refine ⟨ret_int ?_, n + nq, by rw [HW.out, World.drewN_drewN]⟩
          have h3 := HS.out
          rw [if_neg HE.out] at h3
          rw [HC.out, h3]; rfl
      · have h2i : ¬ (k : Int) < (b.size : Int) := by omega
        have h2d : decide ((k : Int) < (b.size : Int)) = false := by simpa using h2i
        go_wp2_with fail
        go_quiet (fail)
        go_wp2_with fail
        go_ret
        refine ⟨ret_int ?_, n + nq, by rw [HW.out, World.drewN_drewN]⟩
        rw [HC.out, com_stop _ _ _ (.inr (by simp; omega))]; rfl
    · have h1i : ¬ (k : Int) < (a.size : Int) := by omega
      have h1d : decide ((k : Int) < (a.size : Int)) = false := by simpa using h1i
      go_wp2_with fail
      go_quiet (fail)
      go_wp2_with fail
      go_ret
      refine ⟨ret_int ?_, n + nq, by rw [HW.out, World.drewN_drewN]⟩
      rw [HC.out, com_stop _ _ _ (.inl (by simp; omega))]; rfl
theorem clone_any (s : ByteArray) (hs : s.size ≤ 1000000) (w : World) : Calls Try.prog 31 #[.string s] w fun e w' => e = .returned (.string s) ∧ Below w.heap.size w w' := by
  go_enter Try.func31, Try.ntmps31
  go_wp2_with fail
  refine (Try.stringslite_Clone s _ (by omega)).mono ?_
  rintro e w1 ⟨rfl, hb⟩
  go_wp2_with fail
  go_ret
  exact ⟨rfl, hb⟩
end Go.Proofs.Ytolmbccdkfbppaa
