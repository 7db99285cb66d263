/- The law CodecTakes walked: of any bytes whatever is asked for, one behind the other. No conditions beyond those written. -/
import Derived.Test.YtblelfonnelglaaCoJ
import Derived.Test.YtblelfonnelglaaCoW
namespace Go.Proofs.Ytblelfonnelglaa
open Go.RowKit
set_option linter.unusedSimpArgs false
set_option linter.unusedVariables false

def AAt (B : Nat) (ao : Option Addr) (n : Nat) (ks ns : Nat → Int) (w : World) : Prop :=
  (0 < n → ∃ a, ao = some a) ∧ ∀ a, ao = some a → 0 < n → a.block < B ∧ ∀ i, i < n → w.cell? (a.add (i * 2)) = some (.int .i64 (ks i)) ∧ w.cell? (a.add (i * 2 + 1)) = some (.int .i64 (ns i))
theorem AAt.under {B n : Nat} {ao : Option Addr} {ks ns : Nat → Int} {w w' : World} (h : AAt B ao n ks ns w) (k : Below B w w') : AAt B ao n ks ns w' := by
  refine ⟨h.1, fun a e hp => ?_⟩
  obtain ⟨h1, h2⟩ := h.2 a e hp
  have hc : ∀ i, w'.cell? (a.add i) = w.cell? (a.add i) := fun i => k.cell (p := a.add i) (by unfold Addr.add; split <;> exact h1)
  exact ⟨h1, fun i hi => ⟨(hc _).trans (h2 i hi).1, (hc _).trans (h2 i hi).2⟩⟩
theorem end_size (b : Nat) (q : ByteArray) (w : World) (h : RdAt b q false w) :
    Calls Try.prog 31 #[.pointer (some ⟨b, 0, none⟩)] w fun e w' => e = .returned (.bool ((q.size : Int) == 0)) ∧ w = w' := by
  have h := end_good b q w h
  by_cases hz : q.size = 0
  · rw [isEmpty_true hz] at h
    have e : ((q.size : Int) == 0) = true := by rw [beq_iff_eq]; omega
    rw [e]; exact h
  · rw [isEmpty_false hz] at h
    have e : ((q.size : Int) == 0) = false := by rw [beq_eq_false_iff_ne]; omega
    rw [e]; exact h
set_option maxRecDepth 100000 in
set_option maxHeartbeats 4000000 in
theorem codecTakes_walk (s : ByteArray) (ao : Option Addr) (cap n : Nat) (ks ns : Nat → Int) (hs : s.size ≤ maxLen) (hn : n ≤ cap) (hcap : cap ≤ maxLen) (w : World) (hA : AAt w.heap.size ao n ks ns w) :
    Calls Try.prog 5 #[.string s, .slice ao n cap] w fun e w' => e = .returned (.bool true) ∧ Below w.heap.size w w' := by
  have HA := Lib.hid hA
  unfold maxLen at hs hcap
  have K0 := Lib.hid (Below.refl w.heap.size w)
  by_cases h5 : (s.size : Int) ≤ 5000
  · by_cases h1 : (n : Int) ≤ 100
    · have g5 : ¬ (5000 : Int) < (s.size : Int) := by omega
      have g1 : ¬ (100 : Int) < (n : Int) := by omega
      clear hA
      go_enter Try.func5, Try.ntmps5
      go_wp2_with fail
      refine (awake_any _).mono ?_
      rintro e w1 ⟨rfl, k1⟩
      have K1 := Lib.hid (below_mono K0.out k1 (Nat.le_refl _))
      clear k1
      go_wp2_with fail
      refine (read_any s _).mono ?_
      rintro e w2 ⟨rfl, hw2⟩
      have R2 := Lib.hid (show RdAt w1.heap.size s false w2 by rw [← hw2]; exact RdAt.fresh w1 s)
      have K2 := Lib.hid (show Below w.heap.size w w2 by rw [← hw2]; exact K1.out.alloc K1.out.size _)
      have HS := Lib.hid (show s.size ≤ 5000 by omega)
      have HB := Lib.hid K1.out.size
      obtain ⟨b, hb⟩ : ∃ b, b = w1.heap.size := ⟨_, rfl⟩
      rw [← hb] at R2 HB
      rw [← hb]
      clear hw2 g5 hs h5 hb
      go_wp2_with fail
      go_loopw [0, 6, 7] (fun s0 bv i wr => ∃ (j : Nat) (t : ByteArray) (bd : Bool), j ≤ n ∧ t.size ≤ 5000 ∧ s0 = .string t ∧ bv = .bool bd ∧ i = .int .i64 j ∧ RdAt b (if bd then ⟨#[]⟩ else t) bd wr ∧ Below w.heap.size w wr) (fun _ _ i _ => n - (intOf i).toNat)
      case atStart => exact ⟨0, s, false, by omega, HS.out, rfl, rfl, rfl, R2.out, K2.out⟩
      case round =>
        obtain ⟨j, t, bd, hj, ht, rfl, rfl, rfl, hr, hk⟩ := hrel
        have R3 := Lib.hid hr
        have K3 := Lib.hid hk
        have HT := Lib.hid ht
        clear hr hk ht
        by_cases hlt : j < n
        · have hji : (j : Int) < (n : Int) := by omega
          obtain ⟨a, rfl⟩ := HA.out.1 (by omega)
          obtain ⟨c0, c1⟩ := ((HA.out.under K3.out).2 a rfl (by omega)).2 j hlt
          obtain ⟨K, hK⟩ : ∃ K, K = ks j := ⟨_, rfl⟩
          obtain ⟨N, hN⟩ : ∃ N, N = ns j := ⟨_, rfl⟩
          rw [← hK] at c0
          rw [← hN] at c1
          rw [← Addr.add_add] at c1
          replace c1 : wr.cell? ⟨(a.add (j * 2)).block, (a.add (j * 2)).off + 1, none⟩ = some (.int .i64 N) := c1
          have HK := Lib.hid hK
          have HN := Lib.hid hN
          clear hK hN
          have BO := Lib.hid (both K N t HT.out)
          cases bd with
          | true =>
            have TT : Hid (∃ m u kk, TakesIs K N t m u kk) := Lib.hid (by
              rcases BO.out with ⟨m, u, k, _, _, h⟩ | ⟨_, h⟩
              · exact ⟨_, _, _, h⟩
              · exact ⟨_, _, _, h⟩)
            obtain ⟨m, u, kk, t1⟩ := TT.out
            have T1 := Lib.hid t1
            clear t1 BO TT
            go_wp2_with fail
            refine (take_bad K N b _ R3.out).mono ?_
            rintro e w3 ⟨rfl, r4, k4⟩
            have R4 := Lib.hid r4
            have K4 := Lib.hid (K3.out.trans (only_below k4 HB.out K3.out.size))
            clear r4 k4
            obtain ⟨c2, c3⟩ := ((HA.out.under K4.out).2 a rfl (by omega)).2 j hlt
            rw [← HK.out] at c2
            rw [← HN.out, ← Addr.add_add] at c3
            replace c3 : w3.cell? ⟨(a.add (j * 2)).block, (a.add (j * 2)).off + 1, none⟩ = some (.int .i64 N) := c3
            go_wp2_with fail
            refine (T1.out _).mono ?_
            rintro e w4 ⟨rfl, k5⟩
            have R5 := Lib.hid (show RdAt b _ _ w4 from (k5.block _ R4.out.lt).trans R4.out)
            have K5 := Lib.hid (below_mono K4.out k5 (Nat.le_refl _))
            clear k5 c0 c1 c2 c3
            go_wp2_with fail
            refine (good_any b ⟨#[]⟩ true _ R5.out).mono ?_
            rintro e w' ⟨rfl, rfl⟩
            go_wp2_with fail
            refine (left_bad b ⟨#[]⟩ _ R5.out).mono ?_
            rintro e w' ⟨rfl, rfl⟩
            go_wp2_with fail
            refine (end_bad b ⟨#[]⟩ _ R5.out).mono ?_
            rintro e w' ⟨rfl, rfl⟩
            go_wp2_with fail
            go_roundw
            case rel => exact ⟨j + 1, t, true, by omega, HT.out, rfl, rfl, by go_num, R5.out, K5.out⟩
            case measure => simp [intOf]; omega
          | false =>
            rcases BO.out with ⟨m, u, k, hkt, h1, h2⟩ | ⟨h1, h2⟩
            · obtain ⟨q, hq⟩ : ∃ q, t.extract k t.size = q := ⟨_, rfl⟩
              have HQ : Hid (q.size ≤ 5000) := Lib.hid (by rw [← hq, ByteArray.size_extract]; have := HT.out; omega)
              rw [hq] at h1
              have T1 := Lib.hid h1
              have T2 := Lib.hid h2
              have hkn : ¬ (k : Int) < 0 := by omega
              have hkt2 : (k : Int) ≤ (t.size : Int) := by omega
              clear h1 h2 BO
              go_wp2_with fail
              refine (T1.out b _ R3.out).mono ?_
              rintro e w3 ⟨rfl, r4, k4⟩
              have R4 := Lib.hid r4
              have K4 := Lib.hid (K3.out.trans (only_below k4 HB.out K3.out.size))
              clear r4 k4
              obtain ⟨c2, c3⟩ := ((HA.out.under K4.out).2 a rfl (by omega)).2 j hlt
              rw [← HK.out] at c2
              rw [← HN.out, ← Addr.add_add] at c3
              replace c3 : w3.cell? ⟨(a.add (j * 2)).block, (a.add (j * 2)).off + 1, none⟩ = some (.int .i64 N) := c3
              go_wp2_with fail
              refine (T2.out _).mono ?_
              rintro e w4 ⟨rfl, k5⟩
              have R5 := Lib.hid (show RdAt b _ _ w4 from (k5.block _ R4.out.lt).trans R4.out)
              have K5 := Lib.hid (below_mono K4.out k5 (Nat.le_refl _))
              clear k5 c0 c1 c2 c3
              go_wp2_with fail
              refine (good_any b q false _ R5.out).mono ?_
              rintro e w' ⟨rfl, rfl⟩
              go_wp2_with fail
              refine (left_good b q _ R5.out).mono ?_
              rintro e w' ⟨rfl, rfl⟩
              go_wp2_with fail
              refine (end_size b q _ R5.out).mono ?_
              rintro e w' ⟨rfl, rfl⟩
              go_wp2_with fail
              go_roundw
              case rel => exact ⟨j + 1, q, false, by omega, HQ.out, rfl, rfl, by go_num, R5.out, K5.out⟩
              case measure => simp [intOf]; omega
            · have T1 := Lib.hid h1
              have T2 := Lib.hid h2
              clear h1 h2 BO
              go_wp2_with fail
              refine (T1.out b _ R3.out).mono ?_
              rintro e w3 ⟨rfl, r4, k4⟩
              have R4 := Lib.hid r4
              have K4 := Lib.hid (K3.out.trans (only_below k4 HB.out K3.out.size))
              clear r4 k4
              obtain ⟨c2, c3⟩ := ((HA.out.under K4.out).2 a rfl (by omega)).2 j hlt
              rw [← HK.out] at c2
              rw [← HN.out, ← Addr.add_add] at c3
              replace c3 : w3.cell? ⟨(a.add (j * 2)).block, (a.add (j * 2)).off + 1, none⟩ = some (.int .i64 N) := c3
              go_wp2_with fail
              refine (T2.out _).mono ?_
              rintro e w4 ⟨rfl, k5⟩
              have R5 := Lib.hid (show RdAt b _ _ w4 from (k5.block _ R4.out.lt).trans R4.out)
              have K5 := Lib.hid (below_mono K4.out k5 (Nat.le_refl _))
              clear k5 c0 c1 c2 c3
              go_wp2_with fail
              refine (good_any b ⟨#[]⟩ true _ R5.out).mono ?_
              rintro e w' ⟨rfl, rfl⟩
              go_wp2_with fail
              refine (left_bad b ⟨#[]⟩ _ R5.out).mono ?_
              rintro e w' ⟨rfl, rfl⟩
              go_wp2_with fail
              refine (end_bad b ⟨#[]⟩ _ R5.out).mono ?_
              rintro e w' ⟨rfl, rfl⟩
              go_wp2_with fail
              go_roundw
              case rel => exact ⟨j + 1, t, true, by omega, HT.out, rfl, rfl, by go_num, R5.out, K5.out⟩
              case measure => simp [intOf]; omega
        · obtain rfl : j = n := by omega
          go_wp2_with fail
          go_ret
          exact ⟨rfl, K3.out⟩
    · have g5 : ¬ (5000 : Int) < (s.size : Int) := by omega
      have g1 : (100 : Int) < (n : Int) := by omega
      go_enter Try.func5, Try.ntmps5
      go_wp2_with fail
      refine (awake_any _).mono ?_
      rintro e w1 ⟨rfl, k1⟩
      have K1 := Lib.hid k1
      clear k1
      go_wp2_with fail
      go_ret
      exact ⟨rfl, K1.out⟩
  · have g5 : (5000 : Int) < (s.size : Int) := by omega
    go_enter Try.func5, Try.ntmps5
    go_wp2_with fail
    refine (awake_any _).mono ?_
    rintro e w1 ⟨rfl, k1⟩
    have K1 := Lib.hid k1
    clear k1
    go_wp2_with fail
    go_ret
    exact ⟨rfl, K1.out⟩
end Go.Proofs.Ytblelfonnelglaa
