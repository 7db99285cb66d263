/- The law CrcPatterns walked: bytes that were turned by the pattern a5, any many side by side, have another sum. No conditions but that the table stands there. -/
import Derived.Test.YtblelfonnelglaaDoorLCrc1
import Derived.Test.YtblelfonnelglaaDoorCrcP
import Derived.Test.YtblelfonnelglaaDoorCrcY
namespace Go.Proofs.YtblelfonnelglaaDoor
open Go.RowKit
set_option linter.unusedSimpArgs false
set_option linter.unusedVariables false

/-- Bytes of which so many, from a place on, are turned. -/
def patl (l : List UInt8) (k j : Nat) : List UInt8 := List.zipWith (· ^^^ ·) l (Crc.mask k j (l.length - k - j))
theorem mask_len (k j r : Nat) : (Crc.mask k j r).length = k + j + r := by simp [Crc.mask]; omega
theorem mask_get (k j r i : Nat) (h : i < k + j + r) : (Crc.mask k j r)[i]'(by rw [mask_len]; exact h) = if k ≤ i ∧ i < k + j then 0xa5 else 0 := by
  unfold Crc.mask
  simp only [List.getElem_append, List.length_append, List.length_replicate, List.getElem_replicate]
  split
  · split
    · rw [if_neg (by omega)]
    · rw [if_pos (by omega)]
  · rw [if_neg (by omega)]
theorem patl_len (l : List UInt8) (k j : Nat) (h : k + j ≤ l.length) : (patl l k j).length = l.length := by
  unfold patl; rw [List.length_zipWith, mask_len]; omega
theorem patl_get (l : List UInt8) (k j i : Nat) (h : k + j ≤ l.length) (hi : i < l.length) : (patl l k j)[i]'(by rw [patl_len l k j h]; exact hi) = l[i] ^^^ (if k ≤ i ∧ i < k + j then 0xa5 else 0) := by
  unfold patl
  rw [List.getElem_zipWith, mask_get _ _ _ _ (by omega)]
theorem patl_zero (l : List UInt8) (k : Nat) (h : k ≤ l.length) : patl l k 0 = l := by
  apply List.ext_getElem (patl_len l k 0 (by omega))
  intro i h1 h2
  rw [patl_get l k 0 i (by omega) h2, if_neg (by omega)]; simp
theorem patl_succ (l : List UInt8) (k j : Nat) (h : k + j < l.length) : patl l k (j + 1) = (patl l k j).set (k + j) (l[k + j] ^^^ 0xa5) := by
  apply List.ext_getElem
  · rw [List.length_set, patl_len l k (j + 1) (by omega), patl_len l k j (by omega)]
  · intro i h1 h2
    rw [patl_len l k (j + 1) (by omega)] at h1
    rw [patl_get l k (j + 1) i (by omega) h1, List.getElem_set]
    by_cases e : k + j = i
    · subst e; simp
    · rw [if_neg e, patl_get l k j i (by omega) h1]
      congr 1
      by_cases h3 : k ≤ i ∧ i < k + j
      · rw [if_pos h3, if_pos (by omega)]
      · rw [if_neg h3, if_neg (by omega)]
theorem patl_sum (l : List UInt8) (k m : Nat) (h : k + m ≤ l.length) (h1 : 1 ≤ m) (h2 : m ≤ 2000) : wi (sm (patl l k m)) ≠ wi (sm l) := by
  intro e
  have e2 : sm (patl l k m) = sm l := by
    unfold wi at e
    exact BitVec.eq_of_toNat_eq (by omega)
  exact Crc.more_diff l (Crc.mask k m (l.length - k - m)) (by rw [mask_len]; omega) (Crc.mask_ne _ _ _ h1 h2) 0#32 e2
theorem xor_a5 (c : UInt8) : bits .xor .u8 (c.toNat : Int) 165 = (((c ^^^ 0xa5).toNat : Nat) : Int) := by
  have := c.toNat_lt
  rw [show (165 : Int) = ((165 : Nat) : Int) by rfl, u8_xor_nat _ _ (by omega) (by omega), UInt8.toNat_xor]
  rfl
theorem umod (a : Int) (n : Nat) (h : 1 ≤ n) : ∃ k : Nat, (IntKind.u64.wrap a).tmod (n : Int) = (k : Int) ∧ k < n := by
  have hp : 0 ≤ IntKind.u64.wrap a := by rw [IntKind.wrap_u64]; omega
  obtain ⟨A, hA⟩ := Int.eq_ofNat_of_zero_le hp
  rw [hA]
  exact ⟨A % n, by rw [Int.tmod_eq_emod_of_nonneg (by omega)]; rfl, Nat.mod_lt _ (by omega)⟩
set_option maxRecDepth 100000 in
set_option maxHeartbeats 4000000 in
theorem patterns_long (s : ByteArray) (at_ n : Int) (h1 : 1 ≤ s.size) (hs : s.size ≤ 2000) (w : World) (hT : TabAt w) :
    Calls Tryd.prog 7 #[.string s, .int .i64 at_, .int .i64 n] w fun e w' => e = .returned (.bool true) ∧ Below w.heap.size w w' := by
  have T0 := Lib.hid hT
  have K0 := Lib.hid (Below.refl w.heap.size w)
  have hcb := str_bytes
  obtain ⟨k, hk, hk1⟩ := umod at_ s.size h1
  obtain ⟨m, hm, hm1⟩ := umod n (s.size - k) (by omega)
  have ed : ((s.size - k : Nat) : Int) = (s.size : Int) - (k : Int) := by omega
  rw [ed] at hm
  have e0 : ((s.size : Int) == 0) = false := by rw [beq_eq_false_iff_ne]; omega
  have e1 : ((s.size : Int) - (k : Int) == 0) = false := by rw [beq_eq_false_iff_ne]; omega
  clear hT ed
  go_enter Tryd.func7, Tryd.ntmps7
  go_wp2_with fail
  have hl : s.data.toList.length = s.size := by simp
  have HL := Lib.hid hl
  clear hk hm e0 e1 hl
  go_loopw [10] (fun i wr => ∃ x : Nat, k ≤ x ∧ x ≤ k + (1 + m) ∧ i = .int .i64 x ∧ Bts w.heap.size (patl s.data.toList k (x - k)) wr ∧ Below w.heap.size w wr) (fun i _ => k + (1 + m) - (intOf i).toNat)
  case atStart => exact ⟨k, by omega, by omega, rfl, by rw [Nat.sub_self, patl_zero _ _ (by rw [HL.out]; omega)]; exact Bts.of_str w s, bytesWorld_below w s⟩
  case round =>
    clear hcb
    obtain ⟨x, hx1, hx2, rfl, hbt, hbe⟩ := hrel
    by_cases hlt : x < k + (1 + m)
    · have hx3 : x < s.size := by omega
      have hpl : (patl s.data.toList k (x - k)).length = s.size := by rw [patl_len _ _ _ (by rw [HL.out]; omega), HL.out]
      obtain ⟨c, hc, c0⟩ : ∃ c : UInt8, Hid (c = s.data.toList[x]'(by rw [HL.out]; exact hx3)) ∧ wr.cell? ⟨w.heap.size, x, none⟩ = some (.int .u8 c.toNat) := by
        refine ⟨_, Lib.hid rfl, ?_⟩
        have := hbt.cell x (by rw [hpl]; exact hx3)
        rw [patl_get _ _ _ _ (by rw [HL.out]; omega) (by rw [HL.out]; exact hx3), if_neg (by omega)] at this
        simpa using this
      have f0 := hbt.frozen x (by rw [hpl]; exact hx3)
      have ex := xor_a5 c
      have HBT := Lib.hid hbt
      have HBE := Lib.hid hbe
      have HPL := Lib.hid hpl
      clear hbt hbe hpl
      go_wp2_with fail
      go_roundw
      case rel => exact ⟨x + 1, by omega, by omega, by go_num, HBT.out.set (c := c ^^^ 0xa5) (by rw [HPL.out]; exact hx3) (by
        have e := patl_succ s.data.toList k (x - k) (by rw [HL.out]; omega)
        have e2 : k + (x - k) = x := by omega
        rw [show x + 1 - k = x - k + 1 by omega, e]
        simp only [e2, hc.out]) rfl, HBE.out.setCell (p := ⟨w.heap.size, x, none⟩) (Nat.le_refl _) _⟩
      case measure => simp [intOf]; omega
    · obtain rfl : x = k + (1 + m) := by omega
      have hbs := bytes_str hbt s.size (grownCap w s.size 0 5) (by rw [patl_len _ _ _ (by rw [HL.out]; omega), HL.out])
      have hq1 : k + (1 + m) - k = 1 + m := by omega
      rw [hq1] at hbs
      obtain ⟨t, ht⟩ : ∃ t : ByteArray, t = bstr (patl s.data.toList k (1 + m)) := ⟨_, rfl⟩
      have htz : t.size = s.size := by rw [ht, bstr_size, patl_len _ _ _ (by rw [HL.out]; omega), HL.out]
      have hne : (wi (sm t.data.toList) == wi (sm s.data.toList)) = false ∧ (wi (sm t.data.toList) != wi (sm s.data.toList)) = true := by
        have := patl_sum s.data.toList k (1 + m) (by rw [HL.out]; omega) (by omega) (by omega)
        rw [ht, bstr_list]; simp [this]
      rw [← ht] at hbs
      have G1 := Lib.hid (fun w hT => sum_any t w (by unfold maxLen; omega) hT)
      have G2 := Lib.hid (fun w hT => sum_any s w (by unfold maxLen; omega) hT)
      obtain ⟨u, hu⟩ : ∃ u, u = wi (sm t.data.toList) := ⟨_, rfl⟩
      obtain ⟨v, hv⟩ : ∃ v, v = wi (sm s.data.toList) := ⟨_, rfl⟩
      rw [← hu] at hne G1
      rw [← hv] at hne G2
      obtain ⟨hne1, hne2⟩ := hne
      have J0 := Lib.hid hbe
      have TT := Lib.hid (T0.out.next hbe)
      clear hbt hbe ht htz hq1 hu hv
      go_wp2_with fail
      refine (G1.out _ TT.out).mono ?_
      rintro e w1 ⟨rfl, k1⟩
      have K1 := Lib.hid (below_mono J0.out k1 (Nat.le_refl _))
      have T1 := Lib.hid (T0.out.next K1.out)
      clear k1
      go_wp2_with fail
      refine (G2.out _ T1.out).mono ?_
      rintro e w2 ⟨rfl, k2⟩
      have K2 := Lib.hid (below_mono K1.out k2 (Nat.le_refl _))
      have T2 := Lib.hid (T0.out.next K2.out)
      clear k2
      go_wp2_with fail
      refine (awake_any _ T2.out).mono ?_
      rintro e w3 ⟨rfl, k3⟩
      have K3 := Lib.hid (below_mono K2.out k3 (Nat.le_refl _))
      have T3 := Lib.hid (T0.out.next K3.out)
      clear k3
      go_wp2_with fail
      go_ret
      exact ⟨rfl, K3.out⟩
theorem crcPatterns_walk (s : ByteArray) (at_ n : Int) (w0 : s.size ≤ maxLen) (w1 : (Lit.int .i64 at_).wf = true) (w2 : (Lit.int .i64 n).wf = true) (w : World) (hT : TabAt w) :
    Calls Tryd.prog 7 #[.string s, .int .i64 at_, .int .i64 n] w fun e w' => e = .returned (.bool true) ∧ Below w.heap.size w w' := by
  by_cases h : 1 ≤ s.size ∧ s.size ≤ 2000
  · exact patterns_long s at_ n h.1 h.2 w hT
  · have T0 := Lib.hid hT
    have K0 := Lib.hid (Below.refl w.heap.size w)
    unfold maxLen at w0
    clear hT w1 w2
    by_cases hz : s.size = 0
    · have e0 : ((s.size : Int) == 0) = true := by rw [beq_iff_eq]; omega
      clear hz h
      go_enter Tryd.func7, Tryd.ntmps7
      go_wp2_with fail
      refine (awake_any _ T0.out).mono ?_
      rintro e w1 ⟨rfl, k1⟩
      have K1 := Lib.hid (below_mono K0.out k1 (Nat.le_refl _))
      have T1 := Lib.hid (T0.out.next K1.out)
      clear k1
      go_wp2_with fail
      go_ret
      exact ⟨rfl, K1.out⟩
    · have e0 : ((s.size : Int) == 0) = false := by rw [beq_eq_false_iff_ne]; omega
      have e1 : decide (2000 < (s.size : Int)) = true := by simp; omega
      clear hz h
      go_enter Tryd.func7, Tryd.ntmps7
      go_wp2_with fail
      refine (awake_any _ T0.out).mono ?_
      rintro e w1 ⟨rfl, k1⟩
      have K1 := Lib.hid (below_mono K0.out k1 (Nat.le_refl _))
      have T1 := Lib.hid (T0.out.next K1.out)
      clear k1
      go_wp2_with fail
      go_ret
      exact ⟨rfl, K1.out⟩
end Go.Proofs.YtblelfonnelglaaDoor
