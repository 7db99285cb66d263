/- What the document's Take of layer 3 answers. No conditions beyond those written. -/
import Derived.Test.YtchflkibbdfeaaaCoP
namespace Go.Proofs.Ytchflkibbdfeaaa
open Go.RowKit Go.PlainAid
set_option linter.unusedSimpArgs false
set_option linter.unusedVariables false

theorem front_get {s : ByteArray} {n : Nat} {r : List UInt8} (h : s.data.toList = grp n ++ r) (i : Nat) (hi : i < (grp n).length) : bt s i = ((grp n)[i].toNat : Int) := by
  have hl : s.data.toList.length = s.size := by simp
  have hlt : i < s.size := by rw [← hl, h]; simp; omega
  rw [bt_list s i hlt]
  have : s.data.toList[i]'(by rw [hl]; exact hlt) = (grp n)[i] := by
    simp only [h]
    rw [List.getElem_append_left]
  rw [this]

set_option maxRecDepth 100000 in
set_option maxHeartbeats 2000000 in
theorem rtake_yes (s : ByteArray) (hs : s.size ≤ maxLen) (n : Nat) (hn : n < 18446744073709551616) (r : List UInt8) (h : s.data.toList = grp n ++ r) (w : World) :
    Calls Try.prog 60 #[.string s] w fun e w' => e = .returned (.tuple #[.int .u64 n, .int .i64 (grp n).length]) ∧ Below w.heap.size w w' := by
  unfold maxLen at hs
  have hr := Lib.hid (Below.refl w.heap.size w)
  have hb := get_bt s
  have L1 := grp_pos n
  have L10 := grp_len10 (n := n) (by omega)
  have hl : s.data.toList.length = s.size := by simp
  have hLs : (grp n).length ≤ s.size := by rw [← hl, h]; simp
  have HF : Hid (∀ i, i < (grp n).length → bt s i % 128 = ((n / 128 ^ i % 128 : Nat) : Int) ∧ (i + 1 < (grp n).length → 128 ≤ bt s i) ∧ (i + 1 = (grp n).length → bt s i < 128)) := Lib.hid (fun i hi => by
    have e := front_get h i hi
    have k := grp_get n i hi
    refine ⟨by omega, fun h2 => ?_, fun h2 => ?_⟩
    · have := k.2.1 h2; omega
    · have := k.2.2 h2; omega)
  have HX : Hid (s.extract 0 (grp n).length = ⟨(grp n).toArray⟩) := Lib.hid (by
    apply ByteArray.ext
    rw [ByteArray.data_extract]
    apply Array.toList_inj.1
    simp [Array.toList_extract, List.extract_eq_take_drop, h])
  have HT := Lib.hid (grp_top n)
  generalize hL : (grp n).length = L at *
  have HL := Lib.hid hL
  clear h hl hL
  go_enter Try.func60, Try.ntmps60
  go_wp2_with fail
  go_loop [4] (fun k => ∃ j : Nat, j < L ∧ k = .int .i64 ((j : Int) + 1)) (fun k => 11 - (intOf k).toNat)
  case atStart => exact ⟨0, by omega, rfl⟩
  case round =>
    obtain ⟨j, hj, rfl⟩ := hrel
    have b0 := bt_nonneg s j
    have b1 := bt_le s j
    by_cases hlast : j + 1 < L
    · have hge : 128 ≤ bt s j := (HF.out j hj).2.1 hlast
      go_wp2_with fail
      go_round
      case rel => exact ⟨j + 1, by omega, by go_num⟩
      case measure => simp [intOf]; omega
    · obtain rfl : L = j + 1 := by omega
      have hlt : bt s j < 128 := (HF.out j hj).2.2 rfl
      go_wp2_with fail
      go_loop [5, 6] (fun a i => ∃ m : Nat, m ≤ j + 1 ∧ i = .int .i64 ((m : Int) - 1) ∧ a = .int .u64 ((n / 128 ^ m : Nat) : Int)) (fun _ i => (intOf i + 1).toNat)
      case atStart => exact ⟨j + 1, by omega, by go_num, by rw [HT.out]; rfl⟩
      case round =>
        obtain ⟨m, hm, rfl, rfl⟩ := hrel
        cases m with
        | zero =>
          have e0 : n / 128 ^ 0 = n := by simp
          rw [e0]
          obtain ⟨st, hst⟩ : ∃ st : ByteArray, st = ⟨(grp n).toArray⟩ := ⟨_, rfl⟩
          have hx : s.extract 0 (j + 1) = st := HX.out.trans hst.symm
          have hG : ∀ w : World, Calls Try.prog 56 #[.int .u64 n] w fun e w' => e = .returned (.string st) ∧ Below w.heap.size w w' := by
            rw [hst]; exact groups_any n hn
          clear hst e0
          go_wp2_with fail
          go_region_with (go_at_call 56; refine (hG _).mono ?_; rintro e w1 ⟨rfl, hB1⟩)
          all_goals go_wp2_with fail
          all_goals go_ret2
          all_goals exact ⟨rfl, below_mono hr.out.drew hB1 (Nat.le_refl _)⟩
        | succ m =>
          have c0 := bt_nonneg s m
          have c1 := bt_le s m
          have hq : ((n / 128 ^ m : Nat) : Int) = 128 * ((n / 128 ^ (m + 1) : Nat) : Int) + bt s m % 128 := by
            have e := (HF.out m (by omega)).1
            have e3 : n / 128 ^ (m + 1) = n / 128 ^ m / 128 := by rw [Nat.pow_succ, Nat.div_div_eq_div_mul]
            rw [e3, e]
            omega
          have hqb : n / 128 ^ m ≤ n := Nat.div_le_self _ _
          have HQ := Lib.hid hq
          generalize hm0 : n / 128 ^ m = q at *
          have HM := Lib.hid hm0
          clear hm0
          generalize n / 128 ^ (m + 1) = q1 at *
          go_wp2_with fail
          go_round
          case rel => exact ⟨m, by omega, by go_num, by rw [HM.out, HQ.out]⟩
          case measure => simp [intOf]

set_option maxRecDepth 100000 in
set_option maxHeartbeats 2000000 in
theorem rtake_no (s : ByteArray) (hs : s.size ≤ maxLen) (h : ∀ n, n < 18446744073709551616 → ∀ r, s.data.toList ≠ grp n ++ r) (w : World) :
    Calls Try.prog 60 #[.string s] w fun e w' => e = .returned (.tuple #[.int .u64 0, .int .i64 0]) ∧ Below w.heap.size w w' := by
  unfold maxLen at hs
  have hr := Lib.hid (Below.refl w.heap.size w)
  have hb := get_bt s
  have HN : Hid (∀ n, n < 18446744073709551616 → ∀ k, ((⟨(grp n).toArray⟩ : ByteArray).toList == (s.extract 0 k).toList) = false) := Lib.hid (fun n hn k => by
    rw [Bool.eq_false_iff]
    intro e
    have e2 := eq_of_beq e
    refine h n hn (s.data.toList.drop k) ?_
    rw [ByteArray.toList_eq, ByteArray.toList_eq] at e2
    simp [ByteArray.data_extract, Array.toList_extract, List.extract_eq_take_drop] at e2
    rw [e2, List.take_append_drop])
  clear h
  go_enter Try.func60, Try.ntmps60
  go_wp2_with fail
  go_loop [4] (fun k => ∃ j : Nat, j ≤ 10 ∧ j ≤ s.size ∧ k = .int .i64 ((j : Int) + 1)) (fun k => 11 - (intOf k).toNat)
  case atStart => exact ⟨0, by omega, by omega, rfl⟩
  case round =>
    obtain ⟨j, hj, hjs, rfl⟩ := hrel
    have b0 := bt_nonneg s j
    have b1 := bt_le s j
    by_cases hend : j < 10 ∧ j < s.size
    · obtain ⟨hj1, hj2⟩ := hend
      by_cases hgo : 128 ≤ bt s j ∧ j < 9
      · obtain ⟨hg1, hg2⟩ := hgo
        go_wp2_with fail
        go_round
        case rel => exact ⟨j + 1, by omega, by omega, by go_num⟩
        case measure => simp [intOf]; omega
      · by_cases hg1 : 128 ≤ bt s j
        · obtain rfl : j = 9 := by omega
          go_wp2_with fail
          go_loop [5, 6] (fun a i => ∃ m acc : Nat, m ≤ 10 ∧ acc < 18446744073709551616 ∧ i = .int .i64 ((m : Int) - 1) ∧ a = .int .u64 (acc : Int)) (fun _ i => (intOf i + 1).toNat)
          case atStart => exact ⟨10, 0, by omega, by omega, by go_num, rfl⟩
          case round =>
            obtain ⟨m, acc, hm, hacc, rfl, rfl⟩ := hrel
            cases m with
            | zero =>
              obtain ⟨st, hst⟩ : ∃ st : ByteArray, st = ⟨(grp acc).toArray⟩ := ⟨_, rfl⟩
              have hx : (st.toList == (s.extract 0 (10)).toList) = false := by rw [hst]; exact HN.out acc hacc _
              have hG : ∀ w : World, Calls Try.prog 56 #[.int .u64 acc] w fun e w' => e = .returned (.string st) ∧ Below w.heap.size w w' := by
                rw [hst]; exact groups_any acc hacc
              clear hst
              go_wp2_with fail
              go_region_with (go_at_call 56; refine (hG _).mono ?_; rintro e w1 ⟨rfl, hB1⟩)
              all_goals go_wp2_with fail
              all_goals go_ret2
              all_goals first | exact ⟨rfl, below_mono hr.out.drew hB1 (Nat.le_refl _)⟩
            | succ m =>
              have c0 := bt_nonneg s m
              have c1 := bt_le s m
              go_wp2_with fail
              go_round
              case rel => exact ⟨m, ((128 * (acc : Int) + bt s m % 128) % 18446744073709551616).toNat, by omega, by omega, by go_num, by rw [show ((((128 * (acc : Int) + bt s m % 128) % 18446744073709551616).toNat : Nat) : Int) = (128 * (acc : Int) + bt s m % 128) % 18446744073709551616 by omega]; rw [IntKind.wrap_u64, IntKind.wrap_u64]; congr 1; omega⟩
              case measure => simp [intOf]
        · go_wp2_with fail
          go_loop [5, 6] (fun a i => ∃ m acc : Nat, m ≤ j + 1 ∧ acc < 18446744073709551616 ∧ i = .int .i64 ((m : Int) - 1) ∧ a = .int .u64 (acc : Int)) (fun _ i => (intOf i + 1).toNat)
          case atStart => exact ⟨j + 1, 0, by omega, by omega, by go_num, rfl⟩
          case round =>
            obtain ⟨m, acc, hm, hacc, rfl, rfl⟩ := hrel
            cases m with
            | zero =>
              obtain ⟨st, hst⟩ : ∃ st : ByteArray, st = ⟨(grp acc).toArray⟩ := ⟨_, rfl⟩
              have hx : (st.toList == (s.extract 0 (j + 1)).toList) = false := by rw [hst]; exact HN.out acc hacc _
              have hG : ∀ w : World, Calls Try.prog 56 #[.int .u64 acc] w fun e w' => e = .returned (.string st) ∧ Below w.heap.size w w' := by
                rw [hst]; exact groups_any acc hacc
              clear hst
              go_wp2_with fail
              go_region_with (go_at_call 56; refine (hG _).mono ?_; rintro e w1 ⟨rfl, hB1⟩)
              all_goals go_wp2_with fail
              all_goals go_ret2
              all_goals first | exact ⟨rfl, below_mono hr.out.drew hB1 (Nat.le_refl _)⟩
            | succ m =>
              have c0 := bt_nonneg s m
              have c1 := bt_le s m
              go_wp2_with fail
              go_round
              case rel => exact ⟨m, ((128 * (acc : Int) + bt s m % 128) % 18446744073709551616).toNat, by omega, by omega, by go_num, by rw [show ((((128 * (acc : Int) + bt s m % 128) % 18446744073709551616).toNat : Nat) : Int) = (128 * (acc : Int) + bt s m % 128) % 18446744073709551616 by omega]; rw [IntKind.wrap_u64, IntKind.wrap_u64]; congr 1; omega⟩
              case measure => simp [intOf]
    · by_cases hj1 : j < 10
      · obtain rfl : j = s.size := by omega
        go_wp2_with fail
        go_ret2
        exact ⟨rfl, hr.out⟩
      · obtain rfl : j = 10 := by omega
        go_wp2_with fail
        go_ret2
        exact ⟨rfl, hr.out⟩
end Go.Proofs.Ytchflkibbdfeaaa
