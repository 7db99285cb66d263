/- What the document's Print of a number answers. Conditions: those written at each theorem. -/
import Derived.Test.YtkfkoopfoiekoaaDoorAmP
import Derived.Test.YtkfkoopfoiekoaaDoorNuS
import Derived.Deep.LoopGhost
import Derived.Deep.DeepCutAuto
import Derived.Deep.CutBlock
import Derived.Deep.RegionWith
import Derived.BigGuard
import Derived.LoopTactic
namespace Go.Proofs.YtkfkoopfoiekoaaDoor
open Go.RowKit Go.Sort
/-- What is answered of an amount. -/
def amtV (o : Option Int) : Value := match o with
  | some x => .tuple #[.int .i64 x, .bool true]
  | none => .tuple #[.int .i64 0, .bool false]
theorem ret_text {x : ByteArray} {l : List UInt8} (h : x.data.toList = l) : Ending.returned (.string x) = .returned (.string ⟨l.toArray⟩) := by
  subst h; rfl
/-- A text in memory's form. -/
abbrev bs (l : List UInt8) : ByteArray := ⟨l.toArray⟩
set_option linter.unusedSimpArgs false
set_option linter.unusedVariables false

/-- What stands there when i digits have been laid. -/
def dS (m d i : Nat) : List UInt8 := if i ≤ d then rt i m else rt (i - d) (m / 10 ^ d) ++ if d = 0 then [] else 46 :: rt d m
theorem dS_low {m d i : Nat} (h : i < d) : dS m d (i + 1) = Lib.dg m i :: dS m d i := by
  unfold dS; rw [if_pos (by omega), if_pos (by omega), rt]
theorem dS_zero {m i : Nat} : dS m 0 (i + 1) = Lib.dg m i :: dS m 0 i := by
  unfold dS
  rw [if_neg (by omega)]
  simp only [Nat.sub_zero, Nat.pow_zero, Nat.div_one, if_true, List.append_nil]
  split
  · obtain rfl : i = 0 := by omega
    rfl
  · rfl
theorem dS_at {m d : Nat} (h : 0 < d) : dS m d (d + 1) = Lib.dg m d :: 46 :: dS m d d := by
  have e1 : ¬ d + 1 ≤ d := by omega
  have e2 : ¬ d = 0 := by omega
  simp only [dS, e1, e2, Nat.le_refl, if_true, if_false]
  rw [show d + 1 - d = 0 + 1 by omega, rt, ← dg_add]
  simp [rt]
theorem dS_high {m d i : Nat} (h : d < i) : dS m d (i + 1) = Lib.dg m i :: dS m d i := by
  have e1 : ¬ i + 1 ≤ d := by omega
  have e2 : ¬ i ≤ d := by omega
  simp only [dS, e1, e2, if_false]
  rw [show i + 1 - d = (i - d) + 1 by omega, rt, ← dg_add, show i - d + d = i by omega]
  rfl
theorem dS_end (m d : Nat) : dS m d (wide m d) = body m d := by
  have := wide_le m d
  unfold dS body
  rw [if_neg (by omega)]
theorem dS_len (m d i : Nat) (hi : i ≤ 30) (hd : d ≤ 9) : (dS m d i).length ≤ 50 := by
  unfold dS
  split
  · rw [rt_len]; omega
  · rw [List.length_append, rt_len]
    split
    · simp; omega
    · simp [rt_len]; omega
theorem one_byte (w : World) (c : Int) : (convert 76 9 (.slice (some ⟨w.heap.size, 0, none⟩) 1 1)).run Tryd.prog (w.alloc (.cells #[.int .u8 c] 5)) = .ok (.string (strOfNums [c])) (w.alloc (.cells #[.int .u8 c] 5)) :=
  run_convert_bytes_arg (P := Tryd.prog) _ 76 5 Tryd.underlying76 Tryd.underlying5 w.heap.size 0 1 1 [c] rfl (fun i hi => by
    obtain rfl : i = 0 := by omega
    simp) _ Tryd.underlying9
theorem byte_cons (m i : Nat) (l : List UInt8) (c : Int) (h : c = ((48 + m / 10 ^ i % 10 : Nat) : Int)) : strOfNums [c] ++ (⟨l.toArray⟩ : ByteArray) = ⟨(Lib.dg m i :: l).toArray⟩ := by
  subst h
  unfold Lib.dg
  generalize 48 + m / 10 ^ i % 10 = x
  apply ByteArray.ext
  simp [strOfNums, ByteArray.append_eq, ByteArray.append]
set_option maxRecDepth 100000 in
set_option maxHeartbeats 1000000 in
theorem rprint_any (n : Int) (d : Nat) (h0 : -9223372036854775808 ≤ n) (h1 : n ≤ 9223372036854775807) (hd : d ≤ 9) (w : World) :
    Calls Tryd.prog 37 #[.int .i64 n, .int .i64 d] w fun e w' => e = .returned (.string (bs (txt n d))) ∧ Below w.heap.size w w' := by
  obtain ⟨m, hm⟩ : ∃ m, m = n.natAbs := ⟨_, rfl⟩
  have hw30 : wide m d ≤ 30 := by unfold wide; have : Lib.nDigits m ≤ 20 := nDigits_le (by omega) (by omega); omega
  obtain ⟨M, hM⟩ : ∃ M : Int, M = m := ⟨_, rfl⟩
  have HM := Lib.hid hm
  have HMM : Hid (M = m ∧ m ≤ 9223372036854775808) := Lib.hid ⟨hM, by omega⟩
  have K0 := Lib.hid (Below.refl w.heap.size w)
  have hcv := one_byte
  have hW := wide_le m d
  clear hm
  obtain ⟨q, hq⟩ : ∃ q : Bool, decide (n < 0) = q := ⟨_, rfl⟩
  have E1 : q = true → IntKind.u64.wrap (-IntKind.u64.wrap n) = M := fun h => by
    have h' := HM.out; rw [← hq] at h; have := of_decide_eq_true h; rw [IntKind.wrap_u64, IntKind.wrap_u64]; omega
  have E2 : q = false → IntKind.u64.wrap n = M := fun h => by
    have h' := HM.out; rw [← hq] at h; have := of_decide_eq_false h; rw [IntKind.wrap_u64]; omega
  have HFin : Hid ((if q = true then [45] else []) ++ dS m d (wide m d) = txt n d) := Lib.hid (by
    rw [dS_end, HM.out, ← hq]; unfold txt; simp)
  clear hM h0 h1
  go_enter Tryd.func37, Tryd.ntmps37
  go_upto_if 11 with fail
  go_cut [5] (fun v wx => v = .int .u64 M ∧ w = wx)
  case first =>
    cases q with
    | true =>
      have e := E1 rfl
      have hn : n < 0 := of_decide_eq_true hq
      clear E1 E2 hq
      go_wp2_with fail
      go_meet
      exact ⟨rfl, rfl⟩
    | false =>
      have e := E2 rfl
      have hn : ¬ n < 0 := of_decide_eq_false hq
      clear E1 E2 hq
      go_wp2_with fail
      go_meet
      exact ⟨rfl, rfl⟩
  case rest =>
    obtain ⟨rfl, rfl⟩ := hcut
    clear E1 E2
    go_wp2_with fail
    go_loopw [5, 6, 7] (fun u v i wr => ∃ (j : Nat) (U : Int) (s : ByteArray), j ≤ wide m d ∧ i = .int .i64 j ∧ u = .int .u64 U ∧ v = .string s ∧ Hid (U = ((m / 10 ^ j : Nat) : Int)) ∧ Hid (s = ⟨(dS m d j).toArray⟩) ∧ Hid (Below w.heap.size w wr)) (fun _ _ i _ => wide m d - (intOf i).toNat)
    case atStart => exact ⟨0, M, ⟨#[]⟩, by omega, rfl, rfl, rfl, Lib.hid (by rw [HMM.out.1]; simp), Lib.hid (by simp [dS, rt]), K0⟩
    case round =>
      obtain ⟨j, U, s, hj, rfl, rfl, rfl, HU, HS, HB⟩ := hrel
      clear K0
      have hU : 0 ≤ U := by rw [HU.out]; exact Int.natCast_nonneg _
      have hss : s.size ≤ 50 := by rw [HS.out]; show (dS m d j).toArray.size ≤ 50; have := dS_len m d j (by omega) hd; simpa using this
      by_cases hc : j ≤ d ∨ 0 < U
      · have hj2 : j + 1 ≤ wide m d := by
          rcases hc with h | h
          · omega
          · have h1 : 1 ≤ m / 10 ^ j := by rw [HU.out] at h; exact Int.ofNat_lt.1 h
            have h2 : 10 ^ j ≤ m := by
              rcases Nat.lt_or_ge m (10 ^ j) with hl | hg
              · rw [Nat.div_eq_of_lt hl] at h1; omega
              · exact hg
            rcases Nat.lt_or_ge j (Lib.nDigits m) with hl | hg
            · unfold wide; omega
            · have := Lib.lt_pow_nDigits m
              have := Nat.pow_le_pow_right (show 10 > 0 by omega) hg
              omega
        obtain ⟨R, hR⟩ : ∃ R : Int, U % 10 = R := ⟨_, rfl⟩
        obtain ⟨C, hC⟩ : ∃ C : Int, 48 + R = C := ⟨_, rfl⟩
        obtain ⟨U2, hU2⟩ : ∃ U2 : Int, U / 10 = U2 := ⟨_, rfl⟩
        have hR2 : U.tmod 10 = R := by rw [← hR]; exact Int.tmod_eq_emod_of_nonneg hU
        have hU3 : U.tdiv 10 = U2 := by rw [← hU2]; exact Int.tdiv_eq_ediv_of_nonneg hU
        have w1 : IntKind.u64.wrap C = C := by rw [IntKind.wrap_u64]; omega
        have w2 : IntKind.u8.wrap C = C := by rw [IntKind.wrap_u8]; omega
        have w3 : IntKind.u64.wrap U2 = U2 := by
          have h1 := HU.out
          have h2 : m / 10 ^ j ≤ m := Nat.div_le_self _ _
          have h3 := HMM.out.2
          have h4 : U ≤ m := by rw [h1]; exact Int.ofNat_le.2 h2
          rw [IntKind.wrap_u64]; omega
        have HC : Hid (C = ((48 + m / 10 ^ j % 10 : Nat) : Int)) := Lib.hid (by rw [← hC, ← hR, HU.out]; omega)
        have HU2 : Hid (U2 = ((m / 10 ^ (j + 1) : Nat) : Int)) := Lib.hid (by rw [← hU2, HU.out, Nat.pow_succ, ← Nat.div_div_eq_div_mul]; omega)
        have hsc : (strOfNums [C]).size = 1 := by simp [strOfNums, ByteArray.size]
        have fin : ∀ s', s' = strOfNums [C] ++ (⟨(if j = d ∧ 0 < d then 46 :: dS m d j else dS m d j).toArray⟩ : ByteArray) → s' = ⟨(dS m d (j + 1)).toArray⟩ := fun s' h => by
          rw [h, byte_cons m j _ C HC.out]
          by_cases hjd : j = d ∧ 0 < d
          · rw [if_pos hjd]
            obtain ⟨rfl, h0⟩ := hjd
            rw [dS_at h0]
          · rw [if_neg hjd]
            by_cases h0 : d = 0
            · subst h0; rw [dS_zero]
            · rcases Nat.lt_trichotomy j d with hl | he | hg
              · rw [dS_low hl]
              · exact absurd ⟨he, by omega⟩ hjd
              · rw [dS_high hg]
        have HF := Lib.hid fin
        clear fin
        by_cases hjd : j = d ∧ 0 < d
        · obtain ⟨rfl, hd0⟩ := hjd
          have hd1 : (0 : Int) < (j : Int) := by omega
          go_wp2_with fail
          go_roundw
          case rel =>
            refine ⟨j + 1, U2, _, hj2, by go_num, rfl, rfl, HU2, Lib.hid (HF.out _ ?_), Lib.hid (HB.out.alloc HB.out.size _)⟩
            rw [if_pos ⟨rfl, hd0⟩, HS.out]
            congr 1
          case measure => simp [intOf]; omega
        · have hb : (((j : Int) == (d : Int)) && decide (0 < d)) = false := by
            rw [Bool.and_eq_false_iff, beq_eq_false_iff_ne, decide_eq_false_iff_not]
            omega
          have H1 : Hid (∀ s', s' = strOfNums [C] ++ s → s' = ⟨(dS m d (j + 1)).toArray⟩) := Lib.hid (fun s' h => HF.out s' (by rw [h, HS.out, if_neg hjd]))
          have cs : (((j : Int) == (d : Int)) = false) ∨ (((j : Int) == (d : Int)) = true ∧ ¬ (0 : Int) < (d : Int)) := by
            by_cases h : j = d
            · exact .inr ⟨by simp [h], by omega⟩
            · exact .inl (by rw [beq_eq_false_iff_ne]; omega)
          clear hb hjd HF
          rcases hc with hc | hc <;> rcases cs with cs | ⟨cs, cs2⟩
          all_goals
            go_wp2_with fail
            all_goals
              go_roundw
              case rel => exact ⟨j + 1, U2, _, hj2, by go_num, rfl, rfl, HU2, Lib.hid (H1.out _ rfl), Lib.hid (HB.out.alloc HB.out.size _)⟩
              case measure => simp [intOf]; omega
      · have c1 : ¬ (j : Int) ≤ (d : Int) := by omega
        have c2 : ¬ (0 : Int) < U := by omega
        have hjw : j = wide m d := by
          have h1 : m / 10 ^ j = 0 := by
            have h2 := HU.out
            have h3 : U = 0 := by omega
            rw [h2] at h3
            exact Int.ofNat_eq_zero.1 h3
          have h4 : m < 10 ^ j := by
            rcases Nat.lt_or_ge m (10 ^ j) with hl | hg
            · exact hl
            · have := Nat.div_pos hg (Nat.pow_pos (by omega)); omega
          have h5 := nDigits_le (m := m) (k := j) (by omega) h4
          unfold wide at hj ⊢
          omega
        have HJ := Lib.hid hjw
        clear hjw hc
        cases q with
        | true =>
          have hn : n < 0 := of_decide_eq_true hq
          clear hq
          go_wp2_with fail
          go_ret
          refine ⟨ret_text ?_, HB.out⟩
          rw [← HFin.out, HS.out, HJ.out]
          simp
        | false =>
          have hn : ¬ n < 0 := of_decide_eq_false hq
          clear hq
          go_wp2_with fail
          go_ret
          refine ⟨ret_text ?_, HB.out⟩
          rw [← HFin.out, HS.out, HJ.out]
          simp
end Go.Proofs.YtkfkoopfoiekoaaDoor
