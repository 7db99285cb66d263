/- Bytes and runs of bytes, as the lexer and the document tell them. Conditions: those written at each theorem. -/
import Derived.Test.YthhimllddgfddaaHelp
import Derived.PlainAid
import Derived.LoopTactic
import Derived.BigGuard
import Derived.Deep.DeepCutAuto
import Derived.Deep.CutBlock
namespace Go.Proofs.Ythhimllddgfddaa
open Go.RowKit Go.PlainAid
set_option linter.unusedVariables false
set_option linter.unusedSimpArgs false
def isL (c : Int) : Bool := (decide (97 ≤ c) && decide (c ≤ 122)) || (decide (65 ≤ c) && decide (c ≤ 90))
def isD (c : Int) : Bool := decide (48 ≤ c) && decide (c ≤ 57)
def isF (c : Int) : Bool := isL c || isD c || decide (c = 95)
/-- How many first bytes are so. -/
def rn (p : Int → Bool) : List UInt8 → Nat
  | [] => 0
  | c :: l => if p (c.toNat : Int) then rn p l + 1 else 0
theorem rn_le (p : Int → Bool) : ∀ l, rn p l ≤ l.length
  | [] => Nat.le_refl _
  | c :: l => by
    unfold rn
    have := rn_le p l
    split <;> simp <;> omega
/-- Is a text a name? -/
def nmd (l : List UInt8) : Bool := match l with
  | [] => false
  | c :: r => decide (r.length < 16) && isL (c.toNat : Int) && decide (rn isF (c :: r) = (c :: r).length)
theorem bt_list {s : ByteArray} {l : List UInt8} {k : Nat} {c : UInt8} {r : List UInt8} (h : s.data.toList.drop k = c :: r) : bt s k = (c.toNat : Int) ∧ k < s.size ∧ s.data.toList.drop (k + 1) = r := by
  have hk : k < s.data.toList.length := by
    rcases Nat.lt_or_ge k s.data.toList.length with h1 | h1
    · exact h1
    · rw [List.drop_eq_nil_of_le h1] at h; cases h
  have hz : s.data.toList.length = s.size := by simp
  have hd := List.drop_eq_getElem_cons hk
  rw [h] at hd
  injection hd with e1 e2
  refine ⟨?_, by omega, e2.symm⟩
  rw [← get_bt s k (by omega), e1]
  simp
  rfl
set_option maxRecDepth 100000 in
set_option maxHeartbeats 4000000 in
theorem letter_any (c : Int) (w : World) : Calls Try.prog 67 #[.int .u8 c] w fun e w' => e = .returned (.bool (isL c)) ∧ w = w' := by
  obtain ⟨b, hb⟩ : ∃ b, b = isL c := ⟨_, rfl⟩
  rw [← hb]
  have HB := Lib.hid hb
  clear hb
  by_cases h1 : 97 ≤ c <;> by_cases h2 : c ≤ 122 <;> by_cases h3 : 65 ≤ c <;> by_cases h4 : c ≤ 90 <;> first | omega | (
    go_enter Try.func67, Try.ntmps67
    go_wp2_with fail
    go_ret
    exact ⟨by rw [HB.out]; simp [isL, h1, h2, h3, h4], rfl⟩)
set_option maxRecDepth 100000 in
set_option maxHeartbeats 4000000 in
theorem rletter_any (c : Int) (w : World) : Calls Try.prog 80 #[.int .u8 c] w fun e w' => e = .returned (.bool (isL c)) ∧ w = w' := by
  obtain ⟨b, hb⟩ : ∃ b, b = isL c := ⟨_, rfl⟩
  rw [← hb]
  have HB := Lib.hid hb
  clear hb
  by_cases h1 : 97 ≤ c <;> by_cases h2 : c ≤ 122 <;> by_cases h3 : 65 ≤ c <;> by_cases h4 : c ≤ 90 <;> first | omega | (
    go_enter Try.func80, Try.ntmps80
    go_wp2_with fail
    go_ret
    exact ⟨by rw [HB.out]; simp [isL, h1, h2, h3, h4], rfl⟩)
set_option maxRecDepth 100000 in
set_option maxHeartbeats 4000000 in
theorem digit_any (c : Int) (w : World) : Calls Try.prog 79 #[.int .u8 c] w fun e w' => e = .returned (.bool (isD c)) ∧ w = w' := by
  obtain ⟨b, hb⟩ : ∃ b, b = isD c := ⟨_, rfl⟩
  rw [← hb]
  have HB := Lib.hid hb
  clear hb
  by_cases h1 : 48 ≤ c <;> by_cases h2 : c ≤ 57 <;> first | omega | (
    go_enter Try.func79, Try.ntmps79
    go_wp2_with fail
    go_ret
    exact ⟨by rw [HB.out]; simp [isD, h1, h2], rfl⟩)
set_option maxRecDepth 100000 in
set_option maxHeartbeats 4000000 in
theorem further_any (c : Int) (w : World) : Calls Try.prog 69 #[.int .u8 c] w fun e w' => e = .returned (.bool (isF c)) ∧ w = w' := by
  by_cases h : c = 95
  · subst h
    have C1 := Lib.hid (letter_any 95)
    have C2 := Lib.hid (digit_any 95)
    rw [show isL 95 = false from by decide] at C1
    rw [show isD 95 = false from by decide] at C2
    rw [show isF 95 = true from by decide]
    go_enter Try.func69, Try.ntmps69
    go_wp2_with (first | (go_at_call 67; (with_reducible refine (C1.out _).mono ?_); rintro e w1 ⟨rfl, rfl⟩) | (go_at_call 79; (with_reducible refine (C2.out _).mono ?_); rintro e w2 ⟨rfl, rfl⟩))
    go_ret
    exact ⟨rfl, rfl⟩
  obtain ⟨a, ha⟩ : ∃ b, b = isL c := ⟨_, rfl⟩
  obtain ⟨b, hb⟩ : ∃ b, b = isD c := ⟨_, rfl⟩
  have C1 := Lib.hid (letter_any c)
  have C2 := Lib.hid (digit_any c)
  have HF : Hid (isF c = (a || b)) := Lib.hid (by unfold isF; rw [← ha, ← hb]; simp [h])
  rw [← ha] at C1
  rw [← hb] at C2
  rw [HF.out]
  clear ha hb HF
  cases a <;> cases b <;> (
    go_enter Try.func69, Try.ntmps69
    go_wp2_with (first | (go_at_call 67; (with_reducible refine (C1.out _).mono ?_); rintro e w1 ⟨rfl, rfl⟩) | (go_at_call 79; (with_reducible refine (C2.out _).mono ?_); rintro e w2 ⟨rfl, rfl⟩))
    go_ret
    exact ⟨by simp [h], rfl⟩)
set_option maxRecDepth 100000 in
set_option maxHeartbeats 4000000 in
theorem part_any (c : Int) (w : World) : Calls Try.prog 81 #[.int .u8 c] w fun e w' => e = .returned (.bool (isF c)) ∧ w = w' := by
  obtain ⟨a, ha⟩ : ∃ b, b = isL c := ⟨_, rfl⟩
  have C1 := Lib.hid (rletter_any c)
  have HF : Hid (isF c = (a || isD c || decide (c = 95))) := Lib.hid (by unfold isF; rw [← ha])
  rw [← ha] at C1
  rw [HF.out]
  clear ha HF
  by_cases h1 : 48 ≤ c <;> by_cases h2 : c ≤ 57 <;> cases a <;> first | omega | (
    have H1 := Lib.hid h1
    have H2 := Lib.hid h2
    go_enter Try.func81, Try.ntmps81
    go_wp2_with (go_at_call 80; (with_reducible refine (C1.out _).mono ?_); rintro e w1 ⟨rfl, rfl⟩)
    go_ret
    exact ⟨by have g1 := H1.out; have g2 := H2.out; (simp [isD, g1, g2, BEq.beq] <;> omega), rfl⟩)
set_option maxRecDepth 100000 in
set_option maxHeartbeats 2000000 in
/-- run, with further. -/
theorem run_any (s : ByteArray) (hs : s.size ≤ maxLen) (w : World) : Calls Try.prog 68 #[.string s, .func (.func 69) #[] #[]] w fun e w' => e = .returned (.int .i64 (rn isF s.data.toList)) ∧ w = w' := by
  obtain ⟨N, hN⟩ : ∃ N, N = rn isF s.data.toList := ⟨_, rfl⟩
  rw [← hN]
  have HN := Lib.hid hN
  have hs63 : s.size < 9223372036854775808 := by unfold maxLen at hs; omega
  have hb := get_bt s
  have hz : Hid (s.data.toList.length = s.size) := Lib.hid (by simp)
  clear hN hs
  go_enter Try.func68, Try.ntmps68
  go_upto_region 2 with fail
  go_loopw [5] (fun i wr => ∃ k : Nat, k ≤ s.size ∧ i = .int .i64 k ∧ Hid (N = k + rn isF (s.data.toList.drop k)) ∧ w = wr) (fun i _ => s.size - (intOf i).toNat)
  case atStart => exact ⟨0, by omega, rfl, Lib.hid (by rw [HN.out]; simp), rfl⟩
  case round =>
    obtain ⟨k, hk, rfl, HK, rfl⟩ := hrel
    by_cases hlt : k < s.size
    · have hlt2 : (k : Int) < (s.size : Int) := by omega
      have CF := Lib.hid (further_any (bt s k))
      obtain ⟨c, r, hd⟩ : ∃ c r, s.data.toList.drop k = c :: r := ⟨_, _, List.drop_eq_getElem_cons (by rw [hz.out]; exact hlt)⟩
      obtain ⟨q1, _, q2⟩ := bt_list (l := []) hd
      have HD : Hid (rn isF (s.data.toList.drop k) = if isF (bt s k) then rn isF (s.data.toList.drop (k + 1)) + 1 else 0) := Lib.hid (by rw [hd, q2, q1]; rfl)
      obtain ⟨b, hbb⟩ : ∃ b, b = isF (bt s k) := ⟨_, rfl⟩
      rw [← hbb] at CF HD
      clear hd q1 q2 hbb
      cases b with
      | false =>
        go_wp2_with (go_at_call 69; (with_reducible refine (CF.out _).mono ?_); rintro e w1 ⟨rfl, rfl⟩)
        go_ret
        exact ⟨by rw [HK.out, HD.out]; simp, rfl⟩
      | true =>
        go_wp2_with (go_at_call 69; (with_reducible refine (CF.out _).mono ?_); rintro e w1 ⟨rfl, rfl⟩)
        go_roundw
        case rel => exact ⟨k + 1, by omega, by go_num, Lib.hid (by rw [HK.out, HD.out]; simp; omega), trivial⟩
        case measure => simp [intOf]; omega
    · obtain rfl : k = s.size := by omega
      go_wp2_with fail
      go_ret
      exact ⟨by rw [HK.out, List.drop_of_length_le (by rw [hz.out]; exact Nat.le_refl _)]; simp [rn], rfl⟩
end Go.Proofs.Ythhimllddgfddaa
