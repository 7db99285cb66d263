/- The document's Named; the lexer's blanks. Conditions: those written at each theorem. -/
import Derived.Test.YthhimllddgfddaaLxB
namespace Go.Proofs.Ythhimllddgfddaa
open Go.RowKit Go.PlainAid
set_option linter.unusedVariables false
set_option linter.unusedSimpArgs false
set_option maxRecDepth 100000 in
set_option maxHeartbeats 2000000 in
theorem rnamed_any (s : ByteArray) (hs : s.size ≤ maxLen) (w : World) : Calls Try.prog 70 #[.string s] w fun e w' => e = .returned (.bool (nmd s.data.toList)) ∧ w = w' := by
  have hz : s.data.toList.length = s.size := by simp
  have hb := get_bt s
  have hs63 : s.size < 9223372036854775808 := by unfold maxLen at hs; omega
  by_cases h0 : s.size = 0
  · have HV : Hid (nmd s.data.toList = false) := Lib.hid (by rw [show s.data.toList = [] from List.eq_nil_of_length_eq_zero (by rw [hz]; exact h0)]; rfl)
    rw [HV.out]
    clear hb
    go_enter Try.func70, Try.ntmps70
    go_wp2_with fail
    go_ret
    exact ⟨rfl, rfl⟩
  have h1 : (1 : Int) ≤ (s.size : Int) := by omega
  obtain ⟨c, r, hd⟩ : ∃ c r, s.data.toList.drop 0 = c :: r := ⟨_, _, List.drop_eq_getElem_cons (by omega)⟩
  obtain ⟨q1, q3, q2⟩ := bt_list (l := []) hd
  rw [List.drop_zero] at hd
  have CL := Lib.hid (rletter_any (bt s 0))
  obtain ⟨a, ha⟩ : ∃ b, b = isL (bt s 0) := ⟨_, rfl⟩
  obtain ⟨N, hN⟩ : ∃ N, N = rn isF s.data.toList := ⟨_, rfl⟩
  have HV : Hid (nmd s.data.toList = (decide (s.size ≤ 16) && a && decide (N = s.size))) := Lib.hid (by
    rw [hN, ha, ← hz, hd, q1]
    unfold nmd
    simp only [List.length_cons]
    rw [show decide (r.length < 16) = decide (r.length + 1 ≤ 16) from by simp [Nat.lt_iff_add_one_le]])
  rw [← ha] at CL
  rw [HV.out]
  have HH := Lib.hid hN
  have HZ := Lib.hid hz
  clear hN ha hd q1 q2 HV h0 hz hs
  by_cases hl : (s.size : Int) ≤ 16
  · have HL : Hid (s.size ≤ 16) := Lib.hid (by omega)
    cases a with
    | false =>
      go_enter Try.func70, Try.ntmps70
      go_wp2_with (go_at_call 80; (with_reducible refine (CL.out _).mono ?_); rintro e w1 ⟨rfl, rfl⟩)
      go_ret
      exact ⟨by simp, rfl⟩
    | true =>
      go_enter Try.func70, Try.ntmps70
      go_wp2_with (go_at_call 80; (with_reducible refine (CL.out _).mono ?_); rintro e w1 ⟨rfl, rfl⟩)
      go_loopw [3] (fun i wr => ∃ k : Nat, k ≤ s.size ∧ i = .int .i64 k ∧ Hid (N = k + rn isF (s.data.toList.drop k)) ∧ w = wr) (fun i _ => s.size - (intOf i).toNat)
      case atStart => exact ⟨0, by omega, rfl, Lib.hid (by rw [HH.out]; simp), rfl⟩
      case round =>
        obtain ⟨k, hk, rfl, HK, rfl⟩ := hrel
        by_cases hlt : k < s.size
        · have hlt2 : (k : Int) < (s.size : Int) := by omega
          have CF := Lib.hid (part_any (bt s k))
          obtain ⟨c, r, hd⟩ : ∃ c r, s.data.toList.drop k = c :: r := ⟨_, _, List.drop_eq_getElem_cons (by rw [HZ.out]; exact hlt)⟩
          obtain ⟨q1, _, q2⟩ := bt_list (l := []) hd
          have HD : Hid (rn isF (s.data.toList.drop k) = if isF (bt s k) then rn isF (s.data.toList.drop (k + 1)) + 1 else 0) := Lib.hid (by rw [hd, q2, q1]; rfl)
          obtain ⟨b, hbb⟩ : ∃ b, b = isF (bt s k) := ⟨_, rfl⟩
          rw [← hbb] at CF HD
          clear hd q1 q2 hbb
          cases b with
          | false =>
            have HE : Hid (¬ N = s.size) := Lib.hid (by have := HK.out; rw [HD.out] at this; simp at this; omega)
            go_wp2_with (go_at_call 81; (with_reducible refine (CF.out _).mono ?_); rintro e w1 ⟨rfl, rfl⟩)
            go_ret
            exact ⟨by simp [HE.out], rfl⟩
          | true =>
            go_wp2_with (go_at_call 81; (with_reducible refine (CF.out _).mono ?_); rintro e w1 ⟨rfl, rfl⟩)
            go_roundw
            case rel => exact ⟨k + 1, by omega, by go_num, Lib.hid (by rw [HK.out, HD.out]; simp; omega), trivial⟩
            case measure => simp [intOf]; omega
        · obtain rfl : k = s.size := by omega
          have HE : Hid (N = s.size) := Lib.hid (by rw [HK.out, List.drop_of_length_le (by rw [HZ.out]; exact Nat.le_refl _)]; simp [rn])
          go_wp2_with fail
          go_ret
          exact ⟨by simp [HE.out, HL.out], rfl⟩
  · have HL : Hid (¬ s.size ≤ 16) := Lib.hid (by omega)
    go_enter Try.func70, Try.ntmps70
    go_wp2_with fail
    go_ret
    exact ⟨by simp [HL.out], rfl⟩
/-- Blanks: whether a remark runs behind a byte; whether the byte is one. -/
def br (r : Bool) (c : Int) : Bool := if c = 10 then false else (r || decide (c = 35))
def bk (r : Bool) (c : Int) : Bool := decide (c = 10) || r || decide (c = 35) || decide (c = 32) || decide (c = 9)
def bl : Bool → List UInt8 → Nat
  | _, [] => 0
  | r, c :: l => if bk r (c.toNat : Int) then bl (br r (c.toNat : Int)) l + 1 else 0
theorem bl_le : ∀ (l : List UInt8) (r : Bool), bl r l ≤ l.length
  | [], _ => Nat.le_refl _
  | c :: l, r => by
    unfold bl
    have := bl_le l (br r (c.toNat : Int))
    split <;> simp <;> omega
def RemAt (q : Nat) (r : Bool) (w : World) : Prop := w.heap[q]? = some (.cells #[.bool r] 4 (0, 0))
theorem RemAt.set {q : Nat} {r : Bool} {w : World} (h : RemAt q r w) (b : Bool) : RemAt q b (w.setCell ⟨q, 0, none⟩ (.bool b)) := heap_set_at (i := 0) (.bool b) h
theorem only_set {b i : Nat} {w0 w : World} {v : Value} (h : w0.grownBy w (some b)) : w0.grownBy (w.setCell ⟨b, i, none⟩ v) (some b) :=
  ⟨h.os, h.tape, h.output, by simpa [World.setCell] using h.size, fun k hk hne => (Below.heap_setCell _ _ _ _ (by exact fun e => hne (by rw [e]))).trans (h.block k hk hne)⟩
theorem only_trans {b : Nat} {w w1 w2 : World} (h : w.grownBy w1 (some b)) (k : w1.grownBy w2 (some b)) : w.grownBy w2 (some b) :=
  ⟨k.os.trans h.os, k.tape.trans h.tape, k.output.trans h.output, Nat.le_trans h.size k.size, fun i hi hne => (k.block i (Nat.lt_of_lt_of_le hi h.size) hne).trans (h.block i hi hne)⟩
end Go.Proofs.Ythhimllddgfddaa
