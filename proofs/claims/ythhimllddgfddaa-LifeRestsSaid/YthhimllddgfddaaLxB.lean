/- Names and blanks, as the lexer and the document tell them. Conditions: those written at each theorem. -/
import Derived.Test.YthhimllddgfddaaLxA
import Derived.Below
namespace Go.Proofs.Ythhimllddgfddaa
open Go.RowKit Go.PlainAid
set_option linter.unusedVariables false
set_option linter.unusedSimpArgs false
theorem lt_of_heap {w : World} {k : Nat} {o : Obj} (h : w.heap[k]? = some o) : k < w.heap.size := (Array.getElem?_eq_some_iff.1 h).1
theorem cell_blk {w : World} {k : Nat} {cs : Array Value} {t : TypeId} (h : w.heap[k]? = some (.cells cs t (0, 0))) (i : Nat) : w.cell? ⟨k, i, none⟩ = cs[i]? := by simp [World.cell?, h]
theorem free_blk {w : World} {k : Nat} {cs : Array Value} {t : TypeId} (h : w.heap[k]? = some (.cells cs t (0, 0))) (i : Nat) : w.frozen? ⟨k, i, none⟩ = false := by simp [World.frozen?, h]
theorem wp_letter {P : Program} {c : Code} {Q : Exit → Act → World → Prop} {a : Act} {w : World} (S : World → Prop) (hs : S w) (h : ∀ W, S W → c.wp P Q a W) : c.wp P Q a w := h w hs
theorem heap_set_at {w : World} {b i : Nat} {cs : Array Value} {T : TypeId} (u : Value) (hb : w.heap[b]? = some (.cells cs T (0, 0))) : (w.setCell ⟨b, i, none⟩ u).heap[b]? = some (.cells (cs.setIfInBounds i u) T (0, 0)) := by
  simp [World.setCell, Array.getElem?_modify, hb]
theorem isEmpty_false {s : ByteArray} (h : s.size ≠ 0) : s.toList.isEmpty = false := by
  rw [ByteArray.toList_eq]
  cases e : s.data.toList with
  | nil => exact absurd (by rw [← ByteArray.size_data, ← Array.length_toList, e]; rfl) h
  | cons a l => rfl
theorem nmd_nil : nmd [] = false := rfl
set_option maxRecDepth 100000 in
set_option maxHeartbeats 2000000 in
theorem named_any (s : ByteArray) (hs : s.size ≤ maxLen) (w : World) : Calls Try.prog 59 #[.string s] w fun e w' => e = .returned (.bool (nmd s.data.toList)) ∧ w = w' := by
  have hz : s.data.toList.length = s.size := by simp
  have hb := get_bt s
  have CR := Lib.hid (run_any s hs)
  have hs63 : s.size < 9223372036854775808 := by unfold maxLen at hs; omega
  by_cases h0 : s = ⟨#[]⟩
  · subst h0
    clear hb
    go_enter Try.func59, Try.ntmps59
    go_wp2_with fail
    go_ret
    exact ⟨rfl, rfl⟩
  have h1 : s.size ≠ 0 := fun e => h0 (by
    apply ByteArray.ext
    have : s.data.size = 0 := e
    exact Array.eq_empty_of_size_eq_zero this)
  have h2 := isEmpty_false h1
  obtain ⟨c, r, hd⟩ : ∃ c r, s.data.toList.drop 0 = c :: r := ⟨_, _, List.drop_eq_getElem_cons (by omega)⟩
  obtain ⟨q1, q3, q2⟩ := bt_list (l := []) hd
  rw [List.drop_zero] at hd
  have CL := Lib.hid (letter_any (bt s 0))
  obtain ⟨a, ha⟩ : ∃ b, b = isL (bt s 0) := ⟨_, rfl⟩
  obtain ⟨N, hN⟩ : ∃ N, N = rn isF s.data.toList := ⟨_, rfl⟩
  have HV : Hid (nmd s.data.toList = (decide (s.size ≤ 16) && a && decide (N = s.size))) := Lib.hid (by
    rw [hN, ha, ← hz, hd, q1]
    unfold nmd
    simp only [List.length_cons]
    rw [show decide (r.length < 16) = decide (r.length + 1 ≤ 16) from by simp [Nat.lt_iff_add_one_le]])
  have hNs : N ≤ s.size := by rw [hN, ← hz]; exact rn_le _ _
  rw [← hN] at CR
  rw [← ha] at CL
  rw [HV.out]
  have HH := Lib.hid hN
  clear hN ha hd q1 q2 HV h0 hz hs
  by_cases hl : (s.size : Int) ≤ 16
  · have HL : Hid (s.size ≤ 16) := Lib.hid (by omega)
    cases a with
    | false =>
      go_enter Try.func59, Try.ntmps59
      go_wp2_with (go_at_call 67; (with_reducible refine (CL.out _).mono ?_); rintro e w1 ⟨rfl, rfl⟩)
      go_ret
      exact ⟨by simp, rfl⟩
    | true =>
      by_cases hn : N = s.size
      · have HN := Lib.hid hn
        subst hn
        clear hNs
        go_enter Try.func59, Try.ntmps59
        go_wp2_with (first | (go_at_call 67; (with_reducible refine (CL.out _).mono ?_); rintro e w1 ⟨rfl, rfl⟩) | (go_at_call 68; (with_reducible refine (CR.out _).mono ?_); rintro e w2 ⟨rfl, rfl⟩))
        go_ret
        exact ⟨by simp [HL.out, HN.out], rfl⟩
      · have hn2 : ((N : Int) == (s.size : Int)) = false := by simp; omega
        have HN := Lib.hid hn
        clear hn hNs
        go_enter Try.func59, Try.ntmps59
        go_wp2_with (first | (go_at_call 67; (with_reducible refine (CL.out _).mono ?_); rintro e w1 ⟨rfl, rfl⟩) | (go_at_call 68; (with_reducible refine (CR.out _).mono ?_); rintro e w2 ⟨rfl, rfl⟩))
        go_ret
        exact ⟨by simp [HN.out], rfl⟩
  · have HL : Hid (¬ s.size ≤ 16) := Lib.hid (by omega)
    go_enter Try.func59, Try.ntmps59
    go_wp2_with fail
    go_ret
    exact ⟨by simp [HL.out], rfl⟩
end Go.Proofs.Ythhimllddgfddaa
