/- What the reader's Good, Left, End, spoil, Raw of package codec do, also where there is none. No conditions beyond those written. -/
import Derived.Test.YtchflkibbdfeaaaCoA
namespace Go.Proofs.Ytchflkibbdfeaaa
open Go.RowKit
set_option linter.unusedSimpArgs false
set_option linter.unusedVariables false

/-- A reader in block b: what is left, and whether it is bad. -/
def RdAt (b : Nat) (s : ByteArray) (bad : Bool) (w : World) : Prop := w.heap[b]? = some (.cells #[.string s, .bool bad] 100 (0, 0))
theorem RdAt.cell0 {b : Nat} {s : ByteArray} {bad : Bool} {w : World} (h : RdAt b s bad w) : w.cell? ⟨b, 0, none⟩ = some (.string s) := by rw [Lib.cell_of_heap h]; rfl
theorem RdAt.cell1 {b : Nat} {s : ByteArray} {bad : Bool} {w : World} (h : RdAt b s bad w) : w.cell? ⟨b, 1, none⟩ = some (.bool bad) := by rw [Lib.cell_of_heap h]; rfl
theorem RdAt.frozen {b : Nat} {s : ByteArray} {bad : Bool} {w : World} (h : RdAt b s bad w) (i : Nat) : w.frozen? ⟨b, i, none⟩ = false := Lib.frozen_of_heap h i
theorem RdAt.lt {b : Nat} {s : ByteArray} {bad : Bool} {w : World} (h : RdAt b s bad w) : b < w.heap.size := by
  rcases Nat.lt_or_ge b w.heap.size with h' | h'
  · exact h'
  · unfold RdAt at h; rw [Array.getElem?_eq_none h'] at h; cases h
theorem RdAt.rest {b : Nat} {s t : ByteArray} {bad : Bool} {w : World} (h : RdAt b s bad w) : RdAt b t bad (w.setCell ⟨b, 0, none⟩ (.string t)) := by
  unfold RdAt at h ⊢; simp [World.setCell, Array.getElem?_modify, h]
theorem RdAt.both {b : Nat} {s t : ByteArray} {bad bad' : Bool} {w : World} (h : RdAt b s bad w) : RdAt b t bad' ((w.setCell ⟨b, 0, none⟩ (.string t)).setCell ⟨b, 1, none⟩ (.bool bad')) := by
  unfold RdAt at h ⊢; simp [World.setCell, Array.getElem?_modify, h]
theorem only_set {w0 w : World} {b i : Nat} {v : Value} (h : w0.grownBy w (some b)) : w0.grownBy (w.setCell ⟨b, i, none⟩ v) (some b) :=
  ⟨h.os, h.tape, h.output, by simpa [World.setCell] using h.size, fun k hk hne => by
    rw [← h.block k hk hne]; exact Below.heap_setCell w _ _ k (fun e => hne (by rw [e]))⟩
theorem only_drew {w0 w : World} {b : Nat} (h : w0.grownBy w (some b)) : w0.grownBy w.drew (some b) := ⟨h.os, h.tape, h.output, h.size, h.block⟩
theorem only_trans {w0 w1 w2 : World} {b : Nat} (h : w0.grownBy w1 (some b)) (k : w1.grownBy w2 (some b)) : w0.grownBy w2 (some b) :=
  ⟨k.os.trans h.os, k.tape.trans h.tape, k.output.trans h.output, Nat.le_trans h.size k.size, fun i hi hne => (k.block i (Nat.lt_of_lt_of_le hi h.size) hne).trans (h.block i hi hne)⟩
theorem only_below {w0 w : World} {b B : Nat} (h : w0.grownBy w (some b)) (hb : B ≤ b) (hB : B ≤ w0.heap.size) : Below B w0 w :=
  ⟨h.os, h.tape, h.output, h.size, fun i hi => h.block i (by omega) (fun e => by injection e with e; omega)⟩

theorem good_nil (w : World) : Calls Try.prog 59 #[.pointer none] w fun e w' => e = .returned (.bool false) ∧ w = w' := by
  go_enter Try.func59, Try.ntmps59
  go_wp2_with fail
  go_ret
  exact ⟨rfl, rfl⟩
theorem good_any (b : Nat) (s : ByteArray) (bad : Bool) (w : World) (h : RdAt b s bad w) :
    Calls Try.prog 59 #[.pointer (some ⟨b, 0, none⟩)] w fun e w' => e = .returned (.bool (!bad)) ∧ w = w' := by
  have c0 := h.cell0
  have c1 := h.cell1
  clear h
  go_enter Try.func59, Try.ntmps59
  go_wp2_with fail
  go_ret
  exact ⟨rfl, rfl⟩
theorem left_nil (w : World) : Calls Try.prog 64 #[.pointer none] w fun e w' => e = .returned (.int .i64 0) ∧ w = w' := by
  go_enter Try.func64, Try.ntmps64
  go_wp2_with (go_at_call 59; refine (good_nil _).mono ?_; rintro e w' ⟨rfl, rfl⟩)
  go_ret
  exact ⟨rfl, rfl⟩
theorem left_good (b : Nat) (s : ByteArray) (w : World) (h : RdAt b s false w) :
    Calls Try.prog 64 #[.pointer (some ⟨b, 0, none⟩)] w fun e w' => e = .returned (.int .i64 s.size) ∧ w = w' := by
  have c0 := h.cell0
  have H := Lib.hid h
  clear h
  go_enter Try.func64, Try.ntmps64
  go_wp2_with (go_at_call 59; refine (good_any b s _ _ H.out).mono ?_; rintro e w' ⟨rfl, rfl⟩)
  go_ret
  exact ⟨rfl, rfl⟩
theorem left_bad (b : Nat) (s : ByteArray) (w : World) (h : RdAt b s true w) :
    Calls Try.prog 64 #[.pointer (some ⟨b, 0, none⟩)] w fun e w' => e = .returned (.int .i64 0) ∧ w = w' := by
  have H := Lib.hid h
  clear h
  go_enter Try.func64, Try.ntmps64
  go_wp2_with (go_at_call 59; refine (good_any b s _ _ H.out).mono ?_; rintro e w' ⟨rfl, rfl⟩)
  go_ret
  exact ⟨rfl, rfl⟩
theorem end_nil (w : World) : Calls Try.prog 36 #[.pointer none] w fun e w' => e = .returned (.bool false) ∧ w = w' := by
  go_enter Try.func36, Try.ntmps36
  go_wp2_with (go_at_call 59; refine (good_nil _).mono ?_; rintro e w' ⟨rfl, rfl⟩)
  go_ret
  exact ⟨rfl, rfl⟩
theorem end_bad (b : Nat) (s : ByteArray) (w : World) (h : RdAt b s true w) :
    Calls Try.prog 36 #[.pointer (some ⟨b, 0, none⟩)] w fun e w' => e = .returned (.bool false) ∧ w = w' := by
  have H := Lib.hid h
  clear h
  go_enter Try.func36, Try.ntmps36
  go_wp2_with (go_at_call 59; refine (good_any b s _ _ H.out).mono ?_; rintro e w' ⟨rfl, rfl⟩)
  go_ret
  exact ⟨rfl, rfl⟩
theorem end_good (b : Nat) (s : ByteArray) (w : World) (h : RdAt b s false w) :
    Calls Try.prog 36 #[.pointer (some ⟨b, 0, none⟩)] w fun e w' => e = .returned (.bool s.toList.isEmpty) ∧ w = w' := by
  have c0 := h.cell0
  have H := Lib.hid h
  clear h
  go_enter Try.func36, Try.ntmps36
  go_wp2_with (go_at_call 59; refine (good_any b s _ _ H.out).mono ?_; rintro e w' ⟨rfl, rfl⟩)
  go_ret
  exact ⟨rfl, rfl⟩
theorem spoil_nil (w : World) : Calls Try.prog 65 #[.pointer none] w fun e w' => e = .returned (.tuple #[]) ∧ w = w' := by
  go_enter Try.func65, Try.ntmps65
  go_wp2_with fail
  go_end0
  exact ⟨rfl, rfl⟩
theorem spoil_any (b : Nat) (s : ByteArray) (bad : Bool) (w : World) (h : RdAt b s bad w) :
    Calls Try.prog 65 #[.pointer (some ⟨b, 0, none⟩)] w fun e w' => e = .returned (.tuple #[]) ∧ RdAt b ⟨#[]⟩ true w' ∧ w.grownBy w' (some b) := by
  have c0 := h.cell0
  have c1 := h.cell1
  have f0 := h.frozen 0
  have f1 := h.frozen 1
  have H := Lib.hid h
  have K := Lib.hid (World.grownBy.refl w (some b))
  clear h
  go_enter Try.func65, Try.ntmps65
  go_wp2_with fail
  go_end0
  exact ⟨rfl, H.out.both, only_set (only_set K.out)⟩

theorem isEmpty_true {s : ByteArray} (h : s.size = 0) : s.toList.isEmpty = true := by
  rw [ByteArray.toList_eq, List.isEmpty_iff]
  exact List.eq_nil_of_length_eq_zero (by simpa using h)
theorem isEmpty_false {s : ByteArray} (h : s.size ≠ 0) : s.toList.isEmpty = false := by
  rw [ByteArray.toList_eq, Bool.eq_false_iff]
  intro e
  rw [List.isEmpty_iff] at e
  exact h (by have := congrArg List.length e; simpa using this)

theorem raw_nil (n : Int) (w : World) : Calls Try.prog 66 #[.pointer none, .int .i64 n] w fun e w' => e = .returned (.string ⟨#[]⟩) ∧ w = w' := by
  by_cases h : n < 0
  · go_enter Try.func66, Try.ntmps66
    go_wp2_with (first | (go_at_call 59; refine (good_nil _).mono ?_; rintro e w' ⟨rfl, rfl⟩) | (go_at_call 64; refine (left_nil _).mono ?_; rintro e w' ⟨rfl, rfl⟩) | (go_at_call 65; refine (spoil_nil _).mono ?_; rintro e w' ⟨rfl, rfl⟩))
    go_ret
    exact ⟨rfl, rfl⟩
  · by_cases h2 : 0 < n
    · go_enter Try.func66, Try.ntmps66
      go_wp2_with (first | (go_at_call 59; refine (good_nil _).mono ?_; rintro e w' ⟨rfl, rfl⟩) | (go_at_call 64; refine (left_nil _).mono ?_; rintro e w' ⟨rfl, rfl⟩) | (go_at_call 65; refine (spoil_nil _).mono ?_; rintro e w' ⟨rfl, rfl⟩))
      go_ret
      exact ⟨rfl, rfl⟩
    · obtain rfl : n = 0 := by omega
      clear h h2
      go_enter Try.func66, Try.ntmps66
      go_wp2_with (first | (go_at_call 59; refine (good_nil _).mono ?_; rintro e w' ⟨rfl, rfl⟩) | (go_at_call 64; refine (left_nil _).mono ?_; rintro e w' ⟨rfl, rfl⟩) | (go_at_call 65; refine (spoil_nil _).mono ?_; rintro e w' ⟨rfl, rfl⟩))
      go_ret
      exact ⟨rfl, rfl⟩

/-- Bytes taken from a good reader: as many as are asked for, if there are so many. -/
theorem raw_yes (b : Nat) (s : ByteArray) (n : Nat) (hn : n ≤ s.size) (hs : s.size ≤ maxLen) (w : World) (h : RdAt b s false w) :
    Calls Try.prog 66 #[.pointer (some ⟨b, 0, none⟩), .int .i64 n] w fun e w' => e = .returned (.string (s.extract 0 n)) ∧ RdAt b (s.extract n s.size) false w' ∧ w.grownBy w' (some b) := by
  unfold maxLen at hs
  have c0 := h.cell0
  have f0 := h.frozen 0
  have H := Lib.hid h
  have K := Lib.hid (World.grownBy.refl w (some b))
  clear h
  go_enter Try.func66, Try.ntmps66
  go_wp2_with (first | (go_at_call 59; refine (good_any b s false _ H.out).mono ?_; rintro e w' ⟨rfl, rfl⟩) | (go_at_call 64; refine (left_good b s _ H.out).mono ?_; rintro e w' ⟨rfl, rfl⟩))
  go_ret
  exact ⟨rfl, H.out.rest, only_set K.out⟩

theorem raw_no (b : Nat) (s : ByteArray) (bad : Bool) (n : Int) (hn : n < 0 ∨ (s.size : Int) < n ∨ bad = true) (hs : s.size ≤ maxLen) (w : World) (h : RdAt b s bad w) (hb0 : bad = true → s = ⟨#[]⟩) :
    Calls Try.prog 66 #[.pointer (some ⟨b, 0, none⟩), .int .i64 n] w fun e w' => e = .returned (.string ⟨#[]⟩) ∧ RdAt b ⟨#[]⟩ true w' ∧ w.grownBy w' (some b) := by
  unfold maxLen at hs
  have H := Lib.hid h
  have K := Lib.hid (World.grownBy.refl w (some b))
  clear h
  by_cases h0 : n < 0
  · clear hn hb0
    go_enter Try.func66, Try.ntmps66
    go_wp2_with (go_at_call 65; refine (spoil_any b s bad _ H.out).mono ?_; rintro e w1 ⟨rfl, h1, h2⟩)
    have H1 := Lib.hid h1
    have H2 := Lib.hid h2
    clear h1 h2
    go_wp2_with (go_at_call 59; refine (good_any b _ true _ H1.out).mono ?_; rintro e w' ⟨rfl, rfl⟩)
    go_ret
    exact ⟨rfl, H1.out, H2.out⟩
  · cases bad with
    | false =>
      have hn' : (s.size : Int) < n := by rcases hn with h | h | h; exact absurd h h0; exact h; cases h
      clear hn hb0
      go_enter Try.func66, Try.ntmps66
      go_wp2_with (first | (go_at_call 64; refine (left_good b s _ H.out).mono ?_; rintro e w' ⟨rfl, rfl⟩) | (go_at_call 65; refine (spoil_any b s false _ H.out).mono ?_; rintro e w1 ⟨rfl, h1, h2⟩))
      have H1 := Lib.hid h1
      have H2 := Lib.hid h2
      clear h1 h2
      go_wp2_with (go_at_call 59; refine (good_any b _ true _ H1.out).mono ?_; rintro e w' ⟨rfl, rfl⟩)
      go_ret
      exact ⟨rfl, H1.out, H2.out⟩
    | true =>
      obtain rfl := hb0 rfl
      clear hn hb0
      by_cases h2 : 0 < n
      · go_enter Try.func66, Try.ntmps66
        go_wp2_with (first | (go_at_call 64; refine (left_bad b _ _ H.out).mono ?_; rintro e w' ⟨rfl, rfl⟩) | (go_at_call 65; refine (spoil_any b _ true _ H.out).mono ?_; rintro e w1 ⟨rfl, h1, h2⟩))
        have H1 := Lib.hid h1
        have H2 := Lib.hid h2
        clear h1 h2
        go_wp2_with (go_at_call 59; refine (good_any b _ true _ H1.out).mono ?_; rintro e w' ⟨rfl, rfl⟩)
        go_ret
        exact ⟨rfl, H1.out, H2.out⟩
      · obtain rfl : n = 0 := by omega
        clear h0 h2
        go_enter Try.func66, Try.ntmps66
        go_wp2_with (first | (go_at_call 64; refine (left_bad b _ _ H.out).mono ?_; rintro e w' ⟨rfl, rfl⟩) | (go_at_call 59; refine (good_any b _ true _ H.out).mono ?_; rintro e w' ⟨rfl, rfl⟩))
        go_ret
        exact ⟨rfl, H.out, K.out⟩

theorem read_any (s : ByteArray) (w : World) : Calls Try.prog 30 #[.string s] w fun e w' => e = .returned (.pointer (some ⟨w.heap.size, 0, none⟩)) ∧ w.alloc (.cells #[.string s, .bool false] 100) = w' := by
  go_enter Try.func30, Try.ntmps30
  go_wp2_with fail
  go_ret
  exact ⟨rfl, rfl⟩
theorem RdAt.fresh (w : World) (s : ByteArray) : RdAt w.heap.size s false (w.alloc (.cells #[.string s, .bool false] 100)) := heap_alloc_new w _
end Go.Proofs.Ytchflkibbdfeaaa
