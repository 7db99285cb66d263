/- The law DiskNone: of no disk nothing comes. Conditions: those written at each theorem. -/
import Derived.Test.YtajcnendlcjeaaaDkR
import Derived.Test.YtajcnendlcjeaaaDkN
import Derived.LoopTactic
namespace Go.Proofs.Ytajcnendlcjeaaa
open Go.RowKit Go.Maps Go.WideShapes
set_option linter.unusedVariables false
set_option linter.unusedSimpArgs false

/-- An act, as a value. -/
abbrev actV (K : Int) (n t d : ByteArray) (N B : Int) (v : Value) : Value := .agg #[.int .i64 K, .string n, .string t, .string d, .int .i64 N, .int .u32 B, v]
def GaveB (w : World) (e : Ending) (w' : World) : Prop := ∃ r : Bool, e = .returned (.bool r) ∧ w = w'
set_option maxRecDepth 100000 in
set_option maxHeartbeats 2000000 in
theorem great_one (K : Int) (n t d : ByteArray) (N B : Int) (v : Value) (w : World) :
    Calls Try.prog 9 #[.slice (some ⟨w.heap.size, 0, none⟩) 1 1] (w.alloc (.cells #[.int .i64 K, .string n, .string t, .string d, .int .i64 N, .int .u32 B, v] 37)) (GaveB (w.alloc (.cells #[.int .i64 K, .string n, .string t, .string d, .int .i64 N, .int .u32 B, v] 37))) := by
  have hb := heap_alloc_new w (.cells #[.int .i64 K, .string n, .string t, .string d, .int .i64 N, .int .u32 B, v] 37)
  obtain ⟨w1, hw1⟩ : ∃ w1, w1 = (w.alloc (.cells #[.int .i64 K, .string n, .string t, .string d, .int .i64 N, .int .u32 B, v] 37)) := ⟨_, rfl⟩
  rw [← hw1] at hb ⊢
  obtain ⟨g, hg⟩ : ∃ g, g = w.heap.size := ⟨_, rfl⟩
  rw [← hg] at hb ⊢
  have c1 := cell_blk hb 1
  have c2 := cell_blk hb 2
  have c3 := cell_blk hb 3
  simp only [List.getElem?_toArray] at c1 c2 c3
  have c1' : w1.cell? ⟨g, 1, none⟩ = some (.string n) := c1
  have c2' : w1.cell? ⟨g, 2, none⟩ = some (.string t) := c2
  have c3' : w1.cell? ⟨g, 3, none⟩ = some (.string d) := c3
  clear hw1 hg hb c1 c2 c3
  go_enter Try.func9, Try.ntmps9
  go_wp2_with fail
  go_loop [3] (fun i => ∃ j : Nat, j ≤ 1 ∧ i = .int .i64 j) (fun i => 1 - (intOf i).toNat)
  case atStart => exact ⟨0, by omega, rfl⟩
  case round =>
    obtain ⟨j, hj, rfl⟩ := hrel
    by_cases h0 : j = 0
    · subst h0
      by_cases q3 : (300 : Int) < d.size
      · go_wp2_with fail
        go_ret
        exact ⟨true, rfl, rfl⟩
      · by_cases q1 : (300 : Int) < n.size
        · go_wp2_with fail
          go_ret
          exact ⟨true, rfl, rfl⟩
        · by_cases q2 : (300 : Int) < t.size
          · go_wp2_with fail
            go_ret
            exact ⟨true, rfl, rfl⟩
          · go_wp2_with fail
            go_round
            case rel => exact ⟨1, by omega, by go_num⟩
            case measure => simp [intOf]
    · obtain rfl : j = 1 := by omega
      go_wp2_with fail
      go_ret
      exact ⟨false, rfl, rfl⟩
def DoneNil (K : Int) (w : World) (e : Ending) (w' : World) : Prop := e = .returned (.tuple #[.string ⟨#[]⟩, .bool false, .int .i64 (if 0 ≤ K ∧ K ≤ 4 then 1 else 0)]) ∧ Below w.heap.size w w'
set_option maxRecDepth 100000 in
set_option maxHeartbeats 4000000 in
theorem do_nil (K : Int) (n t d : ByteArray) (N B : Int) (v : Value) (w : World) :
    Calls Try.prog 12 #[.pointer none, actV K n t d N B v] w (DoneNil K w) := by
  have hb := heap_alloc_new w (.cells #[.int .i64 K, .string n, .string t, .string d, .int .i64 N, .int .u32 B, v] 37)
  have hB := (Below.refl w.heap.size w).alloc (Nat.le_refl _) (.cells #[.int .i64 K, .string n, .string t, .string d, .int .i64 N, .int .u32 B, v] 37)
  go_enter Try.func12, Try.ntmps12
  go_upto_region 1 with fail
  refine wp_letter (fun W => W = w.alloc (.cells #[.int .i64 K, .string n, .string t, .string d, .int .i64 N, .int .u32 B, v] 37)) rfl ?_
  rintro w1 hw1
  rw [← hw1] at hb hB
  have HB := Lib.hid hB
  have c0 := cell_blk hb 0
  have c1 := cell_blk hb 1
  have c2 := cell_blk hb 2
  have c3 := cell_blk hb 3
  have c4 := cell_blk hb 4
  have c5 := cell_blk hb 5
  have c6 := cell_blk hb 6
  simp only [List.getElem?_toArray] at c0 c1 c2 c3 c4 c5 c6
  obtain ⟨g, hg⟩ : ∃ g, g = w.heap.size := ⟨_, rfl⟩
  rw [← hg] at c0 c1 c2 c3 c4 c5 c6 ⊢
  have e0 : w1.cell? ⟨g, 0, none⟩ = some (.int .i64 K) := c0
  have e1 : w1.cell? ⟨g, 1, none⟩ = some (.string n) := c1
  have e2 : w1.cell? ⟨g, 2, none⟩ = some (.string t) := c2
  have e3 : w1.cell? ⟨g, 3, none⟩ = some (.string d) := c3
  have e4 : w1.cell? ⟨g, 4, none⟩ = some (.int .i64 N) := c4
  have e5 : w1.cell? ⟨g, 5, none⟩ = some (.int .u32 B) := c5
  have e6 : w1.cell? ⟨g, 6, none⟩ = some v := c6
  have fin : Hid (∀ w2 E, (K < 0 ∨ 4 < K) ∧ E = (0 : Int) ∨ (0 ≤ K ∧ K ≤ 4) ∧ E = (1 : Int) → Below w1.heap.size w1 w2 → DoneNil K w (.returned (.tuple #[.string ⟨#[]⟩, .bool false, .int .i64 E])) w2) := Lib.hid (fun w2 E h1 h2 => by
    refine ⟨?_, below_mono HB.out h2 (Nat.le_refl _)⟩
    rcases h1 with ⟨h, rfl⟩ | ⟨h, rfl⟩
    · rw [if_neg (by omega)]
    · rw [if_pos h])
  have P0 := Lib.hid (append_nil n d w1)
  have P1 := Lib.hid (sync_nil n w1)
  have P2 := Lib.hid (rename_nil n t w1)
  have P3 := Lib.hid (delete_nil n w1)
  have P4 := Lib.hid (read_nil n w1)
  have P5 := Lib.hid (arm_nil N w1)
  have P6 := Lib.hid (crash_nil v w1)
  have P7 := Lib.hid (rot_nil n N B w1)
  have HREF := Lib.hid (Below.refl w1.heap.size w1)
  clear hw1 hg hb hB c0 c1 c2 c3 c4 c5 c6
  by_cases k0 : K = 0
  · subst k0
    go_wp2_with fail
    refine P0.out.mono ?_
    rintro e w2 ⟨rfl, hB2⟩
    have HF := Lib.hid (fin.out _ 1 (.inr ⟨by omega, rfl⟩) hB2)
    clear hB2
    go_wp2_with fail
    go_ret3
    exact HF.out
  by_cases k1 : K = 1
  · subst k1
    go_wp2_with fail
    refine P1.out.mono ?_
    rintro e w2 ⟨rfl, hB2⟩
    have HF := Lib.hid (fin.out _ 1 (.inr ⟨by omega, rfl⟩) hB2)
    clear hB2
    go_wp2_with fail
    go_ret3
    exact HF.out
  by_cases k2 : K = 2
  · subst k2
    go_wp2_with fail
    refine P2.out.mono ?_
    rintro e w2 ⟨rfl, hB2⟩
    have HF := Lib.hid (fin.out _ 1 (.inr ⟨by omega, rfl⟩) hB2)
    clear hB2
    go_wp2_with fail
    go_ret3
    exact HF.out
  by_cases k3 : K = 3
  · subst k3
    go_wp2_with fail
    refine P3.out.mono ?_
    rintro e w2 ⟨rfl, hB2⟩
    have HF := Lib.hid (fin.out _ 1 (.inr ⟨by omega, rfl⟩) hB2)
    clear hB2
    go_wp2_with fail
    go_ret3
    exact HF.out
  by_cases k4 : K = 4
  · subst k4
    go_wp2_with fail
    refine P4.out.mono ?_
    rintro e w2 ⟨rfl, rfl⟩
    have HF := Lib.hid (fin.out _ 1 (.inr ⟨by omega, rfl⟩) HREF.out)
    go_wp2_with fail
    go_ret3
    exact HF.out
  have HK : Hid ((K < 0 ∨ 4 < K)) := Lib.hid (by omega)
  have HF := Lib.hid (fin.out _ 0 (.inl ⟨HK.out, rfl⟩) HREF.out)
  have b0 : (K == 0) = false := by simpa using k0
  have b1 : (K == 1) = false := by simpa using k1
  have b2 : (K == 2) = false := by simpa using k2
  have b3 : (K == 3) = false := by simpa using k3
  have b4 : (K == 4) = false := by simpa using k4
  clear HK
  by_cases k5 : K = 5
  · subst k5
    clear b0 b1 b2 b3 b4 k0 k1 k2 k3 k4
    go_wp2_with fail
    refine P5.out.mono ?_
    rintro e w2 ⟨rfl, rfl⟩
    go_wp2_with fail
    go_ret3
    exact HF.out
  by_cases k6 : K = 6
  · subst k6
    clear b0 b1 b2 b3 b4 k0 k1 k2 k3 k4 k5
    go_wp2_with fail
    refine P6.out.mono ?_
    rintro e w2 ⟨rfl, rfl⟩
    go_wp2_with fail
    go_ret3
    exact HF.out
  have b5 : (K == 5) = false := by simpa using k5
  have b6 : (K == 6) = false := by simpa using k6
  go_wp2_with fail
  refine P7.out.mono ?_
  rintro e w2 ⟨rfl, rfl⟩
  go_wp2_with fail
  go_ret3
  exact HF.out
set_option maxRecDepth 100000 in
set_option maxHeartbeats 4000000 in
theorem diskNone_walk (K : Int) (n t d : ByteArray) (N B : Int) (v : Value) (W : World) :
    Calls Try.prog 8 #[actV K n t d N B v] W fun e W' => e = .returned (.bool true) ∧ Below W.heap.size W W' := by
  have CA := Lib.hid awake_any
  have hb := heap_alloc_new W (.cells #[.int .i64 K, .string n, .string t, .string d, .int .i64 N, .int .u32 B, v] 37)
  have hB := (Below.refl W.heap.size W).alloc (Nat.le_refl _) (.cells #[.int .i64 K, .string n, .string t, .string d, .int .i64 N, .int .u32 B, v] 37)
  go_enter Try.func8, Try.ntmps8
  go_upto_region 1 with fail
  refine wp_letter (fun V => V = W.alloc (.cells #[.int .i64 K, .string n, .string t, .string d, .int .i64 N, .int .u32 B, v] 37)) rfl ?_
  rintro w1 hw1
  rw [← hw1] at hb hB
  have HB := Lib.hid hB
  obtain ⟨g, hg⟩ : ∃ g, g = W.heap.size := ⟨_, rfl⟩
  rw [← hg] at hb ⊢
  have HH := Lib.hid hb
  have cs : Hid (∀ w2 : World, w2.heap[g]? = some (.cells #[.int .i64 K, .string n, .string t, .string d, .int .i64 N, .int .u32 B, v] 37 (0, 0)) → w2.cell? ⟨g, 0, none⟩ = some (.int .i64 K) ∧ w2.cell? ⟨g, 1, none⟩ = some (.string n) ∧ w2.cell? ⟨g, 2, none⟩ = some (.string t) ∧ w2.cell? ⟨g, 3, none⟩ = some (.string d) ∧ w2.cell? ⟨g, 4, none⟩ = some (.int .i64 N) ∧ w2.cell? ⟨g, 5, none⟩ = some (.int .u32 B) ∧ w2.cell? ⟨g, 6, none⟩ = some v) := Lib.hid (fun w2 h =>
    ⟨cell_blk h 0, cell_blk h 1, cell_blk h 2, cell_blk h 3, cell_blk h 4, cell_blk h 5, cell_blk h 6⟩)
  obtain ⟨e0, e1, e2, e3, e4, e5, e6⟩ := cs.out w1 hb
  have C1 := Lib.hid (great_one K n t d N B v w1)
  have HLT : Hid (g < w1.heap.size) := Lib.hid (lt_of_heap hb)
  clear hw1 hg hb hB
  go_wp2_with fail
  refine C1.out.mono ?_
  rintro e w2 ⟨r, rfl, hw2⟩
  have HB2 : Hid (Below W.heap.size W w2) := Lib.hid (by rw [← hw2]; exact HB.out.alloc (by have := HB.out.size; exact this) _)
  have HH2 : Hid (w2.heap[g]? = some (.cells #[.int .i64 K, .string n, .string t, .string d, .int .i64 N, .int .u32 B, v] 37 (0, 0)) ∧ g < w2.heap.size) := Lib.hid (by
    have h1 := ((Below.refl w1.heap.size w1).alloc (Nat.le_refl _) (.cells #[.int .i64 K, .string n, .string t, .string d, .int .i64 N, .int .u32 B, v] 37))
    rw [hw2] at h1
    exact ⟨(h1.block g HLT.out).trans HH.out, Nat.lt_of_lt_of_le HLT.out h1.size⟩)
  clear hw2 C1 e0 e1 e2 e3 e4 e5 e6 HH
  cases r with
  | true =>
    go_wp2_with fail
    refine (CA.out _).mono ?_
    rintro e w3 ⟨rfl, hB⟩
    have HB3 := Lib.hid (below_mono HB2.out hB (Nat.le_refl _))
    clear hB
    go_wp2_with fail
    go_ret
    exact ⟨rfl, HB3.out⟩
  | false =>
    obtain ⟨e0, e1, e2, e3, e4, e5, e6⟩ := cs.out w2 HH2.out.1
    have CD := Lib.hid (do_nil K n t d N B v w2)
    go_wp2_with fail
    refine CD.out.mono ?_
    rintro e w3 ⟨rfl, hB⟩
    have HB3 := Lib.hid (below_mono HB2.out hB (Nat.le_refl _))
    obtain ⟨f0, f1, _, _, _, _, _⟩ := cs.out w3 ((hB.block g HH2.out.2).trans HH2.out.1)
    have P1 := Lib.hid (on_nil w3)
    have P2 := Lib.hid (used_nil w3)
    have P3 := Lib.hid (free_nil w3)
    have P4 := Lib.hid (written_nil w3)
    have P5 := Lib.hid (calls_nil w3)
    have P6 := Lib.hid (safe_nil n w3)
    have P7 := Lib.hid (names_nil w3)
    clear hB CD e0 e1 e2 e3 e4 e5 e6 HB2 HB
    by_cases hk : 0 ≤ K ∧ K ≤ 4
    · obtain ⟨k1, k2⟩ := hk
      rw [if_pos ⟨k1, k2⟩]
      go_wp2_with fail
      refine P1.out.mono ?_
      rintro e w4 ⟨rfl, rfl⟩
      go_wp2_with fail
      refine P2.out.mono ?_
      rintro e w4 ⟨rfl, rfl⟩
      go_wp2_with fail
      refine P3.out.mono ?_
      rintro e w4 ⟨rfl, rfl⟩
      go_wp2_with fail
      refine P4.out.mono ?_
      rintro e w4 ⟨rfl, rfl⟩
      go_wp2_with fail
      refine P5.out.mono ?_
      rintro e w4 ⟨rfl, rfl⟩
      go_wp2_with fail
      refine P6.out.mono ?_
      rintro e w4 ⟨rfl, rfl⟩
      go_wp2_with fail
      refine P7.out.mono ?_
      rintro e w4 ⟨rfl, rfl⟩
      go_wp2_with fail
      refine (CA.out _).mono ?_
      rintro e w4 ⟨rfl, hB⟩
      have HB4 := Lib.hid (below_mono HB3.out hB (Nat.le_refl _))
      clear hB
      go_wp2_with fail
      go_ret
      exact ⟨rfl, HB4.out⟩
    · rw [if_neg hk]
      by_cases k1 : 0 ≤ K
      · have k2 : ¬ K ≤ 4 := fun h => hk ⟨k1, h⟩
        have kd : decide (K ≤ 4) = false := by simpa using k2
        go_wp2_with fail
        refine P1.out.mono ?_
        rintro e w4 ⟨rfl, rfl⟩
        go_wp2_with fail
        refine P2.out.mono ?_
        rintro e w4 ⟨rfl, rfl⟩
        go_wp2_with fail
        refine P3.out.mono ?_
        rintro e w4 ⟨rfl, rfl⟩
        go_wp2_with fail
        refine P4.out.mono ?_
        rintro e w4 ⟨rfl, rfl⟩
        go_wp2_with fail
        refine P5.out.mono ?_
        rintro e w4 ⟨rfl, rfl⟩
        go_wp2_with fail
        refine P6.out.mono ?_
        rintro e w4 ⟨rfl, rfl⟩
        go_wp2_with fail
        refine P7.out.mono ?_
        rintro e w4 ⟨rfl, rfl⟩
        go_wp2_with fail
        refine (CA.out _).mono ?_
        rintro e w4 ⟨rfl, hB⟩
        have HB4 := Lib.hid (below_mono HB3.out hB (Nat.le_refl _))
        clear hB
        go_wp2_with fail
        go_ret
        exact ⟨rfl, HB4.out⟩
      · have kd : decide (0 ≤ K) = false := by simpa using k1
        have kl : K < 0 := by omega
        go_wp2_with fail
        refine P1.out.mono ?_
        rintro e w4 ⟨rfl, rfl⟩
        go_wp2_with fail
        refine P2.out.mono ?_
        rintro e w4 ⟨rfl, rfl⟩
        go_wp2_with fail
        refine P3.out.mono ?_
        rintro e w4 ⟨rfl, rfl⟩
        go_wp2_with fail
        refine P4.out.mono ?_
        rintro e w4 ⟨rfl, rfl⟩
        go_wp2_with fail
        refine P5.out.mono ?_
        rintro e w4 ⟨rfl, rfl⟩
        go_wp2_with fail
        refine P6.out.mono ?_
        rintro e w4 ⟨rfl, rfl⟩
        go_wp2_with fail
        refine P7.out.mono ?_
        rintro e w4 ⟨rfl, rfl⟩
        go_wp2_with fail
        refine (CA.out _).mono ?_
        rintro e w4 ⟨rfl, hB⟩
        have HB4 := Lib.hid (below_mono HB3.out hB (Nat.le_refl _))
        clear hB
        go_wp2_with fail
        go_ret
        exact ⟨rfl, HB4.out⟩
end Go.Proofs.Ytajcnendlcjeaaa
