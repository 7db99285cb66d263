/- Plain mathematics of working days: the first working day from a day on, forwards and backwards. No conditions beyond those written. -/
import Derived.Test.YtknahehmkjaelabDMath
namespace Go.Proofs.Ytknahehmkjaelab

/-- Is n a working day among these holidays? -/
def wk (hs : List Int) (n : Int) : Bool := decide (0 ≤ n) && decide (n ≤ 2932896) && decide ((n + 3) % 7 < 5) && !hs.contains n
def fwN (hs : List Int) : Nat → Int → Int
  | 0, _ => -1
  | f + 1, n => if wk hs n = true then n else fwN hs f (n + 1)
/-- The first working day from n on; -1: there is none. -/
def fw (hs : List Int) (n : Int) : Int := fwN hs (2932897 - n).toNat n
def bwN (hs : List Int) : Nat → Int → Int
  | 0, _ => -1
  | f + 1, n => if wk hs n = true then n else bwN hs f (n - 1)
/-- The last working day up to n; -1: there is none. -/
def bw (hs : List Int) (n : Int) : Int := bwN hs (n + 1).toNat n

theorem fw_yes {hs : List Int} {n : Int} (h : n ≤ 2932896) (hw : wk hs n = true) : fw hs n = n := by
  unfold fw
  obtain ⟨k, hk⟩ : ∃ k : Nat, (2932897 - n).toNat = k + 1 := ⟨(2932897 - n).toNat - 1, by omega⟩
  rw [hk, fwN, if_pos hw]
theorem fw_no {hs : List Int} {n : Int} (h : n ≤ 2932896) (hw : wk hs n = false) : fw hs n = fw hs (n + 1) := by
  unfold fw
  obtain ⟨k, hk⟩ : ∃ k : Nat, (2932897 - n).toNat = k + 1 := ⟨(2932897 - n).toNat - 1, by omega⟩
  have hk' : (2932897 - (n + 1)).toNat = k := by omega
  rw [hk, hk', fwN, if_neg (by simp [hw])]
theorem fw_end (hs : List Int) (n : Int) (h : 2932896 < n) : fw hs n = -1 := by
  unfold fw
  rw [show (2932897 - n).toNat = 0 by omega]
  rfl
theorem bw_yes {hs : List Int} {n : Int} (h : 0 ≤ n) (hw : wk hs n = true) : bw hs n = n := by
  unfold bw
  obtain ⟨k, hk⟩ : ∃ k : Nat, (n + 1).toNat = k + 1 := ⟨(n + 1).toNat - 1, by omega⟩
  rw [hk, bwN, if_pos hw]
theorem bw_no {hs : List Int} {n : Int} (h : 0 ≤ n) (hw : wk hs n = false) : bw hs n = bw hs (n - 1) := by
  unfold bw
  obtain ⟨k, hk⟩ : ∃ k : Nat, (n + 1).toNat = k + 1 := ⟨(n + 1).toNat - 1, by omega⟩
  have hk' : (n - 1 + 1).toNat = k := by omega
  rw [hk, hk', bwN, if_neg (by simp [hw])]
theorem bw_end (hs : List Int) (n : Int) (h : n < 0) : bw hs n = -1 := by
  unfold bw
  rw [show (n + 1).toNat = 0 by omega]
  rfl
theorem wk_range {hs : List Int} {n : Int} (h : wk hs n = true) : 0 ≤ n ∧ n ≤ 2932896 := by
  unfold wk at h
  simp only [Bool.and_eq_true, decide_eq_true_eq] at h
  exact h.1.1
theorem fwN_spec (hs : List Int) : ∀ (f : Nat) (n : Int), 0 ≤ fwN hs f n → wk hs (fwN hs f n) = true ∧ n ≤ fwN hs f n
  | 0, n, h => by simp [fwN] at h
  | f + 1, n, h => by
    unfold fwN at h ⊢
    by_cases hw : wk hs n = true
    · rw [if_pos hw]; exact ⟨hw, Int.le_refl _⟩
    · rw [if_neg hw] at h ⊢
      have := fwN_spec hs f (n + 1) h
      exact ⟨this.1, by omega⟩
theorem bwN_spec (hs : List Int) : ∀ (f : Nat) (n : Int), 0 ≤ bwN hs f n → wk hs (bwN hs f n) = true ∧ bwN hs f n ≤ n
  | 0, n, h => by simp [bwN] at h
  | f + 1, n, h => by
    unfold bwN at h ⊢
    by_cases hw : wk hs n = true
    · rw [if_pos hw]; exact ⟨hw, Int.le_refl _⟩
    · rw [if_neg hw] at h ⊢
      have := bwN_spec hs f (n - 1) h
      exact ⟨this.1, by omega⟩
theorem fw_spec {hs : List Int} {n : Int} (h : 0 ≤ fw hs n) : wk hs (fw hs n) = true ∧ n ≤ fw hs n := fwN_spec hs _ n h
theorem bw_spec {hs : List Int} {n : Int} (h : 0 ≤ bw hs n) : wk hs (bw hs n) = true ∧ bw hs n ≤ n := bwN_spec hs _ n h
theorem fwN_low (hs : List Int) : ∀ (f : Nat) (n : Int), 0 ≤ n → -1 ≤ fwN hs f n
  | 0, n, _ => by simp [fwN]
  | f + 1, n, h => by
    unfold fwN
    split
    · omega
    · exact fwN_low hs f (n + 1) (by omega)
theorem bwN_low (hs : List Int) : ∀ (f : Nat) (n : Int), -1 ≤ bwN hs f n
  | 0, n => by simp [bwN]
  | f + 1, n => by
    unfold bwN
    split
    · rename_i h; have := wk_range h; omega
    · exact bwN_low hs f (n - 1)
theorem fw_low (hs : List Int) {n : Int} (h : 0 ≤ n) : -1 ≤ fw hs n := fwN_low hs _ n h
theorem bw_low (hs : List Int) (n : Int) : -1 ≤ bw hs n := bwN_low hs _ n
theorem fw_high (hs : List Int) (n : Int) : fw hs n ≤ 2932896 := by
  rcases Int.lt_or_le (fw hs n) 0 with h | h
  · omega
  · exact (wk_range (fw_spec h).1).2
theorem bw_high (hs : List Int) (n : Int) : bw hs n ≤ 2932896 := by
  rcases Int.lt_or_le (bw hs n) 0 with h | h
  · omega
  · exact (wk_range (bw_spec h).1).2
/-- The holidays' order counts for nothing. -/
theorem wk_sorted (hs : List Int) (n : Int) : wk (hs.mergeSort fun x y => decide (x ≤ y)) n = wk hs n := by
  unfold wk
  congr 2
  rw [Bool.eq_iff_iff, List.contains_iff_mem, List.contains_iff_mem]
  exact (List.mergeSort_perm hs _).mem_iff
theorem fwN_sorted (hs : List Int) : ∀ (f : Nat) (n : Int), fwN (hs.mergeSort fun x y => decide (x ≤ y)) f n = fwN hs f n
  | 0, _ => rfl
  | f + 1, n => by unfold fwN; rw [wk_sorted, fwN_sorted hs f]
theorem bwN_sorted (hs : List Int) : ∀ (f : Nat) (n : Int), bwN (hs.mergeSort fun x y => decide (x ≤ y)) f n = bwN hs f n
  | 0, _ => rfl
  | f + 1, n => by unfold bwN; rw [wk_sorted, bwN_sorted hs f]
theorem fw_sorted (hs : List Int) (n : Int) : fw (hs.mergeSort fun x y => decide (x ≤ y)) n = fw hs n := fwN_sorted hs _ n
theorem bw_sorted (hs : List Int) (n : Int) : bw (hs.mergeSort fun x y => decide (x ≤ y)) n = bw hs n := bwN_sorted hs _ n
theorem sort_pairs (hs : List Int) : (hs.mergeSort fun x y => decide (x ≤ y)).Pairwise (· ≤ ·) := by
  have h := List.pairwise_mergeSort (le := fun (x y : Int) => decide (x ≤ y)) (by intro a b c; simp; omega) (by intro a b; simp; omega) hs
  exact h.imp (by intro a b; simp)
theorem wk_false_weekend {hs : List Int} {n : Int} (h : ¬ (n + 3) % 7 < 5) : wk hs n = false := by simp [wk, h]
theorem wk_false_holiday {hs : List Int} {n : Int} (h : hs.contains n = true) : wk hs n = false := by simp [wk] at *; intros; assumption
theorem wk_true {hs : List Int} {n : Int} (h0 : 0 ≤ n) (h1 : n ≤ 2932896) (h2 : (n + 3) % 7 < 5) (h : hs.contains n = false) : wk hs n = true := by simp [wk] at *; exact ⟨⟨⟨h0, h1⟩, h2⟩, h⟩
theorem wk_out {hs : List Int} {n : Int} (h : n < 0 ∨ 2932896 < n) : wk hs n = false := by
  rw [Bool.eq_false_iff]; intro e; have := wk_range e; omega
end Go.Proofs.Ytknahehmkjaelab
