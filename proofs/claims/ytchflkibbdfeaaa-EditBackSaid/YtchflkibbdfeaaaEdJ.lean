/- Reading as a state: what is left, or nothing good any more; codec's reader keeps to it. Conditions: those written at each theorem. -/
import Derived.Test.YtchflkibbdfeaaaEdF
import Derived.Test.YtchflkibbdfeaaaCoS
import Derived.Test.YtchflkibbdfeaaaCoT
import Derived.Test.YtchflkibbdfeaaaCoP
namespace Go.Proofs.Ytchflkibbdfeaaa
open Go.RowKit Go.Sort
set_option linter.unusedVariables false
set_option linter.unusedSimpArgs false
/-- A reader in block b with the state: the bytes left, or none where it is bad. -/
def Rd (b : Nat) (σ : Option (List UInt8)) (w : World) : Prop :=
  match σ with
  | some L => RdAt b ⟨L.toArray⟩ false w ∧ L.length ≤ maxLen
  | none => RdAt b ⟨#[]⟩ true w
/-- Taking a size. -/
def sI : Option (List UInt8) → Int × Option (List UInt8)
  | none => (0, none)
  | some L => match gt 9223372036854775807 L 0 0 with
    | some (n, r) => ((n : Int), some r)
    | none => (0, none)
/-- Taking a signed number. -/
def sS : Option (List UInt8) → Int × Option (List UInt8)
  | none => (0, none)
  | some L => match gt 18446744073709551615 L 0 0 with
    | some (n, r) => (num n, some r)
    | none => (0, none)
/-- Taking a text of at most 80 bytes. -/
def sT : Option (List UInt8) → ByteArray × Option (List UInt8)
  | none => (⟨#[]⟩, none)
  | some L => match gt 9223372036854775807 L 0 0 with
    | some (n, r) => if n ≤ 80 ∧ n ≤ r.length then (⟨(r.take n).toArray⟩, some (r.drop n)) else (⟨#[]⟩, none)
    | none => (⟨#[]⟩, none)
theorem gt_shorter {m : Nat} {L r : List UInt8} {n : Nat} (h : gt m L 0 0 = some (n, r)) : r.length ≤ L.length := by
  rw [gt_inv0 h]
  simp
theorem mk_list (L : List UInt8) : (⟨L.toArray⟩ : ByteArray).data.toList = L := by simp
theorem rd_size {b : Nat} {σ : Option (List UInt8)} {w : World} (h : Rd b σ w) : Calls Try.prog 33 #[.pointer (some ⟨b, 0, none⟩)] w fun e w' => e = .returned (.int .i64 (sI σ).1) ∧ Rd b (sI σ).2 w' ∧ w.grownBy w' (some b) := by
  cases σ with
  | none => exact rsize_bad b w h
  | some L =>
    obtain ⟨h1, h2⟩ := h
    have hs : (⟨L.toArray⟩ : ByteArray).size ≤ maxLen := by rw [str_size]; exact h2
    cases hg : gt 9223372036854775807 L 0 0 with
    | none =>
      have e : sI (some L) = (0, none) := by simp [sI, hg]
      rw [e]
      exact rsize_no b _ hs (by rw [mk_list]; exact hg) w h1
    | some q =>
      obtain ⟨n, r⟩ := q
      have e : sI (some L) = ((n : Int), some r) := by simp [sI, hg]
      rw [e]
      refine (rsize_yes b _ hs n r (by rw [mk_list]; exact hg) w h1).mono ?_
      rintro e w' ⟨a, c, d⟩
      exact ⟨a, ⟨c, Nat.le_trans (gt_shorter hg) h2⟩, d⟩
theorem rd_signed {b : Nat} {σ : Option (List UInt8)} {w : World} (h : Rd b σ w) : Calls Try.prog 31 #[.pointer (some ⟨b, 0, none⟩)] w fun e w' => e = .returned (.int .i64 (sS σ).1) ∧ Rd b (sS σ).2 w' ∧ w.grownBy w' (some b) := by
  cases σ with
  | none => exact rsigned_bad b w h
  | some L =>
    obtain ⟨h1, h2⟩ := h
    have hs : (⟨L.toArray⟩ : ByteArray).size ≤ maxLen := by rw [str_size]; exact h2
    cases hg : gt 18446744073709551615 L 0 0 with
    | none =>
      have e : sS (some L) = (0, none) := by simp [sS, hg]
      rw [e]
      exact rsigned_no b _ hs (by rw [mk_list]; exact hg) w h1
    | some q =>
      obtain ⟨n, r⟩ := q
      have e : sS (some L) = (num n, some r) := by simp [sS, hg]
      rw [e]
      refine (rsigned_yes b _ hs n r (by rw [mk_list]; exact hg) w h1).mono ?_
      rintro e w' ⟨a, c, d⟩
      exact ⟨a, ⟨c, Nat.le_trans (gt_shorter hg) h2⟩, d⟩
theorem rd_text {b : Nat} {σ : Option (List UInt8)} {w : World} (h : Rd b σ w) : Calls Try.prog 58 #[.pointer (some ⟨b, 0, none⟩), .int .i64 80] w fun e w' => e = .returned (.string (sT σ).1) ∧ Rd b (sT σ).2 w' ∧ w.grownBy w' (some b) := by
  cases σ with
  | none => exact rtext_bad b 80 w h
  | some L =>
    obtain ⟨h1, h2⟩ := h
    have hs : (⟨L.toArray⟩ : ByteArray).size ≤ maxLen := by rw [str_size]; exact h2
    cases hg : gt 9223372036854775807 L 0 0 with
    | none =>
      have e : sT (some L) = (⟨#[]⟩, none) := by simp [sT, hg]
      rw [e]
      exact rtext_none b _ hs 80 (by rw [mk_list]; exact hg) w h1
    | some q =>
      obtain ⟨n, r⟩ := q
      have hr := Nat.le_trans (gt_shorter hg) h2
      by_cases h80 : n ≤ 80
      · by_cases hl : n ≤ r.length
        · have e : sT (some L) = (⟨(r.take n).toArray⟩, some (r.drop n)) := by simp [sT, hg, h80, hl]
          rw [e]
          refine (rtext_yes b _ hs 80 n r (by rw [mk_list]; exact hg) h80 hl hr w h1).mono ?_
          rintro e w' ⟨a, c, d⟩
          exact ⟨a, ⟨c, by rw [List.length_drop]; omega⟩, d⟩
        · have e : sT (some L) = (⟨#[]⟩, none) := by simp [sT, hg, hl]
          rw [e]
          exact rtext_short b _ hs 80 n r (by rw [mk_list]; exact hg) h80 (by omega) hr w h1
      · have e : sT (some L) = (⟨#[]⟩, none) := by simp [sT, hg, h80]
        rw [e]
        exact rtxt_over b _ false 80 n r (by omega) (fun w1 h3 => rsize_yes b _ hs n r (by rw [mk_list]; exact hg) w1 h3) w h1
theorem rd_end {b : Nat} {σ : Option (List UInt8)} {w : World} (h : Rd b σ w) : Calls Try.prog 36 #[.pointer (some ⟨b, 0, none⟩)] w fun e w' => e = .returned (.bool (decide (σ = some []))) ∧ w = w' := by
  cases σ with
  | none => exact (end_bad b _ w h).mono fun e w' ⟨a, c⟩ => ⟨by rw [a]; simp, c⟩
  | some L =>
    obtain ⟨h1, h2⟩ := h
    refine (end_good b _ w h1).mono fun e w' ⟨a, c⟩ => ⟨?_, c⟩
    rw [a]
    congr 2
    by_cases hL : L = []
    · subst hL
      rw [isEmpty_true (by rw [str_size]; rfl)]
      simp
    · rw [isEmpty_false (by rw [str_size]; intro h; exact hL (List.eq_nil_of_length_eq_zero h))]
      simp [hL]
theorem Rd.lt {b : Nat} {σ : Option (List UInt8)} {w : World} (h : Rd b σ w) : b < w.heap.size := by
  cases σ with
  | none => exact RdAt.lt h
  | some L => exact h.1.lt
theorem Rd.under {b : Nat} {σ : Option (List UInt8)} {w w' : World} (h : Rd b σ w) (k : w'.heap[b]? = w.heap[b]?) : Rd b σ w' := by
  cases σ with
  | none => exact k.trans h
  | some L => exact ⟨k.trans h.1, h.2⟩

end Go.Proofs.Ytchflkibbdfeaaa
