/- What the Go functions Min and Sum of package num (slices of int64) answer. Conditions: those written at each theorem. -/
import Derived.Test.YtkfkoopfoiekoaaDoorNuN
namespace Go.Proofs.YtkfkoopfoiekoaaDoor
open Go.RowKit Go.Sort
set_option linter.unusedSimpArgs false
set_option linter.unusedVariables false

/-- Numbers as values. -/
def is64 (l : List Int) : List Value := l.map fun (d : Int) => Value.int .i64 d
theorem is64_length (l : List Int) : (is64 l).length = l.length := by simp [is64]
theorem SAt.cells64 {B : Nat} {ao : Option Addr} {xs : List Int} {w : World} (h : SAt B ao (is64 xs) w) (hp : 0 < xs.length) :
    ∃ b off, ao = some ⟨b, off, none⟩ ∧ b < B ∧ ∀ j, (hj : j < xs.length) → w.cell? ⟨b, off + j, none⟩ = some (.int .i64 xs[j]) := by
  have hp' : 0 < (is64 xs).length := by rw [is64_length]; exact hp
  obtain ⟨a, rfl⟩ := h.1 hp'
  obtain ⟨hb, hc⟩ := h.2 a rfl hp'
  have hc' : ∀ j, (hj : j < xs.length) → w.cell? (a.add j) = some (.int .i64 xs[j]) := by
    intro j hj
    apply hc
    unfold is64
    rw [List.getElem?_map, List.getElem?_eq_getElem hj]
    simp
  obtain ⟨b, off, spot⟩ := a
  cases spot with
  | some s =>
    have := hc' 0 hp
    simp [World.cell?, Addr.add] at this
    split at this <;> cases this
  | none => exact ⟨b, off, rfl, hb, fun j hj => by rw [← add_none]; exact hc' j hj⟩

/-- A sum in 128 bits, taken so far. -/
structure SumRel (l : List Int) (i hi lo : Nat) : Prop where
  h1 : hi < 18446744073709551616
  h2 : lo < 18446744073709551616
  h3 : ∃ k : Int, (hi : Int) * 18446744073709551616 + (lo : Int) = (l.take i).sum + k * 340282366920938463463374607431768211456
theorem SumRel.zero (l : List Int) : SumRel l 0 0 0 := ⟨by omega, by omega, 0, by simp⟩
/-- The 64 bits of a number, and what stands ahead of them. -/
def low64 (n : Int) : Nat := (n % 18446744073709551616).toNat
def ext64 (n : Int) : Nat := if n < 0 then 18446744073709551615 else 0
theorem SumRel.step {l : List Int} {i hi lo : Nat} (h : SumRel l i hi lo) (hl : i < l.length) (b0 : -9223372036854775808 ≤ l[i]) (b1 : l[i] ≤ 9223372036854775807) :
    SumRel l (i + 1) ((hi + ext64 l[i] + (lo + low64 l[i] + 0) / 18446744073709551616) % 18446744073709551616) ((lo + low64 l[i] + 0) % 18446744073709551616) := by
  obtain ⟨h1, h2, k, h3⟩ := h
  have e : (l.take (i + 1)).sum = (l.take i).sum + l[i] := by
    rw [List.take_succ_eq_append_getElem hl, List.sum_append]; simp
  generalize hn : l[i] = n at *
  obtain ⟨m, hm⟩ : ∃ m : Nat, m = low64 n := ⟨_, rfl⟩
  obtain ⟨x, hx⟩ : ∃ m : Nat, m = ext64 n := ⟨_, rfl⟩
  have hmx : (m : Int) + x * 18446744073709551616 = n ∨ (m : Int) + x * 18446744073709551616 = n + 340282366920938463463374607431768211456 := by
    rw [hm, hx]; unfold low64 ext64
    split <;> omega
  have hm' : m < 18446744073709551616 := by rw [hm]; unfold low64; omega
  rw [← hm, ← hx]
  refine ⟨by omega, by omega, ?_⟩
  obtain ⟨q, hq⟩ : ∃ q, q = (lo + m + 0) / 18446744073709551616 := ⟨_, rfl⟩
  obtain ⟨r, hr⟩ : ∃ r, r = (hi + x + q) / 18446744073709551616 := ⟨_, rfl⟩
  have a1 : (lo + m + 0) % 18446744073709551616 + 18446744073709551616 * q = lo + m := by omega
  have a2 : (hi + x + q) % 18446744073709551616 + 18446744073709551616 * r = hi + x + q := by omega
  rw [← hq]
  rw [e]
  rcases hmx with hmx | hmx
  · exact ⟨k - r, by omega⟩
  · exact ⟨k + 1 - r, by omega⟩
theorem sum_bound (l : List Int) (hb : ∀ x ∈ l, -9223372036854775808 ≤ x ∧ x ≤ 9223372036854775807) : -9223372036854775808 * (l.length : Int) ≤ l.sum ∧ l.sum ≤ 9223372036854775807 * (l.length : Int) := by
  induction l with
  | nil => simp
  | cons x l ih =>
    have h1 := hb x (by simp)
    have h2 := ih (fun y hy => hb y (by simp [hy]))
    simp only [List.sum_cons, List.length_cons]
    omega
theorem SumRel.fin {l : List Int} {hi lo : Nat} (h : SumRel l l.length hi lo) (hb : ∀ x ∈ l, -9223372036854775808 ≤ x ∧ x ≤ 9223372036854775807) (hl : l.length ≤ 1000) (s : Int) (hs : s = IntKind.i64.wrap (lo : Int)) :
    (-9223372036854775808 ≤ l.sum ∧ l.sum ≤ 9223372036854775807 → s = l.sum ∧ hi = ext64 s) ∧ (¬ (-9223372036854775808 ≤ l.sum ∧ l.sum ≤ 9223372036854775807) → hi ≠ ext64 s) := by
  obtain ⟨h1, h2, k, h3⟩ := h
  rw [List.take_length] at h3
  have b := sum_bound l hb
  generalize l.sum = S at *
  have b1 : -9223372036854775808 * 1000 ≤ S := by omega
  have b2 : S ≤ 9223372036854775807 * 1000 := by omega
  rw [IntKind.wrap_i64] at hs
  have hs' : s = (lo : Int) ∧ (lo : Int) < 9223372036854775808 ∨ s = (lo : Int) - 18446744073709551616 ∧ 9223372036854775808 ≤ (lo : Int) := by omega
  unfold ext64
  constructor
  · intro hr
    rcases hs' with ⟨e, c⟩ | ⟨e, c⟩
    · have : s = S := by omega
      refine ⟨this, ?_⟩
      rw [if_neg (by omega)]; omega
    · have : s = S := by omega
      refine ⟨this, ?_⟩
      rw [if_pos (by omega)]; omega
  · intro hr hh
    rcases hs' with ⟨e, c⟩ | ⟨e, c⟩
    · rw [if_neg (by omega)] at hh; omega
    · rw [if_pos (by omega)] at hh; omega
def SumPost (T : Int) (e : Ending) : Prop :=
  (-9223372036854775808 ≤ T ∧ T ≤ 9223372036854775807 → e = .returned (.tuple #[.int .i64 T, .bool true])) ∧ (¬ (-9223372036854775808 ≤ T ∧ T ≤ 9223372036854775807) → e = .returned (.tuple #[.int .i64 0, .bool false]))
theorem low64_wrap (n : Int) : IntKind.u64.wrap n = (low64 n : Int) := by rw [IntKind.wrap_u64]; unfold low64; omega
end Go.Proofs.YtkfkoopfoiekoaaDoor
