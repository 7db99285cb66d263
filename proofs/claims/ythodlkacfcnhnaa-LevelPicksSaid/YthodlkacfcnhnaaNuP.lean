/- Plain mathematics of a product, digit by digit; the memory of it. No conditions beyond those written. -/
import Derived.Test.YthodlkacfcnhnaaNuB
namespace Go.Proofs.Ythodlkacfcnhnaa.Nu
open Go.RowKit Go.Sort
set_option linter.unusedVariables false
set_option linter.unusedSimpArgs false

theorem dval_set {l : List Nat} {p : Nat} (h : p < l.length) (d : Nat) : dval (l.set p d) + 65536 ^ p * l[p] = dval l + 65536 ^ p * d := by
  induction l generalizing p with
  | nil => simp at h
  | cons x l ih =>
    cases p with
    | zero => simp [dval]; omega
    | succ p =>
      have := ih (p := p) (by simpa using h)
      simp only [List.set_cons_succ, dval, List.getElem_cons_succ, Nat.pow_succ]
      have e : ∀ z, 65536 ^ p * 65536 * z = 65536 * (65536 ^ p * z) := fun z => by rw [Nat.mul_comm (65536 ^ p) 65536, Nat.mul_assoc]
      rw [e, e]
      omega
theorem low_set {l : List Nat} {p d : Nat} (h : Low l) (hd : d < 65536) : Low (l.set p d) := by
  intro x hx
  rcases List.mem_or_eq_of_mem_set hx with h1 | h1
  · exact h x h1
  · omega
/-- Inside a row: its first digits are multiplied. -/
structure MulRel (xs ys : List Nat) (i k c : Nat) (O : List Nat) : Prop where
  low : Low O
  len : O.length = xs.length + ys.length + 1
  car : c < 65536
  zer : ∀ p, i + ys.length ≤ p → O.getD p 0 = 0
  val : dval O + 65536 ^ (i + k) * c = dval (xs.take i) * dval ys + 65536 ^ i * (xs.getD i 0 * dval (ys.take k))
theorem MulRel.zero (xs ys : List Nat) : MulRel xs ys 0 0 0 (List.replicate (xs.length + ys.length + 1) 0) := by
  have hz : ∀ n, dval (List.replicate n 0) = 0 := by
    intro n; induction n with
    | zero => rfl
    | succ n ih => simp [List.replicate_succ, dval, ih]
  refine ⟨fun d hd => by have := List.eq_of_mem_replicate hd; omega, by simp, by omega, fun p _ => ?_, ?_⟩
  · simp only [List.getD_eq_getElem?_getD, List.getElem?_replicate]; split <;> rfl
  · rw [hz]; simp [dval]
theorem MulRel.step {xs ys : List Nat} {i k c : Nat} {O : List Nat} (h : MulRel xs ys i k c O) (hx : Low xs) (hy : Low ys) (hi : i < xs.length) (hk : k < ys.length) (v : Nat) (hv : v = O.getD (i + k) 0 + xs.getD i 0 * ys.getD k 0 + c) :
    MulRel xs ys i (k + 1) (v / 65536) (O.set (i + k) (v % 65536)) ∧ v < 4294967296 := by
  have a := low_getD hx i
  have b := low_getD hy k
  have o := low_getD h.low (i + k)
  have c1 := h.car
  have hab : xs.getD i 0 * ys.getD k 0 ≤ 65535 * 65535 := Nat.mul_le_mul (by omega) (by omega)
  have hp : i + k < O.length := by rw [h.len]; omega
  have hv2 : v < 4294967296 := by omega
  refine ⟨⟨low_set h.low (by omega), by simp [h.len], by omega, fun p hp' => ?_, ?_⟩, hv2⟩
  · have e := h.zer p hp'
    rw [List.getD_eq_getElem?_getD, List.getElem?_set] at *
    rw [if_neg (by omega)]
    exact e
  · have e1 := dval_set hp (v % 65536)
    have e2 := h.val
    rw [getD_in hp] at hv
    rw [dval_take_getD]
    have e3 : 65536 ^ (i + (k + 1)) * (v / 65536) + 65536 ^ (i + k) * (v % 65536) = 65536 ^ (i + k) * v := by
      rw [show i + (k + 1) = (i + k) + 1 by omega, Nat.pow_succ, Nat.mul_assoc, ← Nat.mul_add]
      congr 1; omega
    have e4 : 65536 ^ (i + k) * v = 65536 ^ (i + k) * O[i + k] + 65536 ^ (i + k) * (xs.getD i 0 * ys.getD k 0) + 65536 ^ (i + k) * c := by
      rw [hv, Nat.mul_add, Nat.mul_add]
    have e5 : 65536 ^ i * (xs.getD i 0 * (dval (ys.take k) + 65536 ^ k * ys.getD k 0)) = 65536 ^ i * (xs.getD i 0 * dval (ys.take k)) + 65536 ^ (i + k) * (xs.getD i 0 * ys.getD k 0) := by
      rw [Nat.mul_add, Nat.mul_add]
      congr 1
      rw [Nat.pow_add, Nat.mul_assoc, Nat.mul_left_comm (xs.getD i 0)]
    rw [e5]
    omega
theorem MulRel.next {xs ys : List Nat} {i c : Nat} {O : List Nat} (h : MulRel xs ys i ys.length c O) (hi : i < xs.length) : MulRel xs ys (i + 1) 0 0 (O.set (i + ys.length) (O.getD (i + ys.length) 0 + c)) := by
  have hp : i + ys.length < O.length := by rw [h.len]; omega
  have z := h.zer (i + ys.length) (Nat.le_refl _)
  have c1 := h.car
  rw [z, Nat.zero_add]
  refine ⟨low_set h.low c1, by simp [h.len], by omega, fun p hp' => ?_, ?_⟩
  · have e := h.zer p (by omega)
    rw [List.getD_eq_getElem?_getD, List.getElem?_set] at *
    rw [if_neg (by omega)]
    exact e
  · have e1 := dval_set hp c
    have e2 := h.val
    rw [getD_in hp] at z
    rw [z] at e1
    rw [List.take_length] at e2
    rw [dval_take_getD, Nat.add_mul]
    simp only [List.take_zero, dval, Nat.mul_zero, Nat.add_zero] at *
    rw [Nat.mul_assoc]
    omega
theorem MulRel.done {xs ys : List Nat} {O : List Nat} (h : MulRel xs ys xs.length 0 0 O) : dval O = dval xs * dval ys := by
  have e := h.val
  rw [List.take_length] at e
  simpa [dval] using e

/-- A row of digits that the call made: all its cells, none frozen. -/
def Row (b : Nat) (O : List Nat) (w : World) : Prop := ∀ j, j < O.length → w.cell? ⟨b, j, none⟩ = some (.int .u64 (O.getD j 0 : Nat)) ∧ w.frozen? ⟨b, j, none⟩ = false
theorem Row.set {b : Nat} {O : List Nat} {w : World} (h : Row b O w) {p : Nat} (hp : p < O.length) (d : Nat) : Row b (O.set p d) (w.setCell ⟨b, p, none⟩ (.int .u64 (d : Int))) := by
  intro j hj
  rw [List.length_set] at hj
  refine ⟨?_, by simpa using (h j hj).2⟩
  by_cases e : p = j
  · subst e
    rw [World.cell?_setCell_same _ _ _ (h p hp).1]
    simp [List.getD_eq_getElem?_getD, List.getElem?_set, hp]
  · rw [World.cell?_setCell_other (a := ⟨b, p, none⟩) (b := ⟨b, j, none⟩) _ _ (fun e' => by cases e'; exact e rfl), (h j hj).1]
    simp [List.getD_eq_getElem?_getD, List.getElem?_set, e]
theorem Row.sat {b : Nat} {O : List Nat} {w : World} (h : Row b O w) (hb : b < w.heap.size) : SAt w.heap.size (some ⟨b, 0, none⟩) (us O) w := by
  refine ⟨fun _ => ⟨_, rfl⟩, fun a e _ => ?_⟩
  cases e
  refine ⟨hb, fun i u hu => ?_⟩
  unfold us at hu
  rw [List.getElem?_map] at hu
  obtain ⟨x, hx, rfl⟩ := Option.map_eq_some_iff.1 hu
  have hi : i < O.length := by
    rcases Nat.lt_or_ge i O.length with h' | h'
    · exact h'
    · rw [List.getElem?_eq_none h'] at hx; cases hx
  have := (h i hi).1
  rw [List.getD_eq_getElem?_getD, hx] at this
  rw [add_none, Nat.zero_add]; exact this
end Go.Proofs.Ythodlkacfcnhnaa.Nu
