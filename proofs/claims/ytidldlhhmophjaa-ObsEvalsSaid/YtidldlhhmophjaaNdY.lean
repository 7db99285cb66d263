/- Layer 1: the document's numbers: Small, MulDiv. Conditions: those written at each theorem. -/
import Derived.Test.YtidldlhhmophjaaNuR
import Derived.Test.YtidldlhhmophjaaNdX
import Derived.Deep.DeepCutAuto
import Derived.Outline
import Derived.OpenShut
namespace Go.Proofs.Ytidldlhhmophjaa.Nu
set_option linter.unusedVariables false

/-- So many digits of a number, the lowest first, noughts above. -/
def fl (n X : Nat) : List Nat := (List.range n).map fun t => X / 65536 ^ t % 65536
theorem fl_length (n X : Nat) : (fl n X).length = n := by simp [fl]
theorem fl_low (n X : Nat) : Low (fl n X) := by
  intro d hd
  simp only [fl, List.mem_map] at hd
  obtain ⟨t, _, rfl⟩ := hd
  exact Nat.mod_lt _ (by omega)
theorem fl_succ (n X : Nat) : fl (n + 1) X = X % 65536 :: fl n (X / 65536) := by
  simp only [fl, List.range_succ_eq_map, List.map_cons, List.map_map, Nat.pow_zero, Nat.div_one]
  congr 1
  apply List.map_congr_left
  intro t _
  simp only [Function.comp, Nat.pow_succ]
  rw [Nat.mul_comm, Nat.div_div_eq_div_mul]
theorem fl_val : ∀ (n X : Nat), X < 65536 ^ n → dval (fl n X) = X
  | 0, X, h => by simp at h; subst h; rfl
  | n + 1, X, h => by
    rw [fl_succ, dval, fl_val n (X / 65536) (by rw [Nat.pow_succ] at h; omega)]
    omega
theorem fl_getD {n X t : Nat} (h : t < n) : (fl n X).getD t 0 = X / 65536 ^ t % 65536 := by
  simp [fl, List.getD_eq_getElem?_getD, h]
theorem fl_zero : ∀ n : Nat, fl n 0 = List.replicate n 0
  | 0 => rfl
  | n + 1 => by rw [fl_succ, List.replicate_succ, show 0 / 65536 = 0 by decide, fl_zero n]
theorem dg_getD (A t : Nat) : (dg A).getD t 0 = A / 65536 ^ t % 65536 := by
  induction t generalizing A with
  | zero =>
    by_cases h : A = 0
    · subst h; rfl
    · rw [dg_step h]; simp
  | succ t ih =>
    by_cases h : A = 0
    · subst h; simp [dg_zero]
    · rw [dg_step h, List.getD_cons_succ, ih, Nat.div_div_eq_div_mul, Nat.pow_succ, Nat.mul_comm 65536]
theorem pow16 (t : Nat) : 65536 ^ t = 2 ^ (16 * t) := by rw [Nat.pow_mul]
/-- A bit of a number stands in its digit. -/
theorem bit_at (A i : Nat) : A / 2 ^ i % 2 = (A / 65536 ^ (i / 16) % 65536) / 2 ^ (i % 16) % 2 := by
  have e : 2 ^ i = 65536 ^ (i / 16) * 2 ^ (i % 16) := by rw [pow16, ← Nat.pow_add, Nat.div_add_mod]
  rw [e, ← Nat.div_div_eq_div_mul]
  generalize A / 65536 ^ (i / 16) = Y
  have hr : i % 16 < 16 := Nat.mod_lt _ (by omega)
  generalize i % 16 = r at *
  have : r = 0 ∨ r = 1 ∨ r = 2 ∨ r = 3 ∨ r = 4 ∨ r = 5 ∨ r = 6 ∨ r = 7 ∨ r = 8 ∨ r = 9 ∨ r = 10 ∨ r = 11 ∨ r = 12 ∨ r = 13 ∨ r = 14 ∨ r = 15 := by omega
  rcases this with h | h | h | h | h | h | h | h | h | h | h | h | h | h | h | h <;> subst h <;> simp only [Nat.reducePow] <;> omega
theorem fl_bit {X i : Nat} (h : X % 2 ^ (i + 1) = 0) : (X + 2 ^ i) / 65536 ^ (i / 16) % 65536 = X / 65536 ^ (i / 16) % 65536 + 2 ^ (i % 16) := by
  have e : 2 ^ i = 65536 ^ (i / 16) * 2 ^ (i % 16) := by rw [pow16, ← Nat.pow_add, Nat.div_add_mod]
  obtain ⟨Y, hY⟩ : ∃ Y, X = 2 ^ (i + 1) * Y := ⟨X / 2 ^ (i + 1), by have := Nat.div_add_mod X (2 ^ (i + 1)); omega⟩
  have hp : 0 < 65536 ^ (i / 16) := Nat.pow_pos (by omega)
  have e2 : X = 65536 ^ (i / 16) * (2 ^ (i % 16) * 2 * Y) := by
    rw [hY, Nat.pow_succ, e, Nat.mul_assoc, Nat.mul_assoc, Nat.mul_assoc]
  rw [e, e2, ← Nat.mul_add, Nat.mul_div_cancel_left _ hp, Nat.mul_div_cancel_left _ hp]
  have hr : i % 16 < 16 := Nat.mod_lt _ (by omega)
  generalize i % 16 = r at *
  have : r = 0 ∨ r = 1 ∨ r = 2 ∨ r = 3 ∨ r = 4 ∨ r = 5 ∨ r = 6 ∨ r = 7 ∨ r = 8 ∨ r = 9 ∨ r = 10 ∨ r = 11 ∨ r = 12 ∨ r = 13 ∨ r = 14 ∨ r = 15 := by omega
  clear e e2 hY hp h hr
  rcases this with h | h | h | h | h | h | h | h | h | h | h | h | h | h | h | h <;> subst h <;> simp only [Nat.reducePow, Nat.reduceMul] <;> omega
theorem fl_other {X i t : Nat} (h : X % 2 ^ (i + 1) = 0) (ht : t ≠ i / 16) : (X + 2 ^ i) / 65536 ^ t % 65536 = X / 65536 ^ t % 65536 := by
  obtain ⟨Y, hY⟩ : ∃ Y, X = 2 ^ (i + 1) * Y := ⟨X / 2 ^ (i + 1), by have := Nat.div_add_mod X (2 ^ (i + 1)); omega⟩
  rcases Nat.lt_or_ge t (i / 16) with h1 | h1
  · have e : 2 ^ i = 65536 ^ t * (65536 * 2 ^ (i - 16 * (t + 1))) := by
      rw [← Nat.mul_assoc, ← Nat.pow_succ, pow16, ← Nat.pow_add]; congr 1; omega
    have e2 : X = 65536 ^ t * (65536 * (2 ^ (i - 16 * (t + 1)) * 2 * Y)) := by
      rw [hY, Nat.pow_succ, e]; simp only [Nat.mul_assoc]
    have hp : 0 < 65536 ^ t := Nat.pow_pos (by omega)
    rw [e, e2, ← Nat.mul_add, Nat.mul_div_cancel_left _ hp, Nat.mul_div_cancel_left _ hp]
    omega
  · have e : 65536 ^ t = 2 ^ (i + 1) * 2 ^ (16 * t - (i + 1)) := by
      rw [pow16, ← Nat.pow_add]; congr 1; omega
    have hp : 0 < 2 ^ (i + 1) := Nat.two_pow_pos _
    have e3 : (X + 2 ^ i) / 2 ^ (i + 1) = X / 2 ^ (i + 1) := by
      rw [hY, Nat.mul_add_div hp, Nat.mul_div_cancel_left _ hp, Nat.div_eq_of_lt (by rw [Nat.pow_succ]; have := Nat.two_pow_pos i; omega), Nat.add_zero]
    rw [e, ← Nat.div_div_eq_div_mul, ← Nat.div_div_eq_div_mul, e3]
theorem fl_set {n X i : Nat} (h : X % 2 ^ (i + 1) = 0) (hi : i / 16 < n) :
    (fl n X).set (i / 16) ((fl n X).getD (i / 16) 0 + 2 ^ (i % 16)) = fl n (X + 2 ^ i) ∧ (fl n X).getD (i / 16) 0 + 2 ^ (i % 16) < 65536 := by
  have h1 := fl_bit h
  rw [fl_getD hi, ← h1]
  refine ⟨?_, Nat.mod_lt _ (by omega)⟩
  apply List.ext_getElem
  · simp [fl_length]
  · intro t h2 h3
    rw [List.getElem_set]
    split
    · rename_i e; subst e; simp [fl]
    · rename_i e
      simp only [fl, List.getElem_map, List.getElem_range]
      exact (fl_other h (fun e' => e e'.symm)).symm
/-- What stands at a round's head: the digits above were divided. -/
theorem div_bit {A B i : Nat} (hB : 0 < B) :
    (∀ M, M = 2 * (A / 2 ^ (i + 1) % B) + A / 2 ^ i % 2 →
      (B ≤ M → A / 2 ^ i % B = M - B ∧ A / 2 ^ i / B * 2 ^ i = A / 2 ^ (i + 1) / B * 2 ^ (i + 1) + 2 ^ i) ∧
      (M < B → A / 2 ^ i % B = M ∧ A / 2 ^ i / B * 2 ^ i = A / 2 ^ (i + 1) / B * 2 ^ (i + 1))) := by
  intro M hM
  have e1 : A / 2 ^ (i + 1) = A / 2 ^ i / 2 := by rw [Nat.pow_succ, Nat.div_div_eq_div_mul]
  rw [e1] at hM ⊢
  generalize A / 2 ^ i = Y at *
  have hQ := Nat.div_add_mod (Y / 2) B
  have hL := Nat.mod_lt (Y / 2) hB
  generalize Y / 2 / B = Q at *
  generalize Y / 2 % B = L at *
  have hY : Y = B * (2 * Q) + M := by
    have : B * (2 * Q) = 2 * (B * Q) := by rw [Nat.mul_left_comm]
    rw [this]; omega
  have p2 : 2 ^ (i + 1) = 2 * 2 ^ i := by rw [Nat.pow_succ, Nat.mul_comm]
  constructor
  · intro h
    have e : Y = B * (2 * Q + 1) + (M - B) := by rw [Nat.mul_add, Nat.mul_one]; omega
    have hd : Y / B = 2 * Q + 1 := by rw [e, Nat.mul_add_div hB, Nat.div_eq_of_lt (by omega), Nat.add_zero]
    have hm : Y % B = M - B := by rw [e, Nat.mul_add_mod, Nat.mod_eq_of_lt (by omega)]
    refine ⟨hm, ?_⟩
    rw [hd, p2, Nat.add_mul, Nat.one_mul, ← Nat.mul_assoc, Nat.mul_comm Q 2]
  · intro h
    have hd : Y / B = 2 * Q := by rw [hY, Nat.mul_add_div hB, Nat.div_eq_of_lt h, Nat.add_zero]
    have hm : Y % B = M := by rw [hY, Nat.mul_add_mod, Nat.mod_eq_of_lt h]
    refine ⟨hm, ?_⟩
    rw [hd, p2, ← Nat.mul_assoc, Nat.mul_comm Q 2]
/-- The state of the division with i bits to come: the digits of the quotient, the rest. -/
structure DivRel (A B n i : Nat) (O : List Nat) (L : Nat) : Prop where
  row : O = fl n (A / 2 ^ i / B * 2 ^ i)
  rest : L = A / 2 ^ i % B
theorem DivRel.start {A B : Nat} (hB : 0 < B) : DivRel A B (dg A).length (16 * (dg A).length) (List.replicate (dg A).length 0) 0 := by
  have h := dval_lt (dg_low A)
  rw [dg_val, pow16] at h
  have e : A / 2 ^ (16 * (dg A).length) = 0 := Nat.div_eq_of_lt h
  refine ⟨?_, ?_⟩
  · rw [e, Nat.zero_div, Nat.zero_mul, fl_zero]
  · rw [e, Nat.zero_mod]
theorem DivRel.less {A B n i : Nat} {O : List Nat} {L M : Nat} (hB : 0 < B) (h : DivRel A B n (i + 1) O L) (hM : M = 2 * L + A / 2 ^ i % 2) (hlt : M < B) : DivRel A B n i O M := by
  have := (div_bit (i := i) hB M (by rw [hM, h.rest])).2 hlt
  exact ⟨by rw [h.row, this.2], this.1.symm⟩
theorem DivRel.more {A B n i : Nat} {O : List Nat} {L M : Nat} (hB : 0 < B) (h : DivRel A B n (i + 1) O L) (hi : i / 16 < n) (hM : M = 2 * L + A / 2 ^ i % 2) (hle : B ≤ M) :
    DivRel A B n i (O.set (i / 16) (O.getD (i / 16) 0 + 2 ^ (i % 16))) (M - B) ∧ O.getD (i / 16) 0 + 2 ^ (i % 16) < 65536 := by
  have := (div_bit (i := i) hB M (by rw [hM, h.rest])).1 hle
  have hm : A / 2 ^ (i + 1) / B * 2 ^ (i + 1) % 2 ^ (i + 1) = 0 := Nat.mul_mod_left _ _
  have hs := fl_set (n := n) hm hi
  rw [← h.row] at hs
  exact ⟨⟨by rw [hs.1, this.2], this.1.symm⟩, hs.2⟩
theorem DivRel.done {A B : Nat} {O : List Nat} {L : Nat} (h : DivRel A B (dg A).length 0 O L) : Low O ∧ O.length = (dg A).length ∧ dval O = A / B ∧ L = A % B := by
  have h1 := h.row
  have h2 := h.rest
  simp only [Nat.pow_zero, Nat.div_one, Nat.mul_one] at h1 h2
  have hl := dval_lt (dg_low A)
  rw [dg_val] at hl
  refine ⟨h1 ▸ fl_low _ _, by rw [h1, fl_length], ?_, h2⟩
  rw [h1, fl_val _ _ (Nat.lt_of_le_of_lt (Nat.div_le_self _ _) hl)]
theorem DivRel.bound {A B n i : Nat} {O : List Nat} {L : Nat} (hB : 0 < B) (h : DivRel A B n i O L) : L < B ∧ Low O ∧ O.length = n :=
  ⟨h.rest ▸ Nat.mod_lt _ hB, h.row ▸ fl_low _ _, by rw [h.row, fl_length]⟩
end Go.Proofs.Ytidldlhhmophjaa.Nu
namespace Go.Proofs.Ytidldlhhmophjaa.Nu
open Go.RowKit Go.Sort
set_option linter.unusedSimpArgs false
set_option linter.unusedVariables false

/-- Memory while digits are divided: the quotient's row, the rest. -/
structure DivMem (w : World) (O : List Nat) (L : Nat) (lv : Value) (wr : World) : Prop where
  row : Row w.heap.size O wr
  rest : MagIs L lv wr
  far : From (w.heap.size + 1) lv
  bel : Below w.heap.size w wr
  siz : w.heap.size < wr.heap.size
theorem Row.next {b : Nat} {O : List Nat} {w w' : World} (h : Row b O w) (k : Below w.heap.size w w') (hb : b < w.heap.size) : Row b O w' := fun j hj =>
  ⟨(k.cell (p := ⟨b, j, none⟩) hb).trans (h j hj).1, (k.frozen (p := ⟨b, j, none⟩) hb).trans (h j hj).2⟩
theorem DivMem.next {w wr w' : World} {O : List Nat} {L M : Nat} {lv v : Value} (h : DivMem w O L lv wr) (k : Below wr.heap.size wr w') (hv : MagIs M v w') (hf : From wr.heap.size v) : DivMem w O M v w' :=
  ⟨h.row.next k h.siz, hv, hf.mono (by have := h.siz; omega), below_mono h.bel k (by have := h.siz; omega), Nat.lt_of_lt_of_le h.siz k.size⟩
theorem DivMem.next' {w wr w' : World} {O : List Nat} {L : Nat} {lv : Value} (h : DivMem w O L lv wr) (k : Below wr.heap.size wr w') : DivMem w O L lv w' :=
  ⟨h.row.next k h.siz, h.rest.next k, h.far, below_mono h.bel k (by have := h.siz; omega), Nat.lt_of_lt_of_le h.siz k.size⟩
theorem DivMem.drewN {w wr : World} {O : List Nat} {L : Nat} {lv : Value} (h : DivMem w O L lv wr) (n : Nat) : DivMem w O L lv (wr.drewN n) :=
  ⟨h.row, h.rest, h.far, below_drewN h.bel n, h.siz⟩
theorem DivMem.put {w wr : World} {O : List Nat} {L : Nat} {lv : Value} (h : DivMem w O L lv wr) {p : Nat} (hp : p < O.length) (d : Nat) : DivMem w (O.set p d) L lv (wr.setCell ⟨w.heap.size, p, none⟩ (.int .u64 (d : Int))) :=
  ⟨h.row.set hp d, h.rest.set _ _ (fun a k c e => by have := h.far a k c e; dsimp only; omega), h.far, h.bel.setCell (p := ⟨w.heap.size, p, none⟩) (Nat.le_refl _) _, by simpa using h.siz⟩
theorem DivMem.put' {w wr : World} {O : List Nat} {L : Nat} {lv : Value} (h : DivMem w O L lv wr) {p : Nat} (hp : p < O.length) (d : Nat) : DivMem w (O.set p d) L lv ((wr.setCell ⟨w.heap.size, p, none⟩ (.int .u64 (d : Int))).drew) := (h.put hp d).drewN 1
theorem DivMem.start (w : World) (n : Nat) : DivMem w (List.replicate n 0) 0 (.slice none 0 0) (w.alloc (.cells (madeCells #[.int .u64 0] n) 135)) :=
  ⟨made_row _ _ _ _ rfl, ⟨none, 0, rfl, Nat.le_refl _, SAt.nil _ _ _⟩, (fun a k c e => by cases e), (Below.refl _ _).alloc (Nat.le_refl _) _, by simp⟩
theorem len_twice {L B : Nat} (h : L < B) (hB : (dg B).length ≤ 100) : (dg L).length ≤ 1000 ∧ (dg (L + L)).length ≤ 1000 ∧ (dg (L + L + 1)).length ≤ 1000 := by
  have h1 := dval_lt (dg_low B)
  rw [dg_val] at h1
  have h2 : 65536 ^ (dg B).length ≤ 65536 ^ 100 := Nat.pow_le_pow_right (by omega) hB
  have e : 65536 ^ 101 = 65536 * 65536 ^ 100 := by rw [Nat.pow_succ, Nat.mul_comm]
  refine ⟨Nat.le_trans (dg_length_le (k := 101) ?_) (by omega), Nat.le_trans (dg_length_le (k := 101) ?_) (by omega), Nat.le_trans (dg_length_le (k := 101) ?_) (by omega)⟩ <;>
    (rw [e]; generalize 65536 ^ 100 = m at *; omega)
theorem dg_one : dg 1 = [1] := rfl
theorem mag_one (w : World) : MagIs 1 (.slice (some ⟨w.heap.size, 0, none⟩) 1 1) (w.alloc (.cells #[.int .u64 1] 135)) := by
  refine ⟨_, 1, by rw [dg_one]; rfl, by rw [dg_one]; exact Nat.le_refl _, ?_⟩
  rw [dg_one]
  refine ⟨fun _ => ⟨_, rfl⟩, fun x e _ => ?_⟩
  cases e
  refine ⟨by simp, fun i u hu => ?_⟩
  match i, hu with
  | 0, hu => simp [us] at hu; subst hu; simp [Addr.add]
  | k + 1, hu => simp [us] at hu
theorem cmpI_ge {x y : Nat} (h : y ≤ x) : 0 ≤ cmpI x y := by unfold cmpI; rw [if_neg (by omega)]; split <;> omega
theorem cmpI_lt {x y : Nat} (h : x < y) : cmpI x y = -1 := by unfold cmpI; rw [if_pos h]
def GivesDiv (x y : Nat) (w : World) (e : Ending) (w' : World) : Prop := ∃ v u, e = .returned (.tuple #[v, u]) ∧ MagIs (x / y) v w' ∧ MagIs (x % y) u w' ∧ Below w.heap.size w w' ∧ From w.heap.size v ∧ From w.heap.size u
set_option maxRecDepth 100000 in
set_option maxHeartbeats 4000000 in
theorem divide_any (x y : Nat) (va vb : Value) (w : World) (hx : (dg x).length ≤ 100) (hy : (dg y).length ≤ 100) (hy0 : 0 < y) (ha : MagIs x va w) (hb : MagIs y vb w) :
    Calls Try.prog 118 #[va, vb] w (GivesDiv x y w) := by
  have HB := Lib.hid hb
  obtain ⟨ao, ca, rfl, hca, sa⟩ := ha
  obtain ⟨bo, cb, rfl, hcb, sb⟩ := hb
  obtain ⟨b1, o1, h1, d1⟩ := dig_of sa
  have D1 := Lib.hid d1
  have S0 := Lib.hid (DivRel.start (A := x) hy0)
  obtain ⟨n, hn⟩ : ∃ n, n = (dg x).length := ⟨_, rfl⟩
  have hao : ao = some ⟨b1, o1, none⟩ ∧ b1 < w.heap.size ∨ n = 0 := by
    rcases h1 with h | h
    · exact .inl h
    · exact .inr (by rw [hn, h]; rfl)
  have HAO := Lib.hid hao
  rw [← hn] at S0 hx ⊢
  have HN := Lib.hid hn
  have M0 := Lib.hid (DivMem.start w n)
  have HY := Lib.hid hy
  have HY0 := Lib.hid hy0
  obtain ⟨ly, hly⟩ : ∃ n, n = (dg y).length := ⟨_, rfl⟩
  rw [← hly] at HB ⊢
  have k1 : ∀ W, (Instr.makeSlice 119 (.int .i64 (n : Int)) (.int .i64 (n : Int))).run Try.prog W = .ok (.slice (some ⟨W.heap.size, 0, none⟩) n n) (W.alloc (.cells (madeCells #[.int .u64 0] n) 135)) := fun W => by
    obtain ⟨i0, hi, hz0, hz1, hz2⟩ := info_parts u64Info
    have := run_make (P := Try.prog) W 119 135 i0 (.int .u64 0) Try.underlying119 hi hz0 .i64 .i64 (n : Int) (n : Int) (by omega) (by omega) (by rw [hz2]; omega) (by omega)
    rw [hz1, show ((n : Int)).toNat = n by omega, Nat.mul_one] at this
    exact this
  have LEN : Hid (∀ L, L < y → (dg L).length ≤ 1000 ∧ (dg (L + L)).length ≤ 1000 ∧ (dg (L + L + 1)).length ≤ 1000) := Lib.hid fun L h => len_twice h hy
  clear sa sb h1 d1 hn hao hca hcb hy hy0 hly
  go_enter Try.func118, Try.ntmps118
  go_wp2_with fail
  go_loopw [7, 8] (fun lv ii wr => ∃ (j L : Nat) (O : List Nat), j ≤ 16 * n ∧ ii = .int .i64 ((j : Int) - 1) ∧ Hid (DivRel x y n j O L) ∧ Hid (DivMem w O L lv wr)) (fun _ ii _ => (intOf ii + 1).toNat)
  case atStart => exact ⟨16 * n, 0, _, Nat.le_refl _, by first | rfl | (congr 1; omega), S0, M0⟩
  case round =>
    obtain ⟨j, L, O, hj, rfl, HR, HM⟩ := hrel
    clear S0 M0 k1
    obtain ⟨wo, rfl⟩ : ∃ wo : World, wo = wr := ⟨_, rfl⟩
    rcases j with _ | i
    · have hDone' : Low O ∧ O.length = (dg x).length ∧ dval O = x / y ∧ L = x % y := DivRel.done (show DivRel x y (dg x).length 0 O L by rw [← HN.out]; exact HR.out)
      rw [show (((0 : Nat) : Int) - 1) = -1 by omega]
      have hOl : O.length = n := hDone'.2.1.trans HN.out.symm
      have T1 := Lib.hid (trim_any (B := wo.heap.size) (some ⟨w.heap.size, 0, none⟩) n O wo hDone'.1 (by omega) (by omega) (HM.out.row.sat HM.out.siz))
      rw [hOl] at T1
      have HOL := Lib.hid hOl
      have HD := Lib.hid hDone'
      clear hOl hDone'
      go_wp2_with fail
      refine T1.out.mono ?_
      rintro e w1 ht
      obtain ⟨hw1, k, rfl, hm⟩ := ht.mag (HM.out.row.sat HM.out.siz) (by rw [HOL.out]; exact Nat.le_refl _)
      subst hw1
      have HMG := Lib.hid hm
      clear ht hm T1
      go_wp2_with fail
      go_ret2
      refine ⟨_, _, rfl, ?_, ?_, HM.out.bel, (fun a m c e => by cases e; exact Nat.le_refl _), HM.out.far.mono (Nat.le_succ _)⟩
      · have := HMG.out
        rwa [HD.out.2.2.1] at this
      · have := HM.out.rest
        rwa [HD.out.2.2.2] at this
    · have hi0 : (((i + 1 : Nat) : Int) - 1) = (i : Int) := by omega
      rw [hi0]
      clear hi0
      have hbd := HR.out.bound HY0.out
      have HL := Lib.hid (LEN.out L hbd.1)
      have HOL := Lib.hid hbd.2.2
      have C1 := Lib.hid (add_any L L _ _ wo HL.out.1 HL.out.1 HM.out.rest HM.out.rest)
      obtain ⟨t, ht⟩ : ∃ t, t = i / 16 := ⟨_, rfl⟩
      obtain ⟨r, hr⟩ : ∃ r, r = i % 16 := ⟨_, rfl⟩
      have tn : t < n := by omega
      have r16 : r < 16 := by omega
      obtain ⟨rfl, hb1⟩ : ao = some ⟨b1, o1, none⟩ ∧ b1 < w.heap.size := HAO.out.resolve_right (by omega)
      have cd := D1.out t (by rw [← HN.out]; exact tn)
      have bd := low_getD (dg_low x) t
      have hbit := bit_at x i
      rw [← ht, ← hr, ← dg_getD] at hbit
      obtain ⟨d, hd⟩ : ∃ d, d = (dg x).getD t 0 := ⟨_, rfl⟩
      rw [← hd] at cd bd hbit
      obtain ⟨q, hq⟩ : ∃ q, q = d / 2 ^ r := ⟨_, rfl⟩
      rw [← hq] at hbit
      have x1 : (i : Int) / 16 = (t : Int) := by omega
      have x2 : (i : Int).tdiv 16 = (t : Int) := by rw [Int.tdiv_eq_ediv_of_nonneg (by omega)]; exact x1
      have x3 : (i : Int) % 16 = (r : Int) := by omega
      have x4 : (i : Int).tmod 16 = (r : Int) := by rw [Int.tmod_eq_emod_of_nonneg (by omega)]; exact x3
      have x5 : (d : Int) / 2 ^ r = (q : Int) := by rw [hq, Int.natCast_ediv, Int.natCast_pow]; rfl
      have i0' : (0 : Int) ≤ (i : Int) := by omega
      have tI : (t : Int) < (n : Int) := by omega
      have t0 : (0 : Int) ≤ (t : Int) := by omega
      have r0 : (0 : Int) ≤ (r : Int) := by omega
      have rI : (r : Int) < 64 := by omega
      have iI : (i : Int) < 1600 := by omega
      have HBIT := Lib.hid hbit
      have CD := Lib.hid cd
      have HT := Lib.hid ht
      have HRR := Lib.hid hr
      clear hbit cd hbd ht hr hd hq
      go_wp2_with fail
      refine C1.out.mono ?_
      rintro e w1 ⟨v1, rfl, hm1, hB1, hf1⟩
      have M1 := Lib.hid (HM.out.next hB1 hm1 hf1)
      clear hm1 hB1 hf1 C1
      have cd : w1.cell? ⟨b1, o1 + t, none⟩ = some (.int .u64 (d : Int)) := (M1.out.bel.cell (p := ⟨b1, o1 + t, none⟩) hb1).trans CD.out
      have HYL : Hid ((dg y).length ≤ 1000) := Lib.hid (by have := HY.out; omega)
      have hP : 2 ^ r ≤ 32768 := Nat.pow_le_pow_right (n := 2) (i := r) (j := 15) (by omega) (by omega)
      obtain ⟨P, hPP⟩ : ∃ P, P = 2 ^ r := ⟨_, rfl⟩
      rw [← hPP] at hP
      have p1 : (2 : Int) ^ r = (P : Int) := by rw [hPP, Int.natCast_pow]; rfl
      have p2 : IntKind.u64.wrap (P : Int) = (P : Int) := by rw [IntKind.wrap_u64]; omega
      have HPP := Lib.hid hPP
      have P1 := Lib.hid p1
      clear hPP p1
      by_cases hq1 : q % 2 = 1
      · have y1 : (q : Int) % 2 = 1 := by omega
        have HMM : Hid (L + L + 1 = 2 * L + x / 2 ^ i % 2) := Lib.hid (by rw [HBIT.out, hq1]; omega)
        obtain ⟨M, hM⟩ : ∃ M, M = L + L + 1 := ⟨_, rfl⟩
        rw [← hM] at HMM
        have HLM : Hid ((dg M).length ≤ 1000) := Lib.hid (by rw [hM]; exact HL.out.2.2)
        have HK : Hid (L + L + 1 = M) := Lib.hid hM.symm
        clear hM hq1
        go_wp2_with fail
        have hk1 : Below w1.heap.size w1 (w1.alloc (.cells #[.int .u64 1] 135)) := (Below.refl _ _).alloc (Nat.le_refl _) _
        have C2 := Lib.hid (add_any (L + L) 1 _ _ _ HL.out.2.1 (by rw [dg_one]; decide) (M1.out.rest.next hk1) (mag_one w1))
        clear hk1
        refine C2.out.mono ?_
        rintro e w2 ⟨v2, rfl, hm2, hB2, hf2⟩
        have M2 : Hid (DivMem w O M v2 w2) := Lib.hid (by
          rw [← HK.out]
          exact M1.out.next (((Below.refl _ _).alloc (Nat.le_refl _) _).trans (hB2.mono (by simp))) hm2 (hf2.mono (by simp)))
        clear hm2 hB2 hf2 C2 M1 cd y1
        by_cases hle : y ≤ M
        · have hc0 := cmpI_ge hle
          have C3 := Lib.hid (cmp_any M y _ _ w2 HLM.out HYL.out M2.out.rest (HB.out.next M2.out.bel))
          obtain ⟨c, hc⟩ : ∃ c, c = cmpI M y := ⟨_, rfl⟩
          rw [← hc] at C3 hc0
          have HS := HR.out.more (i := i) HY0.out (by rw [← HT.out]; exact tn) HMM.out hle
          rw [← HT.out, ← HRR.out, ← HPP.out] at HS
          have hg := HS.2
          have HS1 := Lib.hid HS.1
          obtain ⟨g, hgg⟩ : ∃ g, g = O.getD t 0 := ⟨_, rfl⟩
          rw [← hgg] at hg HS1
          have HGG := Lib.hid hgg
          have HLE := Lib.hid hle
          clear hc HS hgg hle
          go_wp2_with fail
          refine C3.out.mono ?_
          rintro e w3 ⟨rfl, hB3⟩
          have M3 := Lib.hid (M2.out.next' hB3)
          clear hB3 C3 M2
          go_wp2_with fail
          refine (sub_any M y _ _ _ HLE.out HLM.out HYL.out M3.out.rest (HB.out.next M3.out.bel)).mono ?_
          rintro e w4 ⟨v4, rfl, hm4, hB4, hf4⟩
          have M4 := Lib.hid (M3.out.next hB4 hm4 hf4)
          clear hm4 hB4 hf4 M3
          have hpO : t < O.length := by rw [HOL.out]; exact tn
          obtain ⟨kO, fO⟩ := M4.out.row t hpO
          rw [← HGG.out] at kO
          obtain ⟨s, hs⟩ : ∃ s, s = g + P := ⟨_, rfl⟩
          have s1 : (g : Int) + (P : Int) = (s : Int) := by omega
          have s2 : IntKind.u64.wrap (s : Int) = (s : Int) := by rw [IntKind.wrap_u64]; omega
          have s3 : IntKind.u64.wrap ((g : Int) + (P : Int)) = (s : Int) := by rw [s1, s2]
          have HSS := Lib.hid hs
          have p1 := P1.out
          have HPO := Lib.hid hpO
          clear hs hpO hg
          go_wp2_with fail
          go_region
          all_goals (go_wp2_with fail)
          all_goals go_roundw
          all_goals (first
            | (case rel => exact ⟨i, M - y, O.set t s, by omega, rfl, by rw [HSS.out]; exact HS1, Lib.hid (M4.out.put' HPO.out s)⟩)
            | (case measure => simp [intOf]))
        · have hc0 : cmpI M y = -1 := cmpI_lt (by omega)
          have C3 := Lib.hid (cmp_any M y _ _ w2 HLM.out HYL.out M2.out.rest (HB.out.next M2.out.bel))
          rw [hc0] at C3
          have HS1 := Lib.hid (HR.out.less HY0.out HMM.out (by omega))
          clear hc0 hle
          go_wp2_with fail
          refine C3.out.mono ?_
          rintro e w3 ⟨rfl, hB3⟩
          have M3 := Lib.hid (M2.out.next' hB3)
          clear hB3 C3 M2
          go_wp2_with fail
          go_roundw
          case rel => exact ⟨i, M, O, by omega, rfl, HS1, M3⟩
          case measure => simp [intOf]
      · have y1 : (q : Int) % 2 = 0 := by omega
        have HMM : Hid (L + L = 2 * L + x / 2 ^ i % 2) := Lib.hid (by rw [HBIT.out]; omega)
        obtain ⟨M, hM⟩ : ∃ M, M = L + L := ⟨_, rfl⟩
        rw [← hM] at HMM
        have HLM : Hid ((dg M).length ≤ 1000) := Lib.hid (by rw [hM]; exact HL.out.2.1)
        have M2 : Hid (DivMem w O M v1 w1) := Lib.hid (by rw [hM]; exact M1.out)
        clear hM hq1
        obtain ⟨w2, hw2⟩ : ∃ w2, w2 = w1 := ⟨_, rfl⟩
        obtain ⟨v2, hv2⟩ : ∃ v2, v2 = v1 := ⟨_, rfl⟩
        subst hw2 hv2
        clear M1
        by_cases hle : y ≤ M
        · have hc0 := cmpI_ge hle
          have C3 := Lib.hid (cmp_any M y _ _ w2 HLM.out HYL.out M2.out.rest (HB.out.next M2.out.bel))
          obtain ⟨c, hc⟩ : ∃ c, c = cmpI M y := ⟨_, rfl⟩
          rw [← hc] at C3 hc0
          have HS := HR.out.more (i := i) HY0.out (by rw [← HT.out]; exact tn) HMM.out hle
          rw [← HT.out, ← HRR.out, ← HPP.out] at HS
          have hg := HS.2
          have HS1 := Lib.hid HS.1
          obtain ⟨g, hgg⟩ : ∃ g, g = O.getD t 0 := ⟨_, rfl⟩
          rw [← hgg] at hg HS1
          have HGG := Lib.hid hgg
          have HLE := Lib.hid hle
          clear hc HS hgg hle
          go_wp2_with fail
          refine C3.out.mono ?_
          rintro e w3 ⟨rfl, hB3⟩
          have M3 := Lib.hid (M2.out.next' hB3)
          clear hB3 C3 M2
          go_wp2_with fail
          refine (sub_any M y _ _ _ HLE.out HLM.out HYL.out M3.out.rest (HB.out.next M3.out.bel)).mono ?_
          rintro e w4 ⟨v4, rfl, hm4, hB4, hf4⟩
          have M4 := Lib.hid (M3.out.next hB4 hm4 hf4)
          clear hm4 hB4 hf4 M3
          have hpO : t < O.length := by rw [HOL.out]; exact tn
          obtain ⟨kO, fO⟩ := M4.out.row t hpO
          rw [← HGG.out] at kO
          obtain ⟨s, hs⟩ : ∃ s, s = g + P := ⟨_, rfl⟩
          have s1 : (g : Int) + (P : Int) = (s : Int) := by omega
          have s2 : IntKind.u64.wrap (s : Int) = (s : Int) := by rw [IntKind.wrap_u64]; omega
          have s3 : IntKind.u64.wrap ((g : Int) + (P : Int)) = (s : Int) := by rw [s1, s2]
          have HSS := Lib.hid hs
          have p1 := P1.out
          have HPO := Lib.hid hpO
          clear hs hpO hg
          go_wp2_with fail
          go_region
          all_goals (go_wp2_with fail)
          all_goals go_roundw
          all_goals (first
            | (case rel => exact ⟨i, M - y, O.set t s, by omega, rfl, by rw [HSS.out]; exact HS1, Lib.hid (M4.out.put' HPO.out s)⟩)
            | (case measure => simp [intOf]))
        · have hc0 : cmpI M y = -1 := cmpI_lt (by omega)
          have C3 := Lib.hid (cmp_any M y _ _ w2 HLM.out HYL.out M2.out.rest (HB.out.next M2.out.bel))
          rw [hc0] at C3
          have HS1 := Lib.hid (HR.out.less HY0.out HMM.out (by omega))
          clear hc0 hle
          go_wp2_with fail
          refine C3.out.mono ?_
          rintro e w3 ⟨rfl, hB3⟩
          have M3 := Lib.hid (M2.out.next' hB3)
          clear hB3 C3 M2
          go_wp2_with fail
          go_roundw
          case rel => exact ⟨i, M, O, by omega, rfl, HS1, M3⟩
          case measure => simp [intOf]
end Go.Proofs.Ytidldlhhmophjaa.Nu
namespace Go.Proofs.Ytidldlhhmophjaa.Nu
open Go.RowKit Go.Sort
set_option linter.unusedSimpArgs false
set_option linter.unusedVariables false

def SumPost (T : Int) (e : Ending) : Prop :=
  (-9223372036854775808 ≤ T ∧ T ≤ 9223372036854775807 → e = .returned (.tuple #[.int .i64 T, .bool true])) ∧ (¬ (-9223372036854775808 ≤ T ∧ T ≤ 9223372036854775807) → e = .returned (.tuple #[.int .i64 0, .bool false]))
theorem wrap_neg (n : Nat) (h : n ≤ 9223372036854775808) : IntKind.i64.wrap (IntKind.u64.wrap (-(n : Int))) = -(n : Int) := by rw [IntKind.wrap_u64, IntKind.wrap_i64]; omega
theorem dval_drop {l : List Nat} {k : Nat} (h : k < l.length) : dval (l.drop k) = l[k] + 65536 * dval (l.drop (k + 1)) := by
  rw [List.drop_eq_getElem_cons h, dval]
theorem dval_drop_le (l : List Nat) (k : Nat) : dval (l.drop k) ≤ dval l := by
  rcases Nat.lt_or_ge l.length k with h | h
  · rw [List.drop_eq_nil_of_le (by omega)]; simp [dval]
  · have e := dval_split l k h
    have : dval (l.drop k) ≤ 65536 ^ k * dval (l.drop k) := Nat.le_mul_of_pos_left _ (Nat.pow_pos (by omega))
    omega
theorem dg64_len {n : Nat} (h : n ≤ 18446744073709551615) : (dg n).length ≤ 1000 := Nat.le_trans (dg_length_le (k := 4) (by omega)) (by omega)

set_option maxRecDepth 100000 in
set_option maxHeartbeats 4000000 in
theorem small_walk (z : Int) (va : Value) (w : World) (hx : (dg z.natAbs).length ≤ 1000) (ha : BigIs z va w) (c1 c2 : Int)
    (h1 : c1 = if z < 9223372036854775807 then -1 else if 9223372036854775807 < z then 1 else 0) (h2 : c2 = if z < -9223372036854775808 then -1 else if -9223372036854775808 < z then 1 else 0) :
    Calls Try.prog 78 #[va] w fun e w' => SumPost z e ∧ Below w.heap.size w w' := by
  have G1 : Hid (∀ W, Calls Try.prog 77 #[.int .i64 9223372036854775807] W (GivesBig 9223372036854775807 W)) := Lib.hid (fun W => of_any 9223372036854775807 (by omega) (by omega) W)
  have G2 : Hid (∀ W, Calls Try.prog 77 #[.int .i64 (-9223372036854775808)] W (GivesBig (-9223372036854775808) W)) := Lib.hid (fun W => of_any (-9223372036854775808) (by omega) (by omega) W)
  have G3 : Hid (∀ W vc, Below w.heap.size w W → BigIs 9223372036854775807 vc W → Calls Try.prog 100 #[va, vc] W fun e w' => e = .returned (.int .i64 c1) ∧ Below W.heap.size W w') := Lib.hid (fun W vc hW hc => by
    rw [h1]; exact cmpb_any _ _ _ _ _ hx (dg64_len (by omega)) (ha.next hW) hc)
  have G4 : Hid (∀ W vc, Below w.heap.size w W → BigIs (-9223372036854775808) vc W → Calls Try.prog 100 #[va, vc] W fun e w' => e = .returned (.int .i64 c2) ∧ Below W.heap.size W w') := Lib.hid (fun W vc hW hc => by
    rw [h2]; exact cmpb_any _ _ _ _ _ hx (dg64_len (by omega)) (ha.next hW) hc)
  obtain ⟨ma, rfl, ao, ca, rfl, _, hs⟩ := ha
  have HS := Lib.hid hs
  clear hs
  obtain ⟨g, hg⟩ : ∃ g, g = decide (z < 0) := ⟨_, rfl⟩
  obtain ⟨la, hla⟩ : ∃ k, k = (dg z.natAbs).length := ⟨_, rfl⟩
  rw [← hla, ← hg] at G3 G4 ⊢
  have HLA := Lib.hid hla
  have HG := Lib.hid hg
  have H1 := Lib.hid h1
  have H2 := Lib.hid h2
  have hla2 : la ≤ 1000 := by omega
  clear hla hg hx h1 h2
  have K1 : Hid (Below w.heap.size w (w.alloc (.cells #[.bool g, .slice ao la ca] 121))) := Lib.hid ((Below.refl _ _).alloc (Nat.le_refl _) _)
  rcases Int.lt_or_le 9223372036854775807 z with hz | hz
  · have t1 : c1 = 1 := by rw [H1.out, if_neg (by omega), if_pos hz]
    subst t1
    clear G2 G4
    go_enter Try.func78, Try.ntmps78
    go_wp2_with fail
    first | go_region_with (first | (go_at_call 77; (with_reducible refine (G1.out _).mono ?_); rintro e w1 ⟨v, rfl, hm, hB⟩; have HM := Lib.hid hm; have HC : Hid (Below (w.heap.size + 1) (w.alloc (.cells #[.bool g, .slice ao la ca] 121)) w1) := Lib.hid (undraw (by simpa using hB)); have s0 := box_one _ _ _ _ HC.out 0; have s1 := box_one _ _ _ _ HC.out 1; simp at s0 s1; have HK : Hid (Below w.heap.size w w1) := Lib.hid (K1.out.trans (HC.out.mono (by omega))); clear hm hB) | (go_at_call 100; (with_reducible refine (G3.out _ _ HK.out HM.out).mono ?_); rintro e w2 ⟨rfl, hB2⟩; have HD : Hid (Below (w.heap.size + 1) (w.alloc (.cells #[.bool g, .slice ao la ca] 121)) w2) := Lib.hid (HC.out.trans (hB2.mono (by have := HC.out.size; simp at this ⊢; omega))); clear s0 s1 HK HC; have HC := HD; clear HD; have s0 := box_one _ _ _ _ HC.out 0; have s1 := box_one _ _ _ _ HC.out 1; simp at s0 s1; have HK : Hid (Below w.heap.size w w2) := Lib.hid (K1.out.trans (HC.out.mono (by omega))); clear hB2)) | fail
    all_goals go_wp2_with fail
    all_goals go_ret2
    all_goals exact ⟨⟨fun h => absurd hz (by omega), fun _ => rfl⟩, HK.out⟩
  · rcases Int.lt_or_le z (-9223372036854775808) with hy | hy
    · have t1 : c1 = -1 := by rw [H1.out, if_pos (by omega)]
      have t2 : c2 = -1 := by rw [H2.out, if_pos hy]
      subst t1 t2
      go_enter Try.func78, Try.ntmps78
      go_wp2_with fail
      first | go_region_with (first | (go_at_call 77; (with_reducible refine (G1.out _).mono ?_); rintro e w1 ⟨v, rfl, hm, hB⟩; have HM := Lib.hid hm; have HC : Hid (Below (w.heap.size + 1) (w.alloc (.cells #[.bool g, .slice ao la ca] 121)) w1) := Lib.hid (undraw (by simpa using hB)); have s0 := box_one _ _ _ _ HC.out 0; have s1 := box_one _ _ _ _ HC.out 1; simp at s0 s1; have HK : Hid (Below w.heap.size w w1) := Lib.hid (K1.out.trans (HC.out.mono (by omega))); clear hm hB) | (go_at_call 77; (with_reducible refine (G2.out _).mono ?_); rintro e w3 ⟨v2, rfl, hm, hB⟩; have HM2 := Lib.hid hm; have HD : Hid (Below (w.heap.size + 1) (w.alloc (.cells #[.bool g, .slice ao la ca] 121)) w3) := Lib.hid (HC.out.trans (hB.mono (by have := HC.out.size; simp at this ⊢; omega))); clear s0 s1 HK HC; have HC := HD; clear HD; have s0 := box_one _ _ _ _ HC.out 0; have s1 := box_one _ _ _ _ HC.out 1; simp at s0 s1; have HK : Hid (Below w.heap.size w w3) := Lib.hid (K1.out.trans (HC.out.mono (by omega))); clear hm hB) | (go_at_call 100; (with_reducible refine (G3.out _ _ HK.out HM.out).mono ?_); rintro e w2 ⟨rfl, hB2⟩; have HD : Hid (Below (w.heap.size + 1) (w.alloc (.cells #[.bool g, .slice ao la ca] 121)) w2) := Lib.hid (HC.out.trans (hB2.mono (by have := HC.out.size; simp at this ⊢; omega))); clear s0 s1 HK HC; have HC := HD; clear HD; have s0 := box_one _ _ _ _ HC.out 0; have s1 := box_one _ _ _ _ HC.out 1; simp at s0 s1; have HK : Hid (Below w.heap.size w w2) := Lib.hid (K1.out.trans (HC.out.mono (by omega))); clear hB2) | (go_at_call 100; (with_reducible refine (G4.out _ _ HK.out HM2.out).mono ?_); rintro e w4 ⟨rfl, hB2⟩; have HD : Hid (Below (w.heap.size + 1) (w.alloc (.cells #[.bool g, .slice ao la ca] 121)) w4) := Lib.hid (HC.out.trans (hB2.mono (by have := HC.out.size; simp at this ⊢; omega))); clear s0 s1 HK HC; have HC := HD; clear HD; have s0 := box_one _ _ _ _ HC.out 0; have s1 := box_one _ _ _ _ HC.out 1; simp at s0 s1; have HK : Hid (Below w.heap.size w w4) := Lib.hid (K1.out.trans (HC.out.mono (by omega))); clear hB2)) | fail
      all_goals go_wp2_with fail
      all_goals go_ret2
      all_goals exact ⟨⟨fun h => absurd h.1 (by omega), fun _ => rfl⟩, HK.out⟩
    · have t1 : ¬ 0 < c1 := by rw [H1.out]; split <;> (try split) <;> omega
      have t2 : ¬ c2 < 0 := by rw [H2.out]; split <;> (try split) <;> omega
      rcases Int.lt_or_le z 0 with hn | hn
      · obtain rfl : g = true := by rw [HG.out]; simp; omega
        go_enter Try.func78, Try.ntmps78
        go_wp2_with fail
        first | go_region_with (first | (go_at_call 77; (with_reducible refine (G1.out _).mono ?_); rintro e w1 ⟨v, rfl, hm, hB⟩; have HM := Lib.hid hm; have HC : Hid (Below (w.heap.size + 1) (w.alloc (.cells #[.bool true, .slice ao la ca] 121)) w1) := Lib.hid (undraw (by simpa using hB)); have s0 := box_one _ _ _ _ HC.out 0; have s1 := box_one _ _ _ _ HC.out 1; simp at s0 s1; have HK : Hid (Below w.heap.size w w1) := Lib.hid (K1.out.trans (HC.out.mono (by omega))); clear hm hB) | (go_at_call 77; (with_reducible refine (G2.out _).mono ?_); rintro e w3 ⟨v2, rfl, hm, hB⟩; have HM2 := Lib.hid hm; have HD : Hid (Below (w.heap.size + 1) (w.alloc (.cells #[.bool true, .slice ao la ca] 121)) w3) := Lib.hid (HC.out.trans (hB.mono (by have := HC.out.size; simp at this ⊢; omega))); clear s0 s1 HK HC; have HC := HD; clear HD; have s0 := box_one _ _ _ _ HC.out 0; have s1 := box_one _ _ _ _ HC.out 1; simp at s0 s1; have HK : Hid (Below w.heap.size w w3) := Lib.hid (K1.out.trans (HC.out.mono (by omega))); clear hm hB) | (go_at_call 100; (with_reducible refine (G3.out _ _ HK.out HM.out).mono ?_); rintro e w2 ⟨rfl, hB2⟩; have HD : Hid (Below (w.heap.size + 1) (w.alloc (.cells #[.bool true, .slice ao la ca] 121)) w2) := Lib.hid (HC.out.trans (hB2.mono (by have := HC.out.size; simp at this ⊢; omega))); clear s0 s1 HK HC; have HC := HD; clear HD; have s0 := box_one _ _ _ _ HC.out 0; have s1 := box_one _ _ _ _ HC.out 1; simp at s0 s1; have HK : Hid (Below w.heap.size w w2) := Lib.hid (K1.out.trans (HC.out.mono (by omega))); clear hB2) | (go_at_call 100; (with_reducible refine (G4.out _ _ HK.out HM2.out).mono ?_); rintro e w4 ⟨rfl, hB2⟩; have HD : Hid (Below (w.heap.size + 1) (w.alloc (.cells #[.bool true, .slice ao la ca] 121)) w4) := Lib.hid (HC.out.trans (hB2.mono (by have := HC.out.size; simp at this ⊢; omega))); clear s0 s1 HK HC; have HC := HD; clear HD; have s0 := box_one _ _ _ _ HC.out 0; have s1 := box_one _ _ _ _ HC.out 1; simp at s0 s1; have HK : Hid (Below w.heap.size w w4) := Lib.hid (K1.out.trans (HC.out.mono (by omega))); clear hB2)) | fail
        all_goals go_wp2_with fail
        all_goals
          have HSS := Lib.hid (HS.out.under HK.out)
          clear t1 t2 G1 G2 G3 G4
          go_loop [4, 5] (fun u i => ∃ k : Nat, k ≤ la ∧ i = .int .i64 ((k : Int) - 1) ∧ u = .int .u64 (dval ((dg z.natAbs).drop k) : Nat)) (fun _ i => (intOf i + 1).toNat)
          case atStart => exact ⟨la, Nat.le_refl _, rfl, by rw [List.drop_eq_nil_of_le (by rw [HLA.out]; omega)]; rfl⟩
          case round =>
            obtain ⟨k, hk, rfl, rfl⟩ := hrel
            cases k with
            | zero =>
              have hu : dval ((dg z.natAbs).drop 0) = z.natAbs := by rw [List.drop_zero, dg_val]
              rw [hu]
              obtain ⟨N, hN⟩ : ∃ N, N = z.natAbs := ⟨_, rfl⟩
              have hN2 : N ≤ 9223372036854775808 := by omega
              rw [← hN]
              have y1 : IntKind.i64.wrap (IntKind.u64.wrap (-(N : Int))) = z := by rw [wrap_neg N hN2]; omega
              have HZ : Hid (-9223372036854775808 ≤ z ∧ z ≤ 9223372036854775807) := Lib.hid (by omega)
              clear hu hN
              simp only [Int.natCast_zero, Int.zero_sub]
              go_wp2_with fail
              go_ret2
              exact ⟨⟨fun _ => rfl, fun h => absurd HZ.out h⟩, HK.out⟩
            | succ j =>
              have hj : j < (dg z.natAbs).length := by rw [← HLA.out]; omega
              obtain ⟨b, off, rfl, _, hc⟩ := HSS.out.cells (by omega)
              have hcell := hc j hj
              have hd := dval_drop hj
              have hle := Nat.le_trans (dval_drop_le (dg z.natAbs) j) (Nat.le_of_eq (dg_val _))
              obtain ⟨U, hU⟩ : ∃ U, U = dval ((dg z.natAbs).drop (j + 1)) := ⟨_, rfl⟩
              obtain ⟨V, hV⟩ : ∃ V, V = dval ((dg z.natAbs).drop j) := ⟨_, rfl⟩
              obtain ⟨d, hdd⟩ : ∃ d, d = (dg z.natAbs)[j] := ⟨_, rfl⟩
              rw [← hU, ← hV, ← hdd] at hd
              rw [← hV] at hle
              rw [← hdd] at hcell
              rw [← hU]
              have HV := Lib.hid hV
              have x0 : 65536 * (U : Int) ≤ 9223372036854775808 := by omega
              have x1 : 65536 * (U : Int) + (d : Int) = (V : Int) := by omega
              have x2 : IntKind.u64.wrap (V : Int) = (V : Int) := by rw [IntKind.wrap_u64]; omega
              have e1 : ((j + 1 : Nat) : Int) - 1 = (j : Int) := by omega
              rw [e1]
              have j0 : (j : Int) < (la : Int) := by omega
              clear hU hV hdd hd e1 hj hc hle
              go_wp2_with fail
              go_round
              case rel => exact ⟨j, by omega, rfl, by first | rw [← HV.out] | rw [← HV.out, x2]⟩
              case measure => simp [intOf]
      · obtain rfl : g = false := by rw [HG.out]; simp; omega
        go_enter Try.func78, Try.ntmps78
        go_wp2_with fail
        first | go_region_with (first | (go_at_call 77; (with_reducible refine (G1.out _).mono ?_); rintro e w1 ⟨v, rfl, hm, hB⟩; have HM := Lib.hid hm; have HC : Hid (Below (w.heap.size + 1) (w.alloc (.cells #[.bool false, .slice ao la ca] 121)) w1) := Lib.hid (undraw (by simpa using hB)); have s0 := box_one _ _ _ _ HC.out 0; have s1 := box_one _ _ _ _ HC.out 1; simp at s0 s1; have HK : Hid (Below w.heap.size w w1) := Lib.hid (K1.out.trans (HC.out.mono (by omega))); clear hm hB) | (go_at_call 77; (with_reducible refine (G2.out _).mono ?_); rintro e w3 ⟨v2, rfl, hm, hB⟩; have HM2 := Lib.hid hm; have HD : Hid (Below (w.heap.size + 1) (w.alloc (.cells #[.bool false, .slice ao la ca] 121)) w3) := Lib.hid (HC.out.trans (hB.mono (by have := HC.out.size; simp at this ⊢; omega))); clear s0 s1 HK HC; have HC := HD; clear HD; have s0 := box_one _ _ _ _ HC.out 0; have s1 := box_one _ _ _ _ HC.out 1; simp at s0 s1; have HK : Hid (Below w.heap.size w w3) := Lib.hid (K1.out.trans (HC.out.mono (by omega))); clear hm hB) | (go_at_call 100; (with_reducible refine (G3.out _ _ HK.out HM.out).mono ?_); rintro e w2 ⟨rfl, hB2⟩; have HD : Hid (Below (w.heap.size + 1) (w.alloc (.cells #[.bool false, .slice ao la ca] 121)) w2) := Lib.hid (HC.out.trans (hB2.mono (by have := HC.out.size; simp at this ⊢; omega))); clear s0 s1 HK HC; have HC := HD; clear HD; have s0 := box_one _ _ _ _ HC.out 0; have s1 := box_one _ _ _ _ HC.out 1; simp at s0 s1; have HK : Hid (Below w.heap.size w w2) := Lib.hid (K1.out.trans (HC.out.mono (by omega))); clear hB2) | (go_at_call 100; (with_reducible refine (G4.out _ _ HK.out HM2.out).mono ?_); rintro e w4 ⟨rfl, hB2⟩; have HD : Hid (Below (w.heap.size + 1) (w.alloc (.cells #[.bool false, .slice ao la ca] 121)) w4) := Lib.hid (HC.out.trans (hB2.mono (by have := HC.out.size; simp at this ⊢; omega))); clear s0 s1 HK HC; have HC := HD; clear HD; have s0 := box_one _ _ _ _ HC.out 0; have s1 := box_one _ _ _ _ HC.out 1; simp at s0 s1; have HK : Hid (Below w.heap.size w w4) := Lib.hid (K1.out.trans (HC.out.mono (by omega))); clear hB2)) | fail
        all_goals go_wp2_with fail
        all_goals
          have HSS := Lib.hid (HS.out.under HK.out)
          clear t1 t2 G1 G2 G3 G4
          go_loop [4, 5] (fun u i => ∃ k : Nat, k ≤ la ∧ i = .int .i64 ((k : Int) - 1) ∧ u = .int .u64 (dval ((dg z.natAbs).drop k) : Nat)) (fun _ i => (intOf i + 1).toNat)
          case atStart => exact ⟨la, Nat.le_refl _, rfl, by rw [List.drop_eq_nil_of_le (by rw [HLA.out]; omega)]; rfl⟩
          case round =>
            obtain ⟨k, hk, rfl, rfl⟩ := hrel
            cases k with
            | zero =>
              have hu : dval ((dg z.natAbs).drop 0) = z.natAbs := by rw [List.drop_zero, dg_val]
              rw [hu]
              obtain ⟨N, hN⟩ : ∃ N, N = z.natAbs := ⟨_, rfl⟩
              have hN2 : N ≤ 9223372036854775808 := by omega
              rw [← hN]
              have HE : Hid ((N : Int) = z) := Lib.hid (by omega)
              have y2 : (N : Int) ≤ 9223372036854775807 := by omega
              have HZ : Hid (-9223372036854775808 ≤ z ∧ z ≤ 9223372036854775807) := Lib.hid (by omega)
              clear hu hN
              simp only [Int.natCast_zero, Int.zero_sub]
              go_wp2_with fail
              go_ret2
              exact ⟨⟨fun _ => by rw [← HE.out]; rfl, fun h => absurd HZ.out h⟩, HK.out⟩
            | succ j =>
              have hj : j < (dg z.natAbs).length := by rw [← HLA.out]; omega
              obtain ⟨b, off, rfl, _, hc⟩ := HSS.out.cells (by omega)
              have hcell := hc j hj
              have hd := dval_drop hj
              have hle := Nat.le_trans (dval_drop_le (dg z.natAbs) j) (Nat.le_of_eq (dg_val _))
              obtain ⟨U, hU⟩ : ∃ U, U = dval ((dg z.natAbs).drop (j + 1)) := ⟨_, rfl⟩
              obtain ⟨V, hV⟩ : ∃ V, V = dval ((dg z.natAbs).drop j) := ⟨_, rfl⟩
              obtain ⟨d, hdd⟩ : ∃ d, d = (dg z.natAbs)[j] := ⟨_, rfl⟩
              rw [← hU, ← hV, ← hdd] at hd
              rw [← hV] at hle
              rw [← hdd] at hcell
              rw [← hU]
              have HV := Lib.hid hV
              have x0 : 65536 * (U : Int) ≤ 9223372036854775808 := by omega
              have x1 : 65536 * (U : Int) + (d : Int) = (V : Int) := by omega
              have x2 : IntKind.u64.wrap (V : Int) = (V : Int) := by rw [IntKind.wrap_u64]; omega
              have e1 : ((j + 1 : Nat) : Int) - 1 = (j : Int) := by omega
              rw [e1]
              have j0 : (j : Int) < (la : Int) := by omega
              clear hU hV hdd hd e1 hj hc hle
              go_wp2_with fail
              go_round
              case rel => exact ⟨j, by omega, rfl, by first | rw [← HV.out] | rw [← HV.out, x2]⟩
              case measure => simp [intOf]

theorem small_any (z : Int) (va : Value) (w : World) (hx : (dg z.natAbs).length ≤ 1000) (ha : BigIs z va w) :
    Calls Try.prog 78 #[va] w fun e w' => SumPost z e ∧ Below w.heap.size w w' := small_walk z va w hx ha _ _ rfl rfl

theorem SumPost.ans {z : Int} {e : Ending} (h : SumPost z e) : ∃ n ok, e = .returned (.tuple #[.int .i64 n, .bool ok]) ∧ Ans z n ok := by
  by_cases hr : -9223372036854775808 ≤ z ∧ z ≤ 9223372036854775807
  · exact ⟨z, true, h.1 hr, fun _ => ⟨rfl, rfl⟩, fun h' => absurd hr h'⟩
  · exact ⟨0, false, h.2 hr, fun h' => absurd h' hr, fun _ => ⟨rfl, rfl⟩⟩
theorem Ans.post {z n : Int} {ok : Bool} {e : Ending} (h : Ans z n ok) (he : SumPost z e) : e = .returned (.tuple #[.int .i64 n, .bool ok]) := by
  by_cases hr : -9223372036854775808 ≤ z ∧ z ≤ 9223372036854775807
  · obtain ⟨rfl, rfl⟩ := h.1 hr; exact he.1 hr
  · obtain ⟨rfl, rfl⟩ := h.2 hr; exact he.2 hr
/-- Memory while a quotient is rounded: the boxes of both numbers and of the result. -/
structure OvMem (w : World) (g h : Bool) (ma mb : Value) (wr : World) : Prop where
  a0 : wr.cell? ⟨w.heap.size, 0, none⟩ = some (.bool g)
  a1 : wr.cell? ⟨w.heap.size, 1, none⟩ = some ma
  b0 : wr.cell? ⟨w.heap.size + 1, 0, none⟩ = some (.bool h)
  b1 : wr.cell? ⟨w.heap.size + 1, 1, none⟩ = some mb
  r0 : wr.cell? ⟨w.heap.size + 1 + 1, 0, none⟩ = some (.bool false)
  r1 : wr.cell? ⟨w.heap.size + 1 + 1, 1, none⟩ = some (.slice none 0 0)
  f0 : wr.frozen? ⟨w.heap.size + 1 + 1, 0, none⟩ = false
  f1 : wr.frozen? ⟨w.heap.size + 1 + 1, 1, none⟩ = false
  bel : Below w.heap.size w wr
  siz : w.heap.size + 1 + 1 < wr.heap.size
theorem OvMem.start (w : World) (g h : Bool) (ma mb : Value) :
    OvMem w g h ma mb (((w.alloc (.cells #[.bool g, ma] 121)).alloc (.cells #[.bool h, mb] 121)).alloc (.cells #[.bool false, .slice none 0 0] 121)) := by
  have K : Below (w.heap.size + 1 + 1 + 1) (((w.alloc (.cells #[.bool g, ma] 121)).alloc (.cells #[.bool h, mb] 121)).alloc (.cells #[.bool false, .slice none 0 0] 121)) (((w.alloc (.cells #[.bool g, ma] 121)).alloc (.cells #[.bool h, mb] 121)).alloc (.cells #[.bool false, .slice none 0 0] 121)) := Below.refl _ _
  have b := two_boxes w _ _ _ _ _ _ K
  have c := box_three w _ _ _ _ _ K
  exact ⟨b.1 0, b.1 1, b.2 0, b.2 1, c.1 0, c.1 1, c.2 0, c.2 1, (((Below.refl _ _).alloc (Nat.le_refl _) _).alloc (by simp) _).alloc (by simp; omega) _, by simp⟩
theorem OvMem.next {w wr w' : World} {g h : Bool} {ma mb : Value} (t : OvMem w g h ma mb wr) (k : Below wr.heap.size wr w') : OvMem w g h ma mb w' := by
  have s := t.siz
  exact ⟨(k.cell (p := ⟨_, _, none⟩) (by dsimp only; omega)).trans t.a0, (k.cell (p := ⟨_, _, none⟩) (by dsimp only; omega)).trans t.a1, (k.cell (p := ⟨_, _, none⟩) (by dsimp only; omega)).trans t.b0, (k.cell (p := ⟨_, _, none⟩) (by dsimp only; omega)).trans t.b1, (k.cell (p := ⟨_, _, none⟩) (by dsimp only; omega)).trans t.r0, (k.cell (p := ⟨_, _, none⟩) (by dsimp only; omega)).trans t.r1, (k.frozen (p := ⟨_, _, none⟩) (by dsimp only; omega)).trans t.f0, (k.frozen (p := ⟨_, _, none⟩) (by dsimp only; omega)).trans t.f1, below_mono t.bel k (by omega), Nat.lt_of_lt_of_le s k.size⟩
theorem sgn_big (g : Bool) (n : Nat) : (sgn g n).natAbs = n ∧ decide (sgn g n < 0) = (g && decide (0 < n)) := by
  unfold sgn
  cases g
  · refine ⟨by simp, ?_⟩
    simp
  · refine ⟨by simp, ?_⟩
    rw [Bool.eq_iff_iff]; simp
theorem len_up {q r y : Nat} {g : Bool} {mode : Int} (h : (dg q).length ≤ 100) : (dg q).length ≤ 1000 ∧ (dg (q + 1)).length ≤ 1000 := by
  have h1 := dval_lt (dg_low q)
  rw [dg_val] at h1
  have h2 : 65536 ^ (dg q).length ≤ 65536 ^ 100 := Nat.pow_le_pow_right (by omega) h
  have e : 65536 ^ 101 = 65536 * 65536 ^ 100 := by rw [Nat.pow_succ, Nat.mul_comm]
  refine ⟨by omega, Nat.le_trans (dg_length_le (k := 101) ?_) (by omega)⟩
  rw [e]; generalize 65536 ^ 100 = m at *; omega
set_option maxRecDepth 100000 in
set_option maxHeartbeats 4000000 in
theorem over_any (x y : Int) (va vb : Value) (mode : Int) (w : World) (hx : (dg x.natAbs).length ≤ 100) (hy : (dg y.natAbs).length ≤ 100) (hy0 : y ≠ 0) (m0 : 0 ≤ mode) (m3 : mode ≤ 3) (ha : BigIs x va w) (hb : BigIs y vb w) :
    Calls Try.prog 105 #[va, vb, .int .i64 mode] w (GivesBig (rq x y mode) w) := by
  obtain ⟨ma, rfl, hma⟩ := ha
  obtain ⟨mb, rfl, hmb⟩ := hb
  obtain ⟨g, hg⟩ : ∃ g, g = decide (x < 0) := ⟨_, rfl⟩
  obtain ⟨h, hh⟩ : ∃ h, h = decide (y < 0) := ⟨_, rfl⟩
  have hrq : rq x y mode = sgn (!(g == h)) (upN (x.natAbs / y.natAbs) (x.natAbs % y.natAbs) y.natAbs (!(g == h)) mode) := by rw [hg, hh]; rfl
  rw [← hg, ← hh, hrq]
  clear hrq hg hh
  have hp : 0 < y.natAbs := by omega
  obtain ⟨a, hae⟩ : ∃ a, a = x.natAbs := ⟨_, rfl⟩
  obtain ⟨b, hbe⟩ : ∃ b, b = y.natAbs := ⟨_, rfl⟩
  rw [← hae] at hx hma ⊢
  rw [← hbe] at hy hmb hp ⊢
  clear hae hbe hy0
  obtain ⟨G, hG⟩ : ∃ G, G = (!(g == h)) := ⟨_, rfl⟩
  have T0 := Lib.hid (OvMem.start w g h ma mb)
  have D0 := Lib.hid (fun W (k : Below w.heap.size w W) => divide_any a b ma mb W hx hy hp (hma.next k) (hmb.next k))
  have HMB := Lib.hid hmb
  have HX := Lib.hid hx
  have HY := Lib.hid hy
  have HP := Lib.hid hp
  obtain ⟨ao, ca, rfl, _⟩ := hma
  obtain ⟨bo, cb, rfl, _⟩ := hmb
  obtain ⟨la, hla⟩ : ∃ k, k = (dg a).length := ⟨_, rfl⟩
  obtain ⟨lb, hlb⟩ : ∃ k, k = (dg b).length := ⟨_, rfl⟩
  rw [← hla] at T0 D0 ⊢
  rw [← hlb] at T0 D0 HMB ⊢
  clear hla hlb hx hy hp
  go_enter Try.func105, Try.ntmps105
  go_wp2_with fail
  refine (D0.out _ T0.out.bel).mono ?_
  rintro e w1 ⟨v, u, rfl, hq, hr, hB, hfv, hfu⟩
  have T1 := Lib.hid (T0.out.next hB)
  have HQ := Lib.hid hq
  have HR := Lib.hid hr
  have HFV := Lib.hid (hfv.mono (Nat.le_refl _))
  obtain ⟨vo, cv, rfl, _⟩ := hq
  obtain ⟨uo, cu, rfl, _⟩ := hr
  have hrl : (dg (a % b)).length ≤ 1000 ∧ (dg (a % b + a % b)).length ≤ 1000 ∧ (dg (a % b + a % b + 1)).length ≤ 1000 := len_twice (Nat.mod_lt _ HP.out) HY.out
  have hql : (dg (a / b)).length ≤ 1000 ∧ (dg (a / b + 1)).length ≤ 1000 := len_up (q := a / b) (r := 0) (y := 0) (g := true) (mode := 0) (Nat.le_trans (len_le (Nat.div_le_self _ _)) HX.out)
  have hrb : a % b < b := Nat.mod_lt _ HP.out
  obtain ⟨q, hq⟩ : ∃ q, q = a / b := ⟨_, rfl⟩
  obtain ⟨r, hr⟩ : ∃ r, r = a % b := ⟨_, rfl⟩
  rw [← hq] at HQ hql HFV ⊢
  rw [← hr] at HR hrl hrb ⊢
  have HQL := Lib.hid hql
  have HYL : Hid ((dg b).length ≤ 1000) := Lib.hid (by have := HY.out; omega)
  have A1 : Hid (∀ W, Below w1.heap.size w1 W → Calls Try.prog 102 #[.slice uo (dg r).length cu, .slice uo (dg r).length cu] W (GivesMag (r + r) W)) := Lib.hid fun W k => add_any r r _ _ W hrl.1 hrl.1 (HR.out.next k) (HR.out.next k)
  have HB1 := Lib.hid (HMB.out.next T1.out.bel)
  have A2 : Hid (∀ W v', Below w1.heap.size w1 W → MagIs (r + r) v' W → Calls Try.prog 103 #[v', .slice bo lb cb] W fun e w' => e = .returned (.int .i64 (cmpI (r + r) b)) ∧ Below W.heap.size W w') := Lib.hid fun W v' k hv => cmp_any (r + r) b _ _ W hrl.2.1 HYL.out hv (HB1.out.next k)
  obtain ⟨lr, hlr⟩ : ∃ k, k = (dg r).length := ⟨_, rfl⟩
  obtain ⟨lq, hlq⟩ : ∃ k, k = (dg q).length := ⟨_, rfl⟩
  rw [← hlr] at A1 ⊢
  rw [← hlq] at HQ HFV ⊢
  have HLQ := Lib.hid hlq
  have HLR := Lib.hid hlr
  obtain ⟨tw, htw⟩ : ∃ t, t = cmpI (r + r) b := ⟨_, rfl⟩
  rw [← htw] at A2
  have HTW := Lib.hid htw
  have HRB := Lib.hid hrb
  have HQD := Lib.hid hq
  have HRD := Lib.hid hr
  clear hB hfv hfu hrl hql hrb hq hr hlr hlq htw T0 D0
  have a0 := T1.out.a0
  have b0 := T1.out.b0
  have b1 := T1.out.b1
  have KK : Hid (Below w1.heap.size w1 w1) := Lib.hid (Below.refl _ _)
  go_wp2_with fail
  go_region_held3 (fun w' => w'.cell? ⟨w.heap.size + 1, 1, none⟩ = some (.slice bo lb cb))
    (first | (go_keep; done) | exact b1)
    (first
    | (go_at_call 102; (with_reducible refine (A1.out _ (by first | exact KK.out | exact KK.out.drew)).mono ?_); rintro e w2 ⟨v2, rfl, hm, hB, hF⟩; have HM := Lib.hid hm; have KK' := Lib.hid (below_mono KK.out (by first | exact hB | exact undraw hB) (Nat.le_refl _)); clear hm hB hF; have KK := KK'; clear KK'; have b1 := (KK.out.cell (p := ⟨w.heap.size + 1, 1, none⟩) (by have := T1.out.siz; dsimp only; omega)).trans T1.out.b1)
    | (go_at_call 103; (with_reducible refine (A2.out _ _ (by first | exact KK.out | exact KK.out.drew) (by first | exact HM.out | exact HM.out.next (Below.refl _ _).drew)).mono ?_); rintro e w3 ⟨rfl, hB⟩; have KK' := Lib.hid (below_mono KK.out (by first | exact hB | exact undraw hB) (Nat.le_refl _)); clear hB; have KK := KK'; clear KK'; have b1 := (KK.out.cell (p := ⟨w.heap.size + 1, 1, none⟩) (by have := T1.out.siz; dsimp only; omega)).trans T1.out.b1))
  have KW : Hid (Below w1.heap.size w1 w3) := KK
  go_upto_block 0 with fail
  have TW := HTW.out
  have hGG : Hid (G = !(g == h)) := Lib.hid hG
  rw [← hG]
  clear hG
  go_cut [11] (fun up wx => up = .bool (awayB q r b G mode) ∧ w3 = wx)
  case first =>
    clear A1 A2 HM KK b1 a0 b0
    have hm : mode = 0 ∨ mode = 1 ∨ mode = 2 ∨ mode = 3 := by omega
    rcases hm with rfl | rfl | rfl | rfl
    · have U : Hid (awayB q r b G 0 = false) := Lib.hid (by simp [awayB])
      clear TW
      go_wp2_with fail
      go_meet
      exact ⟨by rw [U.out], rfl⟩
    · clear TW
      cases G
      · have U : Hid (awayB q r b false 1 = false) := Lib.hid (by simp [awayB])
        go_wp2_with fail
        go_meet
        exact ⟨by rw [U.out], rfl⟩
      · by_cases h0 : r = 0
        · have U : Hid (awayB q r b true 1 = false) := Lib.hid (by simp [awayB, h0])
          have l0 : lr = 0 := by rw [HLR.out, h0]; rfl
          have t1 : ¬ (0 : Int) < (lr : Int) := by omega
          have L0 := Lib.hid l0
          clear h0 l0
          go_wp2_with fail
          go_meet
          exact ⟨by rw [U.out]; simp [L0.out], rfl⟩
        · have U : Hid (awayB q r b true 1 = true) := Lib.hid (by simp [awayB, h0])
          have l0 : 0 < lr := by
            rw [HLR.out]
            exact Nat.pos_of_ne_zero fun e => h0 (dg_nil_iff.1 (List.length_eq_zero_iff.1 e))
          have t1 : (0 : Int) < (lr : Int) := by omega
          clear h0
          go_wp2_with fail
          go_meet
          exact ⟨by rw [U.out], rfl⟩
    · by_cases h0 : b ≤ r + r
      · have U : Hid (awayB q r b G 2 = true) := Lib.hid (by simp [awayB]; omega)
        have t1 : 0 ≤ tw := by rw [TW]; exact cmpI_ge h0
        clear h0 TW
        go_wp2_with fail
        go_meet
        exact ⟨by rw [U.out], rfl⟩
      · have U : Hid (awayB q r b G 2 = false) := Lib.hid (by simp [awayB]; omega)
        have t1 : tw = -1 := by rw [TW]; exact cmpI_lt (by omega)
        clear h0 TW
        subst t1
        go_wp2_with fail
        go_meet
        exact ⟨by rw [U.out], rfl⟩
    · rcases Nat.lt_trichotomy (r + r) b with h0 | h0 | h0
      · have U : Hid (awayB q r b G 3 = false) := Lib.hid (by simp [awayB]; omega)
        have t1 : tw = -1 := by rw [TW]; exact cmpI_lt h0
        clear h0 TW
        subst t1
        go_wp2_with fail
        go_meet
        exact ⟨by rw [U.out], rfl⟩
      · have t1 : tw = 0 := by rw [TW, h0]; unfold cmpI; simp
        have UU : awayB q r b G 3 = decide (q % 2 = 1) := by
          have : b = 2 * r := by omega
          simp [awayB, this]
        clear h0 TW
        subst t1
        by_cases hq0 : q = 0
        · have U : Hid (awayB q r b G 3 = false) := Lib.hid (by rw [UU, hq0]; rfl)
          have l0 : lq = 0 := by rw [HLQ.out, hq0]; rfl
          have t1 : ¬ (0 : Int) < (lq : Int) := by omega
          clear hq0 l0 UU
          go_wp2_with fail
          go_meet
          exact ⟨by rw [U.out], rfl⟩
        · have l0 : 0 < (dg q).length := Nat.pos_of_ne_zero fun e => hq0 (dg_nil_iff.1 (List.length_eq_zero_iff.1 e))
          have hc := HQ.out
          rw [HLQ.out] at hc
          obtain ⟨zo, zc, hz1, hz2, hz3⟩ := hc
          cases hz1
          have hz4 := hz3.next (KW.out)
          obtain ⟨bb, off, hvo, _, hcell⟩ := cells_getD hz4 l0
          subst hvo
          have c0 := hcell 0 l0
          rw [dg_getD] at c0
          simp only [Nat.pow_zero, Nat.div_one, Nat.add_zero] at c0
          obtain ⟨d, hd⟩ : ∃ d, d = q % 65536 := ⟨_, rfl⟩
          rw [← hd] at c0
          have t1 : (0 : Int) < (lq : Int) := by rw [HLQ.out]; omega
          have t2 : 0 < lq := by omega
          clear hz3 hz4 hcell hz2 l0
          by_cases h2 : q % 2 = 1
          · have U : Hid (awayB q r b G 3 = true) := Lib.hid (by rw [UU]; simp [h2])
            have t3 : (d : Int) % 2 = 1 := by omega
            clear UU hd h2 hq0
            go_wp2_with fail
            go_meet
            exact ⟨by rw [U.out], rfl⟩
          · have U : Hid (awayB q r b G 3 = false) := Lib.hid (by rw [UU]; simp [h2])
            have t3 : (d : Int) % 2 = 0 := by omega
            clear UU hd h2 hq0
            go_wp2_with fail
            go_meet
            exact ⟨by rw [U.out], rfl⟩
      · have U : Hid (awayB q r b G 3 = true) := Lib.hid (by simp [awayB]; omega)
        have t1 : tw = 1 := by rw [TW]; unfold cmpI; rw [if_neg (by omega), if_pos h0]
        clear h0 TW
        subst t1
        go_wp2_with fail
        go_meet
        exact ⟨by rw [U.out], rfl⟩
  case rest =>
    obtain ⟨rfl, rfl⟩ := hcut
    have T3 := Lib.hid (T1.out.next KW.out)
    have HQ3 := Lib.hid (HQ.out.next KW.out)
    have FQ : Hid (From (w.heap.size + 1 + 1 + 1) (.slice vo lq cv)) := Lib.hid (HFV.out.mono (by simp))
    rw [HLQ.out] at HQ3 FQ
    have hu : upN q r b G mode = q + if awayB q r b G mode then 1 else 0 := rfl
    have HU := Lib.hid hu
    clear A1 A2 HM KK b1 a0 b0 hu TW HTW T1 HQ HFV HR HRB HLR HB1 HMB KW
    obtain ⟨up, hup⟩ : ∃ u, u = awayB q r b G mode := ⟨_, rfl⟩
    rw [← hup] at HU ⊢
    clear hup
    rw [HLQ.out]
    cases up
    · have HU' : Hid (upN q r b G mode = q) := Lib.hid (by rw [HU.out]; simp)
      go_wp2_with fail
      refine (sign_any G q _ _ HQ3.out).mono ?_
      rintro e w4 ⟨rfl, hB4⟩
      have T4 := Lib.hid (T3.out.next hB4)
      have HQ4 := Lib.hid (HQ3.out.next hB4)
      clear hB4 T3 HQ3
      have t0 := T4.out.r0
      have t1 := T4.out.r1
      have t2 := T4.out.f0
      have t3 := T4.out.f1
      go_wp2_with fail
      refine bodyPost_ret (v := .agg #[.bool (G && decide (0 < q)), .slice vo (dg q).length cv]) (by simp [results, Try.results105, go_sem, t0, t1, t2, t3]) rfl ⟨_, rfl, by rw [← hGG.out, ← HQD.out, ← HRD.out, HU'.out]; exact big_end HQ4.out (sgn_big G q) FQ.out, ?_⟩
      exact ((T4.out.bel.setCell (p := ⟨w.heap.size + 1 + 1, 0, none⟩) (by dsimp only; omega) _).setCell (p := ⟨w.heap.size + 1 + 1, 1, none⟩) (by dsimp only; omega) _)
    · have HU' : Hid (upN q r b G mode = q + 1) := Lib.hid (by rw [HU.out]; simp)
      go_wp2_with fail
      refine (add_any q 1 _ _ _ HQL.out.1 (by rw [dg_one]; decide) (HQ3.out.next ((Below.refl _ _).alloc (Nat.le_refl _) _)) (mag_one _)).mono ?_
      rintro e w4 ⟨v4, rfl, hm4, hB4, hf4⟩
      have KB : Below w3.heap.size w3 w4 := ((Below.refl _ _).alloc (Nat.le_refl _) _).trans (hB4.mono (by simp))
      have T4 := Lib.hid (T3.out.next KB)
      have HQ4 := Lib.hid hm4
      have F4 : Hid (From (w.heap.size + 1 + 1 + 1) v4) := Lib.hid (hf4.mono (by have := T3.out.siz; simp; omega))
      clear hm4 hB4 hf4 KB T3 HQ3 FQ
      go_wp2_with fail
      refine (sign_any G (q + 1) _ _ HQ4.out).mono ?_
      rintro e w5 ⟨rfl, hB5⟩
      have T5 := Lib.hid (T4.out.next hB5)
      have HQ5 := Lib.hid (HQ4.out.next hB5)
      clear hB5 T4 HQ4
      have t0 := T5.out.r0
      have t1 := T5.out.r1
      have t2 := T5.out.f0
      have t3 := T5.out.f1
      have hq5 := HQ5.out
      obtain ⟨ho, hc, rfl, _⟩ := id hq5
      clear hq5
      go_wp2_with fail
      refine bodyPost_ret (v := .agg #[.bool G, .slice ho (dg (q + 1)).length hc]) (by simp [results, Try.results105, go_sem, t0, t1, t2, t3]) rfl ⟨_, rfl, by rw [← hGG.out, ← HQD.out, ← HRD.out, HU'.out]; exact big_end HQ5.out ⟨(sgn_big G (q + 1)).1, by rw [(sgn_big G (q + 1)).2]; simp⟩ F4.out, ?_⟩
      exact ((T5.out.bel.setCell (p := ⟨w.heap.size + 1 + 1, 0, none⟩) (by dsimp only; omega) _).setCell (p := ⟨w.heap.size + 1 + 1, 1, none⟩) (by dsimp only; omega) _)
end Go.Proofs.Ytidldlhhmophjaa.Nu
namespace Go.Proofs.Ytidldlhhmophjaa.Nu
open Go.RowKit Go.Sort
set_option linter.unusedSimpArgs false
set_option linter.unusedVariables false

set_option maxRecDepth 100000 in
theorem rmd_bad (a b c mode : Int) (h : c = 0 ∨ mode < 0 ∨ 3 < mode) (w : World) :
    Calls Try.prog 82 #[.int .i64 a, .int .i64 b, .int .i64 c, .int .i64 mode] w (GivesMD a b c mode w) := by
  have HM := Lib.hid (md_no (a := a) (b := b) h)
  by_cases h1 : c = 0
  · have t1 : (c == 0) = true := by rw [h1]; rfl
    clear h
    subst h1
    go_enter Try.func82, Try.ntmps82
    go_wp2_with fail
    go_ret2
    exact ⟨_, _, rfl, HM.out, Below.refl _ _⟩
  · have t1 : (c == 0) = false := by rw [beq_eq_false_iff_ne]; exact h1
    by_cases h2 : mode < 0
    · clear h
      go_enter Try.func82, Try.ntmps82
      go_wp2_with fail
      go_ret2
      exact ⟨_, _, rfl, HM.out, Below.refl _ _⟩
    · have h3 : 3 < mode := by omega
      clear h
      go_enter Try.func82, Try.ntmps82
      go_wp2_with fail
      go_ret2
      exact ⟨_, _, rfl, HM.out, Below.refl _ _⟩
theorem dg_prod8 {a b : Int} (h0 : a.natAbs ≤ 9223372036854775808) (h1 : b.natAbs ≤ 9223372036854775808) : (dg (a * b).natAbs).length ≤ 8 :=
  dg_length_le (k := 8) (by rw [Int.natAbs_mul]; exact Nat.lt_of_le_of_lt (Nat.mul_le_mul h0 h1) (by decide))
theorem rq_len {x y mode : Int} (h : (dg x.natAbs).length ≤ 100) : (dg (rq x y mode).natAbs).length ≤ 1000 := by
  unfold rq
  rw [(sgn_big _ _).1]
  have h1 := len_up (q := x.natAbs / y.natAbs) (r := 0) (y := 0) (g := true) (mode := 0) (Nat.le_trans (len_le (Nat.div_le_self _ _)) h)
  unfold upN
  split
  · exact h1.2
  · exact h1.1
set_option maxRecDepth 100000 in
set_option maxHeartbeats 4000000 in
theorem rmd_good (a b c mode : Int) (a0 : -9223372036854775808 ≤ a) (a1 : a ≤ 9223372036854775807) (b0 : -9223372036854775808 ≤ b) (b1 : b ≤ 9223372036854775807) (c0 : -9223372036854775808 ≤ c) (c1 : c ≤ 9223372036854775807)
    (hc : c ≠ 0) (m0 : 0 ≤ mode) (m3 : mode ≤ 3) (w : World) :
    Calls Try.prog 82 #[.int .i64 a, .int .i64 b, .int .i64 c, .int .i64 mode] w (GivesMD a b c mode w) := by
  have HM : Hid (∀ n ok, Ans (rq (a * b) c mode) n ok → MD a b c mode n ok) := Lib.hid fun n ok h => md_ans (by omega) h
  have O1 := Lib.hid (fun W : World => of_any a a0 a1 W)
  have O2 := Lib.hid (fun W : World => of_any b b0 b1 W)
  have O3 := Lib.hid (fun W : World => of_any c c0 c1 W)
  have la1 : (dg a.natAbs).length ≤ 1000 := dg64_len (by omega)
  have lb1 : (dg b.natAbs).length ≤ 1000 := dg64_len (by omega)
  have lc1 : (dg c.natAbs).length ≤ 100 := Nat.le_trans (dg_length_le (k := 4) (by omega)) (by omega)
  have lp1 : (dg (a * b).natAbs).length ≤ 100 := Nat.le_trans (dg_prod8 (by omega) (by omega)) (by omega)
  have P1 : Hid (∀ W u v, BigIs a u W → BigIs b v W → Calls Try.prog 81 #[u, v] W (GivesBig (a * b) W)) := Lib.hid fun W u v hu hv => times_any _ _ _ _ W la1 lb1 hu hv
  have V1 : Hid (∀ W u v, BigIs (a * b) u W → BigIs c v W → Calls Try.prog 105 #[u, v, .int .i64 mode] W (GivesBig (rq (a * b) c mode) W)) := Lib.hid fun W u v hu hv => over_any _ _ _ _ _ W lp1 lc1 hc m0 m3 hu hv
  have N1 : Hid (∀ W u, BigIs (rq (a * b) c mode) u W → Calls Try.prog 78 #[u] W fun e w' => SumPost (rq (a * b) c mode) e ∧ Below W.heap.size W w') := Lib.hid fun W u hu => small_any _ _ W (rq_len lp1) hu
  have tc : (c == 0) = false := by rw [beq_eq_false_iff_ne]; exact hc
  have t0 : ¬ mode < 0 := by omega
  have t3 : ¬ 3 < mode := by omega
  obtain ⟨p, hp⟩ : ∃ p, p = a * b := ⟨_, rfl⟩
  rw [← hp] at HM P1 V1 N1
  obtain ⟨r, hr⟩ : ∃ r, r = rq p c mode := ⟨_, rfl⟩
  rw [← hr] at HM V1 N1
  clear la1 lb1 lc1 lp1 hp hr hc
  go_enter Try.func82, Try.ntmps82
  go_wp2_with fail
  with_reducible refine (O1.out _).mono ?_
  rintro e w1 ⟨u, rfl, hu, hB1⟩
  have HU := Lib.hid hu
  have B1 := Lib.hid hB1
  clear hu hB1
  go_wp2_with fail
  with_reducible refine (O2.out _).mono ?_
  rintro e w2 ⟨v, rfl, hv, hB⟩
  have HV := Lib.hid hv
  have HU2 := Lib.hid (HU.out.next hB)
  have B2 := Lib.hid (below_mono B1.out hB (Nat.le_refl _))
  clear hv hB B1 HU
  go_wp2_with fail
  with_reducible refine (P1.out _ _ _ HU2.out HV.out).mono ?_
  rintro e w3 ⟨x, rfl, hx, hB⟩
  have HX := Lib.hid hx
  have B3 := Lib.hid (below_mono B2.out hB (Nat.le_refl _))
  clear hx hB B2 HU2 HV
  go_wp2_with fail
  with_reducible refine (O3.out _).mono ?_
  rintro e w4 ⟨y, rfl, hy, hB⟩
  have HY := Lib.hid hy
  have HX2 := Lib.hid (HX.out.next hB)
  have B4 := Lib.hid (below_mono B3.out hB (Nat.le_refl _))
  clear hy hB B3 HX
  go_wp2_with fail
  with_reducible refine (V1.out _ _ _ HX2.out HY.out).mono ?_
  rintro e w5 ⟨z, rfl, hz, hB⟩
  have HZ := Lib.hid hz
  have B5 := Lib.hid (below_mono B4.out hB (Nat.le_refl _))
  clear hz hB B4 HX2 HY
  go_wp2_with fail
  with_reducible refine (N1.out _ _ HZ.out).mono ?_
  rintro e w6 ⟨hs, hB⟩
  obtain ⟨n, ok, rfl, hans⟩ := hs.ans
  have HA := Lib.hid (HM.out _ _ hans)
  have B6 := Lib.hid (below_mono B5.out hB (Nat.le_refl _))
  clear hs hB B5 HZ hans
  go_wp2_with fail
  go_ret2
  exact ⟨_, _, rfl, HA.out, B6.out⟩
theorem rmd_any (a b c mode : Int) (a0 : -9223372036854775808 ≤ a) (a1 : a ≤ 9223372036854775807) (b0 : -9223372036854775808 ≤ b) (b1 : b ≤ 9223372036854775807) (c0 : -9223372036854775808 ≤ c) (c1 : c ≤ 9223372036854775807) (w : World) :
    Calls Try.prog 82 #[.int .i64 a, .int .i64 b, .int .i64 c, .int .i64 mode] w (GivesMD a b c mode w) := by
  by_cases h : c = 0 ∨ mode < 0 ∨ 3 < mode
  · exact rmd_bad a b c mode h w
  · exact rmd_good a b c mode a0 a1 b0 b1 c0 c1 (by omega) (by omega) (by omega) w
end Go.Proofs.Ytidldlhhmophjaa.Nu
