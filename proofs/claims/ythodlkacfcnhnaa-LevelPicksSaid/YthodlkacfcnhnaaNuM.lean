/- Plain mathematics of digits to the base 65536, the lowest first. No conditions beyond those written. -/
namespace Go.Proofs.Ythodlkacfcnhnaa.Nu
set_option linter.unusedVariables false

/-- The value of digits. -/
def dval : List Nat → Nat
  | [] => 0
  | d :: l => d + 65536 * dval l
/-- The digits of a number, none above it nought. -/
def dgF : Nat → Nat → List Nat
  | 0, _ => []
  | f + 1, n => if n = 0 then [] else n % 65536 :: dgF f (n / 65536)
def dg (n : Nat) : List Nat := dgF n n
def Low (l : List Nat) : Prop := ∀ d ∈ l, d < 65536
theorem dgF_any : ∀ (f g n : Nat), n ≤ f → n ≤ g → dgF f n = dgF g n
  | 0, g, n, h, _ => by
    obtain rfl : n = 0 := by omega
    cases g <;> simp [dgF]
  | f + 1, 0, n, _, h => by
    obtain rfl : n = 0 := by omega
    simp [dgF]
  | f + 1, g + 1, n, h, h' => by
    unfold dgF
    split
    · rfl
    · rw [dgF_any f g (n / 65536) (by omega) (by omega)]
theorem dg_zero : dg 0 = [] := rfl
theorem dg_step {n : Nat} (h : n ≠ 0) : dg n = n % 65536 :: dg (n / 65536) := by
  unfold dg
  obtain ⟨k, rfl⟩ : ∃ k, n = k + 1 := ⟨n - 1, by omega⟩
  rw [dgF, if_neg h, dgF_any k ((k + 1) / 65536) _ (by omega) (by omega)]
theorem dg_val (n : Nat) : dval (dg n) = n := by
  induction n using Nat.strongRecOn with
  | _ n ih =>
    by_cases h : n = 0
    · subst h; rfl
    · rw [dg_step h, dval, ih (n / 65536) (by omega)]; omega
theorem dg_low (n : Nat) : Low (dg n) := by
  induction n using Nat.strongRecOn with
  | _ n ih =>
    by_cases h : n = 0
    · subst h; intro d hd; simp [dg_zero] at hd
    · rw [dg_step h]
      intro d hd
      rcases List.mem_cons.1 hd with rfl | hd
      · omega
      · exact ih (n / 65536) (by omega) d hd
theorem dg_nil_iff {n : Nat} : dg n = [] ↔ n = 0 := by
  constructor
  · intro h; have := dg_val n; rw [h] at this; simpa [dval] using this.symm
  · rintro rfl; rfl
theorem dval_pos {l : List Nat} (hl : Low l) (h : l ≠ []) (h' : l.getLast h ≠ 0) : 0 < dval l := by
  induction l with
  | nil => exact absurd rfl h
  | cons d l ih =>
    cases l with
    | nil => simp at h'; simp [dval]; omega
    | cons e l =>
      have := ih (fun x hx => hl x (List.mem_cons_of_mem _ hx)) (by simp) (by simpa using h')
      rw [dval]; omega
/-- Digits without noughts above are the digits of their value. -/
theorem dg_of {l : List Nat} (hl : Low l) (h : ∀ h : l ≠ [], l.getLast h ≠ 0) : dg (dval l) = l := by
  induction l with
  | nil => rfl
  | cons d l ih =>
    have hd : d < 65536 := hl d (by simp)
    have hlow : Low l := fun x hx => hl x (List.mem_cons_of_mem _ hx)
    have hp := dval_pos hl (by simp) (h (by simp))
    rw [dg_step (by omega), dval]
    have e1 : (d + 65536 * dval l) % 65536 = d := by omega
    have e2 : (d + 65536 * dval l) / 65536 = dval l := by omega
    rw [e1, e2, ih hlow]
    intro hne
    have := h (by simp)
    rwa [List.getLast_cons hne] at this
theorem dval_append (a b : List Nat) : dval (a ++ b) = dval a + 65536 ^ a.length * dval b := by
  induction a with
  | nil => simp [dval]
  | cons d a ih => simp only [List.cons_append, dval, ih, List.length_cons, Nat.pow_succ]; rw [Nat.mul_add, ← Nat.mul_assoc, Nat.mul_comm 65536 (65536 ^ a.length)]; omega
theorem dval_lt {l : List Nat} (hl : Low l) : dval l < 65536 ^ l.length := by
  induction l with
  | nil => simp [dval]
  | cons d l ih =>
    have hd : d < 65536 := hl d (by simp)
    have := ih (fun x hx => hl x (List.mem_cons_of_mem _ hx))
    rw [dval, List.length_cons, Nat.pow_succ]; omega
theorem dval_take_succ {l : List Nat} {i : Nat} (h : i < l.length) : dval (l.take (i + 1)) = dval (l.take i) + 65536 ^ i * l[i] := by
  rw [List.take_succ_eq_append_getElem h, dval_append]
  simp [dval, List.length_take, Nat.min_eq_left (Nat.le_of_lt h)]
theorem Low.take {l : List Nat} (h : Low l) (k : Nat) : Low (l.take k) := fun d hd => h d (List.mem_of_mem_take hd)
theorem Low.get {l : List Nat} (h : Low l) {i : Nat} (hi : i < l.length) : l[i] < 65536 := h _ (List.getElem_mem hi)
theorem dg_length_le {n k : Nat} (h : n < 65536 ^ k) : (dg n).length ≤ k := by
  induction k generalizing n with
  | zero => simp at h; subst h; simp [dg_zero]
  | succ k ih =>
    by_cases hn : n = 0
    · subst hn; simp [dg_zero]
    · rw [dg_step hn, List.length_cons]
      have : n / 65536 < 65536 ^ k := by rw [Nat.pow_succ] at h; omega
      have := ih this
      omega
theorem dg_last (n : Nat) (h : dg n ≠ []) : (dg n).getLast h ≠ 0 := by
  induction n using Nat.strongRecOn with
  | _ n ih =>
    have hn : n ≠ 0 := fun e => h (by rw [e, dg_zero])
    by_cases hq : n / 65536 = 0
    · have e : dg n = [n % 65536] := by rw [dg_step hn, hq, dg_zero]
      simp only [e, List.getLast_singleton]; omega
    · have e := dg_step hn
      have hne : dg (n / 65536) ≠ [] := fun e => hq (dg_nil_iff.1 e)
      have := ih (n / 65536) (by omega) hne
      simp only [e, List.getLast_cons hne]; exact this
theorem dg_pow_le {n : Nat} (h : n ≠ 0) : 65536 ^ ((dg n).length - 1) ≤ n := by
  induction n using Nat.strongRecOn with
  | _ n ih =>
    by_cases hq : n / 65536 = 0
    · rw [dg_step h, hq, dg_zero]; simp; omega
    · have h1 := ih (n / 65536) (by omega) hq
      rw [dg_step h, List.length_cons]
      have hl : (dg (n / 65536)).length ≠ 0 := by
        intro e; exact hq (dg_nil_iff.1 (List.length_eq_zero_iff.1 e))
      obtain ⟨k, hk⟩ : ∃ k, (dg (n / 65536)).length = k + 1 := ⟨_, (Nat.succ_pred hl).symm⟩
      rw [hk] at h1 ⊢
      simp only [Nat.add_sub_cancel] at h1 ⊢
      rw [Nat.pow_succ]; omega
/-- Fewer digits, the less number. -/
theorem lt_of_len {x y : Nat} (h : (dg x).length < (dg y).length) : x < y := by
  have hy : y ≠ 0 := by rintro rfl; simp [dg_zero] at h
  have h1 := dval_lt (dg_low x)
  rw [dg_val] at h1
  have h2 := dg_pow_le hy
  have h3 : 65536 ^ (dg x).length ≤ 65536 ^ ((dg y).length - 1) := Nat.pow_le_pow_right (by omega) (by omega)
  omega
theorem dval_split (l : List Nat) (i : Nat) (h : i ≤ l.length) : dval l = dval (l.take i) + 65536 ^ i * dval (l.drop i) := by
  conv => lhs; rw [← List.take_append_drop i l]
  rw [dval_append, List.length_take, Nat.min_eq_left h]
theorem lt_of_digit {a b : List Nat} {i : Nat} (ha : Low a) (hb : Low b) (hia : i < a.length) (hib : i < b.length) (hd : a.drop (i + 1) = b.drop (i + 1)) (h : a[i] < b[i]) : dval a < dval b := by
  have e1 := dval_split a (i + 1) hia
  have e2 := dval_split b (i + 1) hib
  rw [dval_take_succ hia] at e1
  rw [dval_take_succ hib, ← hd] at e2
  have l1 := dval_lt (ha.take i)
  rw [List.length_take, Nat.min_eq_left (Nat.le_of_lt hia)] at l1
  have l2 : 65536 ^ i * a[i] + 65536 ^ i ≤ 65536 ^ i * b[i] := by
    rw [← Nat.mul_succ]; exact Nat.mul_le_mul_left _ h
  omega
/-- Which of two numbers is less. -/
def cmpI (x y : Nat) : Int := if x < y then -1 else if y < x then 1 else 0
end Go.Proofs.Ythodlkacfcnhnaa.Nu
