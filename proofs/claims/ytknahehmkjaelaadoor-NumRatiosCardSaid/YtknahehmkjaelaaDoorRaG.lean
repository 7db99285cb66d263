/- Plain numbers: products and sums of ratios in form. Conditions: those written at each theorem. -/
import Derived.Test.YtknahehmkjaelaaDoorNuM
namespace Go.Proofs.YtknahehmkjaelaaDoor
set_option linter.unusedVariables false
set_option linter.unusedSimpArgs false

theorem form_of {n d K X Y : Nat} (hK : 0 < K) (h : Nat.Coprime n d) (hX : n * K = X) (hY : d * K = Y) : X / Nat.gcd X Y = n ∧ Y / Nat.gcd X Y = d := by
  have e : Nat.gcd X Y = K := by rw [← hX, ← hY, Nat.gcd_mul_right, h.gcd_eq_one, Nat.one_mul]
  rw [e, ← hX, ← hY]
  exact ⟨Nat.mul_div_cancel _ hK, Nat.mul_div_cancel _ hK⟩
/-- Divided crosswise ahead, a product is in form at once. -/
theorem mul_form {P C Q E n d m k : Nat} (hC : 0 < C) (hE : 0 < E) (hn : n = P / Nat.gcd P C) (hd : d = C / Nat.gcd P C) (hm : m = Q / Nat.gcd Q E) (hk : k = E / Nat.gcd Q E) :
    P * Q / Nat.gcd (P * Q) (C * E) = n / Nat.gcd n k * (m / Nat.gcd m d) ∧ C * E / Nat.gcd (P * Q) (C * E) = d / Nat.gcd m d * (k / Nat.gcd n k) := by
  have g1 : 0 < Nat.gcd P C := Nat.gcd_pos_of_pos_right _ hC
  have g2 : 0 < Nat.gcd Q E := Nat.gcd_pos_of_pos_right _ hE
  have nd : Nat.Coprime n d := by rw [hn, hd]; exact Nat.coprime_div_gcd_div_gcd g1
  have mk : Nat.Coprime m k := by rw [hm, hk]; exact Nat.coprime_div_gcd_div_gcd g2
  have e1 : n * Nat.gcd P C = P := by rw [hn]; exact Nat.div_mul_cancel (Nat.gcd_dvd_left _ _)
  have e2 : d * Nat.gcd P C = C := by rw [hd]; exact Nat.div_mul_cancel (Nat.gcd_dvd_right _ _)
  have e3 : m * Nat.gcd Q E = Q := by rw [hm]; exact Nat.div_mul_cancel (Nat.gcd_dvd_left _ _)
  have e4 : k * Nat.gcd Q E = E := by rw [hk]; exact Nat.div_mul_cancel (Nat.gcd_dvd_right _ _)
  have d0 : 0 < d := Nat.pos_of_ne_zero fun h => by rw [h, Nat.zero_mul] at e2; omega
  have k0 : 0 < k := Nat.pos_of_ne_zero fun h => by rw [h, Nat.zero_mul] at e4; omega
  have g : 0 < Nat.gcd n k := Nat.gcd_pos_of_pos_right _ k0
  have h : 0 < Nat.gcd m d := Nat.gcd_pos_of_pos_right _ d0
  have f1 := Nat.div_mul_cancel (Nat.gcd_dvd_left n k)
  have f2 := Nat.div_mul_cancel (Nat.gcd_dvd_right n k)
  have f3 := Nat.div_mul_cancel (Nat.gcd_dvd_left m d)
  have f4 := Nat.div_mul_cancel (Nat.gcd_dvd_right m d)
  have c1 : Nat.Coprime (n / Nat.gcd n k) (k / Nat.gcd n k) := Nat.coprime_div_gcd_div_gcd g
  have c2 : Nat.Coprime (m / Nat.gcd m d) (d / Nat.gcd m d) := Nat.coprime_div_gcd_div_gcd h
  have c3 : Nat.Coprime (n / Nat.gcd n k) (d / Nat.gcd m d) := (nd.coprime_dvd_left ⟨_, f1.symm⟩).coprime_dvd_right ⟨_, f4.symm⟩
  have c4 : Nat.Coprime (m / Nat.gcd m d) (k / Nat.gcd n k) := (mk.coprime_dvd_left ⟨_, f3.symm⟩).coprime_dvd_right ⟨_, f2.symm⟩
  have cc : Nat.Coprime (n / Nat.gcd n k * (m / Nat.gcd m d)) (d / Nat.gcd m d * (k / Nat.gcd n k)) :=
    Nat.Coprime.mul_left (Nat.Coprime.mul_right c3 c1) (Nat.Coprime.mul_right c2 c4)
  refine form_of (K := Nat.gcd n k * Nat.gcd m d * (Nat.gcd P C * Nat.gcd Q E)) (Nat.mul_pos (Nat.mul_pos g h) (Nat.mul_pos g1 g2)) cc ?_ ?_
  · have r : P * Q = n / Nat.gcd n k * Nat.gcd n k * Nat.gcd P C * (m / Nat.gcd m d * Nat.gcd m d * Nat.gcd Q E) := by rw [f1, f3, e1, e3]
    generalize n / Nat.gcd n k = x at *
    generalize m / Nat.gcd m d = y at *
    generalize Nat.gcd n k = a at *
    generalize Nat.gcd m d = b at *
    generalize Nat.gcd P C = u at *
    generalize Nat.gcd Q E = v at *
    rw [r]
    simp only [Nat.mul_assoc, Nat.mul_left_comm, Nat.mul_comm]
  · have r : C * E = d / Nat.gcd m d * Nat.gcd m d * Nat.gcd P C * (k / Nat.gcd n k * Nat.gcd n k * Nat.gcd Q E) := by rw [f2, f4, e2, e4]
    generalize d / Nat.gcd m d = x at *
    generalize k / Nat.gcd n k = y at *
    generalize Nat.gcd n k = a at *
    generalize Nat.gcd m d = b at *
    generalize Nat.gcd P C = u at *
    generalize Nat.gcd Q E = v at *
    rw [r]
    simp only [Nat.mul_assoc, Nat.mul_left_comm, Nat.mul_comm]
/-- A sum over the common denominator: only what divides that, too, can divide the sum. s: the sum's size; a, b: the numerators' sizes. -/
theorem add_form {d k S K X Y : Nat} (hd : 0 < d) (hk : 0 < k) (hK : 0 < K) (c1 : Nat.Coprime S (d / Nat.gcd d k)) (c2 : Nat.Coprime S (k / Nat.gcd d k))
    (hX : X = S * (Nat.gcd d k * K)) (hY : Y = d * k * K) :
    X / Nat.gcd X Y = S / Nat.gcd (Nat.gcd d k) S ∧ Y / Nat.gcd X Y = d / Nat.gcd d k * (k / Nat.gcd (Nat.gcd d k) S) := by
  obtain ⟨g, hg⟩ : ∃ g, g = Nat.gcd d k := ⟨_, rfl⟩
  have gp : 0 < g := by rw [hg]; exact Nat.gcd_pos_of_pos_left _ hd
  have f1 : d / g * g = d := by rw [hg]; exact Nat.div_mul_cancel (Nat.gcd_dvd_left _ _)
  have f2 : k / g * g = k := by rw [hg]; exact Nat.div_mul_cancel (Nat.gcd_dvd_right _ _)
  rw [← hg] at c1 c2 hX ⊢
  obtain ⟨h, hh⟩ : ∃ h, h = Nat.gcd g S := ⟨_, rfl⟩
  have hp : 0 < h := by rw [hh]; exact Nat.gcd_pos_of_pos_left _ gp
  have f3 : S / h * h = S := by rw [hh]; exact Nat.div_mul_cancel (Nat.gcd_dvd_right _ _)
  have f4 : g / h * h = g := by rw [hh]; exact Nat.div_mul_cancel (Nat.gcd_dvd_left _ _)
  have c3 : Nat.Coprime (S / h) (g / h) := by
    have : Nat.Coprime (g / h) (S / h) := by rw [hh]; exact Nat.coprime_div_gcd_div_gcd (by rw [← hh]; exact hp)
    exact this.symm
  rw [← hh]
  have hdv : h ∣ k := ⟨k / g * (g / h), by rw [Nat.mul_comm h, Nat.mul_assoc, f4, f2]⟩
  have f5 : k / h = k / g * (g / h) := by
    refine Nat.div_eq_of_eq_mul_left hp ?_
    rw [Nat.mul_assoc, f4, f2]
  have cc : Nat.Coprime (S / h) (d / g * (k / h)) := by
    rw [f5]
    exact Nat.Coprime.mul_right (c1.coprime_dvd_left ⟨_, f3.symm⟩) (Nat.Coprime.mul_right (c2.coprime_dvd_left ⟨_, f3.symm⟩) c3)
  refine form_of (K := h * (g * K)) (Nat.mul_pos hp (Nat.mul_pos gp hK)) cc ?_ ?_
  · rw [hX, ← Nat.mul_assoc, f3]
  · have f6 : k / h * h = k := Nat.div_mul_cancel hdv
    rw [hY]
    have : d / g * (k / h) * (h * (g * K)) = (d / g * g) * (k / h * h) * K := by simp only [Nat.mul_assoc, Nat.mul_left_comm, Nat.mul_comm]
    rw [this, f1, f6]
theorem add_core (bp zp bc bq zq be : Bool) (U V : Nat) (hU : U = 0 ↔ zp = false) (hV : V = 0 ↔ zq = false) (h1 : bp = true → zp = true) (h2 : bq = true → zq = true) (x y : Int)
    (hx : x = if (!(bp == be)) then -(U : Int) else U) (hy : y = if (!(bq == bc)) then -(V : Int) else V) :
    (((bp != bc) && zp) = ((bq != be) && zq) → (x + y).natAbs = U + V ∧ (U + V ≠ 0 → (decide (x + y < 0) != (bc != be)) = ((bp != bc) && zp))) ∧
    (((bp != bc) && zp) ≠ ((bq != be) && zq) → V ≤ U → (x + y).natAbs = U - V ∧ (U - V ≠ 0 → (decide (x + y < 0) != (bc != be)) = ((bp != bc) && zp))) ∧
    (((bp != bc) && zp) ≠ ((bq != be) && zq) → U < V → (x + y).natAbs = V - U ∧ (decide (x + y < 0) != (bc != be)) = ((bq != be) && zq)) := by
  subst hx hy
  cases bp <;> cases zp <;> cases bc <;> cases bq <;> cases zq <;> cases be <;> simp at hU hV h1 h2 ⊢ <;> (repeat' constructor) <;> (try intros) <;> (try omega)
theorem cop_sum {S A x m : Nat} (h : Nat.Coprime A x) (hs : S = A + m * x ∨ S + m * x = A ∨ S + A = m * x) : Nat.Coprime S x := by
  have c1 := Nat.gcd_dvd_left S x
  have c2 := Nat.gcd_dvd_right S x
  have c3 : Nat.gcd S x ∣ m * x := Nat.dvd_trans c2 (Nat.dvd_mul_left _ _)
  have c4 : Nat.gcd S x ∣ A := by
    rcases hs with hs | hs | hs
    · rw [hs] at c1
      exact (Nat.dvd_add_left c3).1 (by rw [← hs]; rw [← hs] at c1; exact c1)
    · rw [← hs]; exact Nat.dvd_add c1 c3
    · have : Nat.gcd S x ∣ S + A := by rw [hs]; exact c3
      exact (Nat.dvd_add_right c1).1 this
  have := Nat.dvd_gcd c4 c2
  rw [h.gcd_eq_one] at this
  exact Nat.dvd_one.1 this
/-- The size of a sum of two ratios over the common denominator, and its sign. -/
def SumIs (g1 g2 : Bool) (A B S : Nat) (neg : Bool) : Prop := (g1 = g2 ∧ S = A + B ∧ neg = g1) ∨ (g1 ≠ g2 ∧ B ≤ A ∧ S = A - B ∧ neg = g1) ∨ (g1 ≠ g2 ∧ A < B ∧ S = B - A ∧ neg = g2)
theorem sum_form {P C Q E n d m k : Nat} (hC : 0 < C) (hE : 0 < E) (hn : n = P / Nat.gcd P C) (hd : d = C / Nat.gcd P C) (hm : m = Q / Nat.gcd Q E) (hk : k = E / Nat.gcd Q E)
    {g1 g2 neg : Bool} {S Z : Nat} (hS : SumIs g1 g2 (n * (k / Nat.gcd d k)) (m * (d / Nat.gcd d k)) S neg)
    (hZ1 : g1 = g2 → Z = P * E + Q * C) (hZ2 : g1 ≠ g2 → Q * C ≤ P * E → Z = P * E - Q * C) (hZ3 : g1 ≠ g2 → P * E < Q * C → Z = Q * C - P * E) :
    (∃ K, 0 < K ∧ Z = S * K) ∧ (g1 ≠ g2 → (m * (d / Nat.gcd d k) ≤ n * (k / Nat.gcd d k) ↔ Q * C ≤ P * E)) ∧
    Z / Nat.gcd Z (C * E) = S / Nat.gcd (Nat.gcd d k) S ∧ C * E / Nat.gcd Z (C * E) = d / Nat.gcd d k * (k / Nat.gcd (Nat.gcd d k) S) := by
  have p1 : 0 < Nat.gcd P C := Nat.gcd_pos_of_pos_right _ hC
  have p2 : 0 < Nat.gcd Q E := Nat.gcd_pos_of_pos_right _ hE
  have nd : Nat.Coprime n d := by rw [hn, hd]; exact Nat.coprime_div_gcd_div_gcd p1
  have mk : Nat.Coprime m k := by rw [hm, hk]; exact Nat.coprime_div_gcd_div_gcd p2
  have e1 : n * Nat.gcd P C = P := by rw [hn]; exact Nat.div_mul_cancel (Nat.gcd_dvd_left _ _)
  have e2 : d * Nat.gcd P C = C := by rw [hd]; exact Nat.div_mul_cancel (Nat.gcd_dvd_right _ _)
  have e3 : m * Nat.gcd Q E = Q := by rw [hm]; exact Nat.div_mul_cancel (Nat.gcd_dvd_left _ _)
  have e4 : k * Nat.gcd Q E = E := by rw [hk]; exact Nat.div_mul_cancel (Nat.gcd_dvd_right _ _)
  have d0 : 0 < d := Nat.pos_of_ne_zero fun h => by rw [h, Nat.zero_mul] at e2; omega
  have k0 : 0 < k := Nat.pos_of_ne_zero fun h => by rw [h, Nat.zero_mul] at e4; omega
  obtain ⟨K, hK⟩ : ∃ K, K = Nat.gcd P C * Nat.gcd Q E := ⟨_, rfl⟩
  have K0 : 0 < K := by rw [hK]; exact Nat.mul_pos p1 p2
  have gp : 0 < Nat.gcd d k := Nat.gcd_pos_of_pos_left _ d0
  have f1 : d / Nat.gcd d k * Nat.gcd d k = d := Nat.div_mul_cancel (Nat.gcd_dvd_left _ _)
  have f2 : k / Nat.gcd d k * Nat.gcd d k = k := Nat.div_mul_cancel (Nat.gcd_dvd_right _ _)
  have dk : Nat.Coprime (d / Nat.gcd d k) (k / Nat.gcd d k) := Nat.coprime_div_gcd_div_gcd gp
  have cA : Nat.Coprime (n * (k / Nat.gcd d k)) (d / Nat.gcd d k) := Nat.Coprime.mul_left (nd.coprime_dvd_right ⟨_, f1.symm⟩) dk.symm
  have cB : Nat.Coprime (m * (d / Nat.gcd d k)) (k / Nat.gcd d k) := Nat.Coprime.mul_left (mk.coprime_dvd_right ⟨_, f2.symm⟩) dk
  have hU : P * E = n * (k / Nat.gcd d k) * (Nat.gcd d k * K) := by
    have r : P * E = n * Nat.gcd P C * (k / Nat.gcd d k * Nat.gcd d k * Nat.gcd Q E) := by rw [f2, e1, e4]
    rw [r, hK]
    generalize k / Nat.gcd d k = x
    generalize Nat.gcd d k = y
    generalize Nat.gcd P C = u
    generalize Nat.gcd Q E = v
    simp only [Nat.mul_assoc, Nat.mul_left_comm, Nat.mul_comm]
  have hV : Q * C = m * (d / Nat.gcd d k) * (Nat.gcd d k * K) := by
    have r : Q * C = m * Nat.gcd Q E * (d / Nat.gcd d k * Nat.gcd d k * Nat.gcd P C) := by rw [f1, e3, e2]
    rw [r, hK]
    generalize d / Nat.gcd d k = x
    generalize Nat.gcd d k = y
    generalize Nat.gcd P C = u
    generalize Nat.gcd Q E = v
    simp only [Nat.mul_assoc, Nat.mul_left_comm, Nat.mul_comm]
  have hY : C * E = d * k * K := by
    have r : C * E = d * Nat.gcd P C * (k * Nat.gcd Q E) := by rw [e2, e4]
    rw [r, hK]
    generalize Nat.gcd P C = u
    generalize Nat.gcd Q E = v
    simp only [Nat.mul_assoc, Nat.mul_left_comm, Nat.mul_comm]
  obtain ⟨A, hA⟩ : ∃ A, A = n * (k / Nat.gcd d k) := ⟨_, rfl⟩
  obtain ⟨B, hB⟩ : ∃ B, B = m * (d / Nat.gcd d k) := ⟨_, rfl⟩
  obtain ⟨M, hM⟩ : ∃ M, M = Nat.gcd d k * K := ⟨_, rfl⟩
  have M0 : 0 < M := by rw [hM]; exact Nat.mul_pos gp K0
  rw [← hA, ← hM] at hU
  rw [← hB, ← hM] at hV
  rw [← hA, ← hB] at hS
  have hle : B ≤ A ↔ Q * C ≤ P * E := by rw [hU, hV]; exact (Nat.mul_le_mul_right_iff M0).symm
  have hZ : Z = S * M ∧ (S = A + B ∨ S + B = A ∨ S + A = B) := by
    rcases hS with ⟨h1, h2, _⟩ | ⟨h1, h2, h3, _⟩ | ⟨h1, h2, h3, _⟩
    · exact ⟨by rw [hZ1 h1, hU, hV, h2, Nat.add_mul], .inl h2⟩
    · exact ⟨by rw [hZ2 h1 (hle.1 h2), hU, hV, h3, Nat.sub_mul], .inr (.inl (by omega))⟩
    · exact ⟨by rw [hZ3 h1 (by have := mt hle.2 (by omega : ¬ B ≤ A); omega), hU, hV, h3, Nat.sub_mul], .inr (.inr (by omega))⟩
  have c1 : Nat.Coprime S (d / Nat.gcd d k) := cop_sum (A := A) (m := m) (by rw [hA]; exact cA) (by rw [← hB]; exact hZ.2)
  have c2 : Nat.Coprime S (k / Nat.gcd d k) := cop_sum (A := B) (m := n) (by rw [hB]; exact cB) (by rw [← hA]; have := hZ.2; omega)
  have := add_form (X := Z) (Y := C * E) (K := K) d0 k0 K0 c1 c2 (by rw [hZ.1, hM]) hY
  exact ⟨⟨M, M0, hZ.1⟩, fun _ => by rw [← hA, ← hB]; exact hle, this⟩
end Go.Proofs.YtknahehmkjaelaaDoor
