/- Texts of this seat, one behind the other. Conditions: those written at each theorem. -/
import Derived.Test.YthhimllddgfddaaHelp
import Derived.BigQuiet
import Derived.Deep.QuietTactic
import Derived.RegionTactic
import Derived.ChangeAlike
import Derived.Lib.QuietBelow
import Derived.Shelf.Spec.BitsCarry
import Derived.WalkLawsBesides
import Derived.WalkSpells
import Derived.Laws.BitsAllLaws
import Derived.Deep.DeepCutAuto
import Derived.Outline
import Derived.Deep.CutBlock
import Derived.Test.YthhimllddgfddaaCkP
import Derived.Test.YthhimllddgfddaaTrU
import Derived.Test.YthhimllddgfddaaTrK
import Derived.Test.YthhimllddgfddaaTrQ
import Derived.Deep.RegionHeld3
import Derived.Test.YthhimllddgfddaaTrH
import Derived.Test.YthhimllddgfddaaTrL
import Derived.Test.YthhimllddgfddaaTrT
import Derived.Test.YthhimllddgfddaaTrW
import Derived.Test.YthhimllddgfddaaG1
namespace Go.Proofs.Ythhimllddgfddaa.Nu
set_option linter.unusedVariables false

/-- The value of digits. -/
def dval : List Nat → Nat
  | [] => 0
  | d :: l => d + 65536 * dval l
/-- The digits of a number, none above it nought. -/
def dgF : Nat → Nat → List Nat
  | 0, _ => []
  | f + 1, n => if n = 0 then [] else n % 65536 :: dgF f (n / 65536)
def dg (n : Nat) : List Nat := dgF n n
def Low (l : List Nat) : Prop := ∀ d ∈ l, d < 65536
theorem dval_append (a b : List Nat) : dval (a ++ b) = dval a + 65536 ^ a.length * dval b := by
  induction a with
  | nil => simp [dval]
  | cons d a ih => simp only [List.cons_append, dval, ih, List.length_cons, Nat.pow_succ]; rw [Nat.mul_add, ← Nat.mul_assoc, Nat.mul_comm 65536 (65536 ^ a.length)]; omega
theorem dval_take_succ {l : List Nat} {i : Nat} (h : i < l.length) : dval (l.take (i + 1)) = dval (l.take i) + 65536 ^ i * l[i] := by
  rw [List.take_succ_eq_append_getElem h, dval_append]
  simp [dval, List.length_take, Nat.min_eq_left (Nat.le_of_lt h)]
theorem Low.take {l : List Nat} (h : Low l) (k : Nat) : Low (l.take k) := fun d hd => h d (List.mem_of_mem_take hd)
theorem Low.get {l : List Nat} (h : Low l) {i : Nat} (hi : i < l.length) : l[i] < 65536 := h _ (List.getElem_mem hi)
end Go.Proofs.Ythhimllddgfddaa.Nu
namespace Go.Proofs.Ythhimllddgfddaa.Nu
open Go.RowKit Go.Sort
set_option linter.unusedSimpArgs false
set_option linter.unusedVariables false

/-- A slice whose cells, below block B, hold these values. -/
def SAt (B : Nat) (ao : Option Addr) (vs : List Value) (w : World) : Prop :=
  (0 < vs.length → ∃ a, ao = some a) ∧ ∀ a, ao = some a → 0 < vs.length → a.block < B ∧ ∀ i u, vs[i]? = some u → w.cell? (a.add i) = some u
theorem SAt.under {B : Nat} {ao : Option Addr} {vs : List Value} {w w' : World} (h : SAt B ao vs w) (k : Below B w w') : SAt B ao vs w' :=
  ⟨h.1, fun a e hp => ⟨(h.2 a e hp).1, fun i u hu => (k.cell (p := a.add i) (by have := (h.2 a e hp).1; unfold Addr.add; split <;> exact this)).trans ((h.2 a e hp).2 i u hu)⟩⟩
theorem SAt.mono {B B' : Nat} {ao : Option Addr} {vs : List Value} {w : World} (h : SAt B ao vs w) (hb : B ≤ B') : SAt B' ao vs w :=
  ⟨h.1, fun a e hp => ⟨Nat.lt_of_lt_of_le (h.2 a e hp).1 hb, (h.2 a e hp).2⟩⟩
theorem SAt.next {ao : Option Addr} {vs : List Value} {w w' : World} (h : SAt w.heap.size ao vs w) (k : Below w.heap.size w w') : SAt w'.heap.size ao vs w' :=
  (h.under k).mono k.size
theorem add_none (b off j : Nat) : (⟨b, off, none⟩ : Addr).add j = ⟨b, off + j, none⟩ := by
  unfold Addr.add
  split
  · rename_i h; subst h; rfl
  · rfl
/-- Digits as values. -/
def us (l : List Nat) : List Value := l.map fun (d : Nat) => Value.int .u64 (d : Int)
theorem us_length (l : List Nat) : (us l).length = l.length := by simp [us]
theorem SAt.nil (B : Nat) (ao : Option Addr) (w : World) : SAt B ao (us []) w := ⟨fun h => by simp [us] at h, fun _ _ h => by simp [us] at h⟩
theorem SAt.cells {B : Nat} {ao : Option Addr} {xs : List Nat} {w : World} (h : SAt B ao (us xs) w) (hp : 0 < xs.length) :
    ∃ b off, ao = some ⟨b, off, none⟩ ∧ b < B ∧ ∀ j, (hj : j < xs.length) → w.cell? ⟨b, off + j, none⟩ = some (.int .u64 (xs[j] : Int)) := by
  have hp' : 0 < (us xs).length := by rw [us_length]; exact hp
  obtain ⟨a, rfl⟩ := h.1 hp'
  obtain ⟨hb, hc⟩ := h.2 a rfl hp'
  have hc' : ∀ j, (hj : j < xs.length) → w.cell? (a.add j) = some (.int .u64 (xs[j] : Int)) := by
    intro j hj
    apply hc
    unfold us
    rw [List.getElem?_map, List.getElem?_eq_getElem hj]
    simp
  obtain ⟨b, off, spot⟩ := a
  cases spot with
  | some s =>
    have := hc' 0 hp
    simp [World.cell?, Addr.add] at this
    split at this <;> cases this
  | none => exact ⟨b, off, rfl, hb, fun j hj => by rw [← add_none]; exact hc' j hj⟩
theorem SAt.take {B : Nat} {ao : Option Addr} {xs : List Nat} {w : World} (h : SAt B ao (us xs) w) (k : Nat) : SAt B ao (us (xs.take k)) w := by
  have hl : 0 < (us (xs.take k)).length → 0 < (us xs).length := by
    rw [us_length, us_length, List.length_take]; omega
  refine ⟨fun hp => h.1 (hl hp), fun a e hp => ⟨(h.2 a e (hl hp)).1, fun i u hu => (h.2 a e (hl hp)).2 i u ?_⟩⟩
  unfold us at hu ⊢
  rw [List.map_take, List.getElem?_take] at hu
  split at hu
  · exact hu
  · cases hu

/-- A slice of the digits of n. -/
def MagIs (n : Nat) (v : Value) (w : World) : Prop := ∃ ao cap, v = .slice ao (dg n).length cap ∧ (dg n).length ≤ cap ∧ SAt w.heap.size ao (us (dg n)) w
theorem MagIs.next {n : Nat} {v : Value} {w w' : World} (h : MagIs n v w) (k : Below w.heap.size w w') : MagIs n v w' := by
  obtain ⟨ao, cap, h1, h2, h3⟩ := h
  exact ⟨ao, cap, h1, h2, h3.next k⟩

theorem take_zero {l : List Nat} {j : Nat} (hj : j < l.length) (h0 : l[j] = 0) (e : dval (l.take (j + 1)) = dval l) : dval (l.take j) = dval l := by
  rw [dval_take_succ hj, h0] at e
  omega
theorem SAt.set {B : Nat} {ao : Option Addr} {vs : List Value} {w : World} (h : SAt B ao vs w) (p : Addr) (u : Value) (hp : ∀ a, ao = some a → a.block ≠ p.block) : SAt B ao vs (w.setCell p u) :=
  ⟨h.1, fun a e hl => ⟨(h.2 a e hl).1, fun i x hx => by
    rw [World.cell?_setCell_other (a := p) (b := a.add i) _ _ (fun e' => hp a e (by rw [e']; unfold Addr.add; split <;> rfl))]
    exact (h.2 a e hl).2 i x hx⟩⟩
theorem MagIs.set {n : Nat} {v : Value} {w : World} (h : MagIs n v w) (p : Addr) (u : Value) (hp : ∀ a k c, v = .slice (some a) k c → a.block ≠ p.block) : MagIs n v (w.setCell p u) := by
  obtain ⟨ao, cap, rfl, h2, h3⟩ := h
  refine ⟨ao, cap, rfl, h2, ?_⟩
  have := h3.set p u (fun a e => hp a _ _ (by rw [e]))
  simpa using this
theorem size_nat (n : Nat) (h : n ≤ 9223372036854775807) (w : World) :
    Calls Try.prog 64 #[.int .i64 n] w fun e w' => e = .returned (.int .u64 n) ∧ w = w' := by
  have h0 : ¬ (n : Int) < 0 := by omega
  go_enter Try.func64, Try.ntmps64
  go_wp2
  go_ret
  exact ⟨rfl, rfl⟩
theorem size_neg (n : Nat) (h1 : 1 ≤ n) (h : n ≤ 9223372036854775808) (w : World) :
    Calls Try.prog 64 #[.int .i64 (-(n : Int))] w fun e w' => e = .returned (.int .u64 n) ∧ w = w' := by
  obtain ⟨m, hm⟩ : ∃ m : Int, m = -(n : Int) := ⟨_, rfl⟩
  have h0 : m < 0 := by omega
  have y1 : IntKind.u64.wrap m = m + 18446744073709551616 := by rw [IntKind.wrap_u64]; omega
  have y2 : IntKind.u64.wrap (-(m + 18446744073709551616)) = (n : Int) := by rw [IntKind.wrap_u64]; omega
  have hm1 : -9223372036854775808 ≤ m := by omega
  rw [← hm]
  clear hm
  go_enter Try.func64, Try.ntmps64
  go_wp2
  go_ret
  exact ⟨rfl, rfl⟩
theorem size_any (a : Int) (h0 : -9223372036854775808 ≤ a) (h1 : a ≤ 9223372036854775807) (w : World) :
    Calls Try.prog 64 #[.int .i64 a] w fun e w' => e = .returned (.int .u64 a.natAbs) ∧ w = w' := by
  rcases Int.lt_or_le a 0 with h | h
  · have := size_neg a.natAbs (by omega) (by omega) w
    rwa [show -(a.natAbs : Int) = a by omega] at this
  · have := size_nat a.natAbs (by omega) w
    rw [show (a.natAbs : Int) = a by omega] at this ⊢
    exact this
theorem signed_pos (n : Nat) (h : n ≤ 9223372036854775807) (w : World) :
    Calls Try.prog 65 #[.bool false, .int .u64 n] w fun e w' => e = .returned (.tuple #[.int .i64 n, .bool true]) ∧ w = w' := by
  have h0 : ¬ (9223372036854775807 : Int) < (n : Int) := by omega
  go_enter Try.func65, Try.ntmps65
  go_wp2
  all_goals go_ret2
  all_goals exact ⟨rfl, rfl⟩
theorem signed_great (n : Nat) (h : 9223372036854775807 < n) (w : World) :
    Calls Try.prog 65 #[.bool false, .int .u64 n] w fun e w' => e = .returned (.tuple #[.int .i64 0, .bool false]) ∧ w = w' := by
  have h0 : (9223372036854775807 : Int) < (n : Int) := by omega
  go_enter Try.func65, Try.ntmps65
  go_wp2
  all_goals go_ret2
  all_goals exact ⟨rfl, rfl⟩
theorem signed_low (n : Nat) (h : 9223372036854775808 < n) (w : World) :
    Calls Try.prog 65 #[.bool true, .int .u64 n] w fun e w' => e = .returned (.tuple #[.int .i64 0, .bool false]) ∧ w = w' := by
  have h0 : ¬ (n : Int) ≤ (9223372036854775808 : Int) := by omega
  go_enter Try.func65, Try.ntmps65
  go_wp2
  all_goals go_ret2
  all_goals exact ⟨rfl, rfl⟩
theorem signed_neg (n : Nat) (h : n ≤ 9223372036854775808) (w : World) :
    Calls Try.prog 65 #[.bool true, .int .u64 n] w fun e w' => e = .returned (.tuple #[.int .i64 (-(n : Int)), .bool true]) ∧ w = w' := by
  have h0 : (n : Int) ≤ (9223372036854775808 : Int) := by omega
  have y2 : IntKind.i64.wrap (IntKind.u64.wrap (-(n : Int))) = -(n : Int) := by rw [IntKind.wrap_u64, IntKind.wrap_i64]; omega
  go_enter Try.func65, Try.ntmps65
  go_wp2
  all_goals go_ret2
  all_goals exact ⟨rfl, rfl⟩
theorem div_small (lo y : Nat) (h : lo < 18446744073709551616) (hy : 1 ≤ y) (hy' : y < 18446744073709551616) (w : World) :
    Calls Try.prog 84 #[.int .u64 0, .int .u64 lo, .int .u64 y] w fun e w' => e = .returned (.tuple #[.int .u64 (lo / y : Nat), .int .u64 (lo % y : Nat)]) ∧ ∃ n, w' = w.drewN n := by
  have h0 : ((y : Int) == 0) = false := by rw [beq_eq_false_iff_ne]; omega
  have h1 : ¬ (y : Int) ≤ 0 := by omega
  have h2 : ¬ (y : Int) = 0 := by omega
  have h4 : (y = 0) = False := by simp; omega
  have q1 : IntKind.u64.wrap ((lo : Int) / (y : Int)) = ((lo / y : Nat) : Int) := by
    have := Nat.div_le_self lo y
    rw [← Int.natCast_ediv, IntKind.wrap_u64]
    generalize lo / y = q at *
    omega
  have h3 : ((lo : Int) / (y : Int)) = ((lo / y : Nat) : Int) := by rw [Int.natCast_ediv]
  have h5 : ((lo : Int) % (y : Int)) = ((lo % y : Nat) : Int) := by rw [Int.natCast_emod]
  obtain ⟨q, hq⟩ : ∃ q, q = lo / y := ⟨_, rfl⟩
  obtain ⟨r, hr⟩ : ∃ r, r = lo % y := ⟨_, rfl⟩
  rw [← hq] at h3 q1 ⊢
  rw [← hr] at h5 ⊢
  rw [h3] at q1
  clear hq hr
  go_enter Try.func84, Try.ntmps84
  go_wp2_with fail
  go_quiet (fail)
  go_wp2_with fail
  go_ret2
  exact ⟨by rw [← h5]; rfl, _, rfl⟩
theorem mul64_any (x y : Nat) (hx : x < 18446744073709551616) (hy : y < 18446744073709551616) (w : World) :
    Calls Try.prog 63 #[.int .u64 x, .int .u64 y] w fun e w' => e = .returned (.tuple #[.int .u64 (x * y / 18446744073709551616 : Nat), .int .u64 (x * y % 18446744073709551616 : Nat)]) ∧ Below w.heap.size w w' :=
  (Try.bits_Mul64 x y hx hy w).mono fun e w' h => ⟨h.1, by rw [h.2]; exact Below.refl _ _⟩

/-- The guess is not too small. -/
theorem kn_guess {B u y1 y0 v q : Nat} (hv : v < B) (hq : q * (y1 * B + y0) ≤ u * B + v) : q * y1 ≤ u := by
  rcases Nat.lt_or_ge u (q * y1) with h | h
  · have h1 : (u + 1) * B ≤ q * y1 * B := Nat.mul_le_mul_right B h
    have h2 : q * (y1 * B + y0) = q * y1 * B + q * y0 := by rw [Nat.mul_add, Nat.mul_assoc]
    rw [Nat.add_mul, Nat.one_mul] at h1
    rw [h2] at hq
    generalize q * y1 * B = m at *
    generalize u * B = n at *
    generalize q * y0 = k at *
    omega
  · exact h
theorem kn_parts {B u y1 y0 v a r : Nat} (h1 : a * y1 + r = u) : a * (y1 * B + y0) + B * r = u * B + a * y0 := by
  rw [← h1, Nat.mul_add, Nat.add_mul, Nat.mul_assoc, Nat.mul_comm r B]
  generalize a * (y1 * B) = m
  generalize a * y0 = n
  generalize B * r = k
  omega
/-- The loop ends: the guess is not too great. -/
theorem kn_exit {B u y1 y0 v a r : Nat} (h1 : a * y1 + r = u) (h2 : a * y0 ≤ B * r + v) : a * (y1 * B + y0) ≤ u * B + v := by
  have := kn_parts (B := B) (y0 := y0) (v := v) h1
  generalize a * (y1 * B + y0) = m at *
  generalize a * y0 = n at *
  generalize B * r = k at *
  omega
/-- The loop goes on: the guess is too great. -/
theorem kn_more {B u y1 y0 v a r : Nat} (h1 : a * y1 + r = u) (h2 : B * r + v < a * y0) : u * B + v < a * (y1 * B + y0) := by
  have := kn_parts (B := B) (y0 := y0) (v := v) h1
  generalize a * (y1 * B + y0) = m at *
  generalize a * y0 = n at *
  generalize B * r = k at *
  omega
/-- The quotient is one digit. -/
theorem kn_digit {B u y v q : Nat} (hu : u < y) (hv : v < B) (hq : q * y ≤ u * B + v) : q < B := by
  rcases Nat.lt_or_ge q B with h | h
  · exact h
  · have h1 : B * y ≤ q * y := Nat.mul_le_mul_right y h
    have h2 : (u + 1) * B ≤ y * B := Nat.mul_le_mul_right B hu
    rw [Nat.add_mul, Nat.one_mul, Nat.mul_comm y B] at h2
    generalize q * y = m at *
    generalize B * y = n at *
    generalize u * B = k at *
    omega
/-- The first guess is at most one beyond a digit. -/
theorem kn_first {B u y1 y0 : Nat} (hy : B ≤ 2 * y1) (hy0 : y0 < B) (hB : 0 < B) (hu : u < y1 * B + y0) : u / y1 ≤ B + 1 := by
  have h0 : 0 < y1 := by omega
  have h1 : u < (B + 1 + 1) * y1 := by
    have e : (B + 1 + 1) * y1 = y1 * B + y1 + y1 := by rw [Nat.add_mul, Nat.add_mul, Nat.one_mul, Nat.mul_comm B y1]
    rw [e]
    generalize y1 * B = m at *
    omega
  have := (Nat.div_lt_iff_lt_mul h0).2 h1
  omega
/-- The state of the loop: the guess a, its rest r. -/
structure Kn (B u y1 y0 v a r : Nat) : Prop where
  eq : a * y1 + r = u
  ge : ∀ q, q * (y1 * B + y0) ≤ u * B + v → q ≤ a
  top : a ≤ B + 1
theorem Kn.start {B u y1 y0 v : Nat} (hy : B ≤ 2 * y1) (hy0 : y0 < B) (hB : 0 < B) (hv : v < B) (hu : u < y1 * B + y0) : Kn B u y1 y0 v (u / y1) (u - u / y1 * y1) := by
  have h0 : 0 < y1 := by omega
  refine ⟨?_, fun q hq => (Nat.le_div_iff_mul_le h0).2 (kn_guess hv hq), kn_first hy hy0 hB hu⟩
  have := Nat.div_mul_le_self u y1
  omega
/-- A round: the condition holds, the guess comes down by one. -/
theorem Kn.step {B u y1 y0 v a r : Nat} (h : Kn B u y1 y0 v a r) (hB : 0 < B) (hv : v < B) (hu : u < y1 * B + y0) (hc : B ≤ a ∨ B * r + v < a * y0) : 1 ≤ a ∧ Kn B u y1 y0 v (a - 1) (r + y1) ∧ a - 1 ≤ B := by
  have ha : 1 ≤ a := by
    rcases hc with hc | hc
    · omega
    · rcases Nat.eq_zero_or_pos a with e | e
      · subst e; simp at hc
      · exact e
  refine ⟨ha, ⟨?_, fun q hq => ?_, by have := h.top; omega⟩, by have := h.top; omega⟩
  · have e := h.eq
    obtain ⟨b, rfl⟩ : ∃ b, a = b + 1 := ⟨a - 1, by omega⟩
    rw [Nat.add_mul, Nat.one_mul] at e
    simp only [Nat.add_sub_cancel]
    omega
  · have h1 := h.ge q hq
    rcases Nat.lt_or_ge q a with h2 | h2
    · omega
    · have e : q = a := by omega
      subst e
      rcases hc with hc | hc
      · have := kn_digit hu hv hq; omega
      · have := kn_more h.eq hc; omega
/-- The end: the guess is the quotient. -/
theorem Kn.done {B u y1 y0 v a r : Nat} (h : Kn B u y1 y0 v a r) (h0 : 0 < y1 * B + y0) (hc : a * y0 ≤ B * r + v) : a = (u * B + v) / (y1 * B + y0) := by
  have h1 := kn_exit h.eq hc
  have h2 := (Nat.le_div_iff_mul_le h0).2 h1
  have h3 := h.ge _ (Nat.div_mul_le_self _ _)
  omega
/-- The break: the rest has more than a digit. -/
theorem Kn.broke {B u y1 y0 v a r : Nat} (h : Kn B u y1 y0 v a r) (h0 : 0 < y1 * B + y0) (ha : a ≤ B) (hy0 : y0 < B) (hr : B ≤ r) : a = (u * B + v) / (y1 * B + y0) := by
  refine h.done h0 ?_
  have h1 : a * y0 ≤ B * B := Nat.mul_le_mul ha (by omega)
  have h2 : B * B ≤ B * r := Nat.mul_le_mul_left B hr
  omega
/-- Two digits, one after the other. -/
theorem kn_two {B u v1 v0 y : Nat} (hy : 0 < y) :
    ((u * B + v1) * B + v0) / y = (u * B + v1) / y * B + ((u * B + v1) % y * B + v0) / y ∧ ((u * B + v1) * B + v0) % y = ((u * B + v1) % y * B + v0) % y := by
  generalize u * B + v1 = m
  have e : m * B + v0 = (m % y * B + v0) + y * (m / y * B) := by
    have h := Nat.div_add_mod m y
    have h2 : m * B = (y * (m / y) + m % y) * B := by rw [h]
    rw [h2, Nat.add_mul, Nat.mul_assoc]
    omega
  rw [e]
  exact ⟨by rw [Nat.add_mul_div_left _ _ hy, Nat.add_comm], by rw [Nat.add_mul_mod_self_left]⟩
/-- Both numbers shifted: the same quotient, the rest shifted. -/
theorem kn_shift {n y k : Nat} (hk : 0 < k) : n * k / (y * k) = n / y ∧ n * k % (y * k) / k = n % y := by
  refine ⟨Nat.mul_div_mul_right _ _ hk, ?_⟩
  rw [Nat.mul_mod_mul_right, Nat.mul_div_cancel _ hk]
/-- The rest behind a digit, reckoned in 64 bits. -/
theorem kn_wrap {u v y q : Nat} (hy : 0 < y) (hy' : y < 18446744073709551616) (hq : q = (u * 4294967296 + v) / y) :
    IntKind.u64.wrap (IntKind.u64.wrap (IntKind.u64.wrap ((u : Int) * 4294967296) + (v : Int)) - IntKind.u64.wrap ((q : Int) * (y : Int))) = (((u * 4294967296 + v) % y : Nat) : Int) := by
  have e : (q : Int) * (y : Int) = ((q * y : Nat) : Int) := by rw [Int.natCast_mul]
  have h := Nat.div_add_mod (u * 4294967296 + v) y
  have hr := Nat.mod_lt (u * 4294967296 + v) hy
  rw [← hq, Nat.mul_comm y q] at h
  rw [e]
  simp only [IntKind.wrap_u64]
  generalize q * y = m at *
  generalize (u * 4294967296 + v) % y = r at *
  omega
/-- The number of two words, shifted: its upper word, its lower word. -/
theorem kn_in {hi lo s : Nat} (hs : s ≤ 63) (hl : lo < 2 ^ 64) :
    (hi * 2 ^ s) ||| (lo / 2 ^ (64 - s)) = (hi * 2 ^ 64 + lo) * 2 ^ s / 2 ^ 64 ∧ lo * 2 ^ s % 2 ^ 64 = (hi * 2 ^ 64 + lo) * 2 ^ s % 2 ^ 64 := by
  have e : (2 : Nat) ^ 64 = 2 ^ (64 - s) * 2 ^ s := by rw [← Nat.pow_add]; congr 1; omega
  have hb : lo / 2 ^ (64 - s) < 2 ^ s := by
    rw [Nat.div_lt_iff_lt_mul (Nat.two_pow_pos _), Nat.mul_comm, ← e]; exact hl
  have h1 : (hi * 2 ^ 64 + lo) * 2 ^ s = lo * 2 ^ s + 2 ^ 64 * (hi * 2 ^ s) := by
    rw [Nat.add_mul, Nat.mul_assoc, Nat.mul_comm (2 ^ 64) (2 ^ s), ← Nat.mul_assoc, Nat.mul_comm _ (2 ^ 64), Nat.add_comm]
  have h2 : lo * 2 ^ s / 2 ^ 64 = lo / 2 ^ (64 - s) := by rw [e, Nat.mul_div_mul_right _ _ (Nat.two_pow_pos _)]
  rw [h1, Nat.add_mul_div_left _ _ (Nat.two_pow_pos _), Nat.add_mul_mod_self_left, h2]
  refine ⟨?_, rfl⟩
  rw [Nat.mul_comm hi, ← Nat.two_pow_add_eq_or_of_lt hb, Nat.add_comm]
/-- The whole: two digits of the shifted numbers are the quotient, the rest shifted back is the rest. -/
theorem kn_all {n y k : Nat} (hy : 0 < y) (hk : 0 < k) :
    (n * k / 18446744073709551616 * 4294967296 + n * k % 18446744073709551616 / 4294967296) / (y * k) * 4294967296 + ((n * k / 18446744073709551616 * 4294967296 + n * k % 18446744073709551616 / 4294967296) % (y * k) * 4294967296 + n * k % 18446744073709551616 % 4294967296) / (y * k) = n / y ∧
    ((n * k / 18446744073709551616 * 4294967296 + n * k % 18446744073709551616 / 4294967296) % (y * k) * 4294967296 + n * k % 18446744073709551616 % 4294967296) % (y * k) / k = n % y := by
  have hyk : 0 < y * k := Nat.mul_pos hy hk
  have h := kn_two (B := 4294967296) (u := n * k / 18446744073709551616) (v1 := n * k % 18446744073709551616 / 4294967296) (v0 := n * k % 18446744073709551616 % 4294967296) hyk
  have e : (n * k / 18446744073709551616 * 4294967296 + n * k % 18446744073709551616 / 4294967296) * 4294967296 + n * k % 18446744073709551616 % 4294967296 = n * k := by
    generalize n * k = m
    omega
  rw [e] at h
  rw [← h.1, ← h.2]
  exact kn_shift hk
end Go.Proofs.Ythhimllddgfddaa.Nu
namespace Go.Proofs.Ythhimllddgfddaa.Nu
open Go.RowKit Go.Sort
set_option linter.unusedSimpArgs false
set_option linter.unusedVariables false
theorem bitLen_log {x : Nat} (h : 0 < x) (hx : x < 2 ^ 64) : Lib.bitLen x = x.log2 + 1 := by
  have h1 : 2 ^ x.log2 ≤ x := Nat.log2_self_le (by omega)
  have h2 : x < 2 ^ (x.log2 + 1) := Nat.lt_log2_self
  have h3 : x / 2 ^ x.log2 = 1 := by
    rw [Nat.div_eq_iff (Nat.two_pow_pos _)]
    rw [Nat.pow_succ] at h2
    constructor <;> omega
  rw [Lib.bitLen_shift _ _ h1 hx, h3, Nat.add_comm, show Lib.bitLen 1 = 1 by decide, Nat.add_comm]
/-- How far a number is shifted until its greatest bit is the greatest of a word. -/
theorem norm {y : Nat} (hy : 0 < y) (hy' : y < 2 ^ 64) : ∃ s : Nat, s ≤ 63 ∧ 64 - (Lib.bitLen y : Int) = (s : Int) ∧ 9223372036854775808 ≤ y * 2 ^ s ∧ y * 2 ^ s < 18446744073709551616 := by
  have h1 : 2 ^ y.log2 ≤ y := Nat.log2_self_le (by omega)
  have h2 : y < 2 ^ (y.log2 + 1) := Nat.lt_log2_self
  have h3 : y.log2 < 64 := (Nat.log2_lt (by omega)).2 hy'
  refine ⟨63 - y.log2, by omega, by rw [bitLen_log hy hy']; omega, ?_, ?_⟩
  · have := Nat.mul_le_mul_right (2 ^ (63 - y.log2)) h1
    rw [← Nat.pow_add, show y.log2 + (63 - y.log2) = 63 by omega] at this
    simpa using this
  · have := Nat.mul_lt_mul_of_pos_right h2 (Nat.two_pow_pos (63 - y.log2))
    rw [← Nat.pow_add, show y.log2 + 1 + (63 - y.log2) = 64 by omega] at this
    simpa using this
end Go.Proofs.Ythhimllddgfddaa.Nu
namespace Go.Proofs.Ythhimllddgfddaa.Nu
open Go.RowKit Go.Sort
set_option linter.unusedSimpArgs false
set_option linter.unusedVariables false

/-- A word's halves. -/
theorem halves (x : Nat) (hx : x < 18446744073709551616) : ∃ x1 x0 : Nat, x1 < 4294967296 ∧ x0 < 4294967296 ∧ x = x1 * 4294967296 + x0 ∧ (x : Int) / 4294967296 = (x1 : Int) ∧ bits .and .u64 (x : Int) 4294967295 = (x0 : Int) ∧ x1 = x / 4294967296 ∧ x0 = x % 4294967296 ∧ (x : Int) % 4294967296 = (x0 : Int) := by
  refine ⟨x / 4294967296, x % 4294967296, by omega, by omega, by omega, by omega, ?_, rfl, rfl, by omega⟩
  have := u64_and_nat x 4294967295 hx (by omega)
  rw [show (4294967295 : Nat) = 2 ^ 32 - 1 by rfl, Nat.and_two_pow_sub_one_eq_mod] at this
  exact this
/-- A guess, and its rest, as the walk has them. -/
theorem guess_in (U Y1 : Nat) (h1 : 2147483648 ≤ Y1) (hU : U < 18446744073709551616) : ∃ a r m : Nat, a = U / Y1 ∧ r = U - U / Y1 * Y1 ∧ m = a * Y1 ∧ (U : Int) / (Y1 : Int) = (a : Int) ∧ (U : Int).tdiv (Y1 : Int) = (a : Int) ∧ IntKind.u64.wrap (a : Int) = (a : Int) ∧ (a : Int) * (Y1 : Int) = (m : Int) ∧ IntKind.u64.wrap (m : Int) = (m : Int) ∧ (U : Int) - (m : Int) = (r : Int) ∧ IntKind.u64.wrap (r : Int) = (r : Int) ∧ r < Y1 ∧ m ≤ U := by
  have hm := Nat.div_mul_le_self U Y1
  have hr := Nat.mod_lt U (show 0 < Y1 by omega)
  have he := Nat.div_add_mod U Y1
  have hq := Nat.div_le_self U Y1
  rw [Nat.mul_comm] at he
  refine ⟨U / Y1, U - U / Y1 * Y1, U / Y1 * Y1, rfl, rfl, rfl, by rw [Int.natCast_ediv], by rw [Int.tdiv_eq_ediv_of_nonneg (by omega), Int.natCast_ediv], ?_, by rw [Int.natCast_mul], ?_, by omega, ?_, by omega, hm⟩
  · rw [IntKind.wrap_u64]; generalize U / Y1 = a at *; omega
  · rw [IntKind.wrap_u64]; generalize U / Y1 * Y1 = a at *; omega
  · rw [IntKind.wrap_u64]; generalize U / Y1 * Y1 = a at *; omega
theorem norm_great {hi lo y s : Nat} (h0 : hi < y) (hl : lo < 18446744073709551616) (hs : s ≤ 63) (hn2 : y * 2 ^ s < 18446744073709551616) :
    ∃ H L U V : Nat, hi * 2 ^ s = H ∧ H < 18446744073709551616 ∧ lo / 2 ^ (64 - s) = L ∧ L < 18446744073709551616 ∧ H ||| L = U ∧ U < y * 2 ^ s ∧ lo * 2 ^ s % 18446744073709551616 = V ∧ U = (hi * 18446744073709551616 + lo) * 2 ^ s / 18446744073709551616 ∧ V = (hi * 18446744073709551616 + lo) * 2 ^ s % 18446744073709551616 := by
  have hp := Nat.two_pow_pos s
  have h := kn_in (hi := hi) hs hl
  have e64 : (2 : Nat) ^ 64 = 18446744073709551616 := rfl
  rw [e64] at h
  refine ⟨_, _, _, _, rfl, ?_, rfl, Nat.lt_of_le_of_lt (Nat.div_le_self _ _) hl, rfl, ?_, rfl, h.1, h.2⟩
  · have := Nat.mul_lt_mul_of_pos_right h0 hp; omega
  · rw [h.1, Nat.div_lt_iff_lt_mul (by omega)]
    have e : y * 2 ^ s * 18446744073709551616 = y * 18446744073709551616 * 2 ^ s := by rw [Nat.mul_right_comm]
    rw [e]
    exact Nat.mul_lt_mul_of_pos_right (by omega) hp
theorem lz_any (y s : Nat) (hy : y < 18446744073709551616) (h : 64 - (Lib.bitLen y : Int) = (s : Int)) (w : World) :
    Calls Try.prog 86 #[.int .u64 y] w fun e w' => e = .returned (.int .i64 s) ∧ w = w' :=
  (Try.bits_LeadingZeros64 (y : Int) w (by omega) (by omega)).mono fun e w' h' => ⟨by rw [h'.1, Int.toNat_natCast, h], h'.2.symm⟩
theorem ret_two {k l : IntKind} {a b c d : Int} (h : a = b) (h' : c = d) : Ending.returned (.tuple #[.int k a, .int l c]) = .returned (.tuple #[.int k b, .int l d]) := by rw [h, h']
/-- The head of a loop: the guess and its rest. -/
def KnHead (u y1 y0 v : Nat) (q r : Value) : Prop := ∃ a b : Nat, q = .int .u64 a ∧ r = .int .u64 b ∧ b < 4294967296 ∧ a ≤ 4294967297 ∧ Hid (Kn 4294967296 u y1 y0 v a b)
set_option maxRecDepth 100000 in
set_option maxHeartbeats 4000000 in
theorem div64_great (hi lo y : Nat) (h1 : 0 < hi) (h0 : hi < y) (hl : lo < 18446744073709551616) (hy : y < 18446744073709551616) (w : World) :
    Calls Try.prog 84 #[.int .u64 hi, .int .u64 lo, .int .u64 y] w fun e w' => e = .returned (.tuple #[.int .u64 ((hi * 18446744073709551616 + lo) / y : Nat), .int .u64 ((hi * 18446744073709551616 + lo) % y : Nat)]) ∧ w = w' := by
  obtain ⟨s, hs, hbl, hn1, hn2⟩ := norm (y := y) (by omega) hy
  have LZ := Lib.hid (lz_any y s hy hbl)
  obtain ⟨H, L, U, V, hH, bH, hL, bL, hU, bU, hV, eU, eV⟩ := norm_great h0 hl hs hn2
  have hall := kn_all (n := hi * 18446744073709551616 + lo) (y := y) (k := 2 ^ s) (by omega) (Nat.two_pow_pos s)
  rw [← eU, ← eV] at hall
  have x1 : IntKind.u64.wrap ((y : Int) * 2 ^ s) = ((y * 2 ^ s : Nat) : Int) := by
    rw [show (y : Int) * 2 ^ s = ((y * 2 ^ s : Nat) : Int) by rw [Int.natCast_mul, Int.natCast_pow]; rfl, IntKind.wrap_u64]; omega
  have x2 : IntKind.u64.wrap ((hi : Int) * 2 ^ s) = (H : Int) := by
    rw [show (hi : Int) * 2 ^ s = ((hi * 2 ^ s : Nat) : Int) by rw [Int.natCast_mul, Int.natCast_pow]; rfl, IntKind.wrap_u64, hH]; omega
  have x3 : (lo : Int) / 2 ^ (64 - s) = (L : Int) := by rw [← hL, Int.natCast_ediv, Int.natCast_pow]; rfl
  have x4 : bits .or .u64 (H : Int) (L : Int) = (U : Int) := by rw [u64_or_nat H L bH bL, hU]
  have x5 : IntKind.u64.wrap ((lo : Int) * 2 ^ s) = (V : Int) := by
    rw [show (lo : Int) * 2 ^ s = ((lo * 2 ^ s : Nat) : Int) by rw [Int.natCast_mul, Int.natCast_pow]; rfl, IntKind.wrap_u64, ← hV]; omega
  have bV : V < 18446744073709551616 := by rw [← hV]; exact Nat.mod_lt _ (by omega)
  obtain ⟨Y, hY⟩ : ∃ Y, Y = y * 2 ^ s := ⟨_, rfl⟩
  rw [← hY] at x1 hn1 hn2 bU hall
  obtain ⟨Y1, Y0, bY1, bY0, eY, x6, x7, g1, g0, x7'⟩ := halves Y hn2
  obtain ⟨V1, V0, bV1, bV0, eVV, x8, x9, f1, f0, x9'⟩ := halves V bV
  rw [← f1, ← f0] at hall
  have hY1 : 2147483648 ≤ Y1 := by omega
  have bU64 : U < 18446744073709551616 := by omega
  obtain ⟨a0, r0, m0, ea0, er0, em0, z1, z2, z3, z4, z5, z6, z7, br0, bm0⟩ := guess_in U Y1 hY1 bU64
  have K0 : Hid (Kn 4294967296 U Y1 Y0 V1 a0 r0) := Lib.hid (by
    rw [ea0, er0]; exact Kn.start (by omega) bY0 (by omega) bV1 (by rw [← eY]; exact bU))
  have ba0 := K0.out.top
  have HALL := Lib.hid hall
  have HEY := Lib.hid eY
  have HBU := Lib.hid bU
  have d1 : ¬ (Y1 : Int) = 0 := by omega
  have d7 : ¬ (Y : Int) / 4294967296 = 0 := by rw [x6]; omega
  have d2 : ¬ (y : Int) = 0 := by omega
  have d3 : ¬ (hi : Int) = 0 := by omega
  have d4 : ¬ (y : Int) ≤ (hi : Int) := by omega
  have d5 : ((y : Int) == 0) = false := by rw [beq_eq_false_iff_ne]; omega
  have d6 : ((hi : Int) == 0) = false := by rw [beq_eq_false_iff_ne]; omega
  have s1 : IntKind.u64.wrap (s : Int) = (s : Int) := by rw [IntKind.wrap_u64]; omega
  have s2 : (0 : Int) ≤ (s : Int) := by omega
  have s3 : (s : Int) < 64 := by omega
  have X6 := Lib.hid x6
  have X7 := Lib.hid x7'
  have X7b := Lib.hid x7
  have X9 := Lib.hid x9'
  clear x6 x7 x7' x9' g1 g0
  clear hs hbl hH bH hL bL hU hV eU eV hall hY hn1 eVV f1 f0 ea0 er0 em0 eY bU h1 h0 hl hy
  go_enter Try.func84, Try.ntmps84
  go_wp2_with fail
  refine (LZ.out _).mono ?_
  rintro e w1 ⟨rfl, rfl⟩
  go_upto_block 0 with fail
  simp only [X6.out, X7.out, X7b.out, z1, z3, z4, z5, z6, z7]
  go_cut [15] (fun q wx => q = .int .u64 ((U * 4294967296 + V1) / Y : Nat) ∧ w = wx)
  case first =>
    go_wp2_with fail
    go_loop [15, 16] (fun q r => KnHead U Y1 Y0 V1 q r) (fun q _ => (intOf q).toNat)
    case atStart => exact ⟨a0, r0, rfl, rfl, by omega, ba0, K0⟩
    case round =>
      obtain ⟨a, b, rfl, rfl, hb, ha, HK⟩ := hrel
      clear z1 z2 z3 z4 z5 z6 z7 br0 bm0 ba0 K0
      obtain ⟨m, hm⟩ : ∃ m, m = a * Y0 := ⟨_, rfl⟩
      have y1 : (a : Int) * (Y0 : Int) = (m : Int) := by rw [hm, Int.natCast_mul]
      by_cases hc : 4294967296 ≤ a ∨ 4294967296 * b + V1 < a * Y0
      · have hs := HK.out.step (by omega) bV1 (by rw [← HEY.out]; exact HBU.out) hc
        obtain ⟨d, hd⟩ : ∃ d, d = b + Y1 := ⟨_, rfl⟩
        obtain ⟨c, hcc⟩ : ∃ c, c = a - 1 := ⟨_, rfl⟩
        rw [← hd, ← hcc] at hs
        have HS := Lib.hid hs.2.1
        have hc4 : c ≤ 4294967296 := hs.2.2
        have y2 : (a : Int) - 1 = (c : Int) := by have := hs.1; omega
        have y3 : (b : Int) + (Y1 : Int) = (d : Int) := by omega
        have ha1 : 1 ≤ a := hs.1
        have hd2 : d < 8589934592 := by omega
        rw [← hm] at hc
        clear hs HK hcc hd
        by_cases hB : 4294967296 ≤ d
        · have HE : Hid (c = (U * 4294967296 + V1) / Y) := Lib.hid (by
            have := HS.out.broke (by omega) hc4 bY0 hB
            rw [this, HEY.out])
          clear HS
          by_cases hA : 4294967296 ≤ a
          · have hA' : 4294967296 ≤ (a : Int) := by omega
            have hbI : (b : Int) < 4294967296 := by omega
            have hdI : (d : Int) < 8589934592 := by omega
            have hBI : 4294967296 ≤ (d : Int) := by omega
            have haI : (a : Int) ≤ 4294967297 := by omega
            have HB := Lib.hid hB
            have HC := Lib.hid hc4
            clear hc y1 hm hA hB hb ha hd2 ha1 hc4
            obtain ⟨C, EC⟩ : ∃ C : Int, C = (c : Int) := ⟨_, rfl⟩
            obtain ⟨D, ED⟩ : ∃ D : Int, D = (d : Int) := ⟨_, rfl⟩
            rw [← EC] at y2
            rw [← ED] at y3 hdI hBI
            have HEC := Lib.hid EC
            have HED := Lib.hid ED
            have hA0 : 0 ≤ (a : Int) := by omega
            have hB0 : 0 ≤ (b : Int) := by omega
            have hC0 : 0 ≤ C := by omega
            have hD0 : 0 ≤ D := by omega
            clear EC ED
            generalize (a : Int) = A at *
            have v1a : 0 ≤ (V1 : Int) := by omega
            have v1b : (V1 : Int) < 4294967296 := by omega
            have y1a : 2147483648 ≤ (Y1 : Int) := by omega
            have y1b : (Y1 : Int) < 4294967296 := by omega
            have y0a : 0 ≤ (Y0 : Int) := by omega
            have y0b : (Y0 : Int) < 4294967296 := by omega
            generalize (b : Int) = B' at *
            generalize (V1 : Int) = V1' at *
            generalize (Y1 : Int) = Y1' at *
            generalize (Y0 : Int) = Y0' at *
            go_wp2_with fail
            go_meet
            exact ⟨by rw [HEC.out, HE.out], rfl⟩
          · have hbm : (m : Int) < 18446744073709551616 := by
              have := Nat.mul_le_mul (show a ≤ 4294967295 by omega) (show Y0 ≤ 4294967295 by omega)
              omega
            have hc2 : 4294967296 * (b : Int) + (V1 : Int) < (m : Int) := by have := hc.resolve_left hA; omega
            have hA' : ¬ 4294967296 ≤ (a : Int) := by omega
            have hbI : (b : Int) < 4294967296 := by omega
            have hdI : (d : Int) < 8589934592 := by omega
            have hBI : 4294967296 ≤ (d : Int) := by omega
            have haI : 1 ≤ (a : Int) := by omega
            have HB := Lib.hid hB
            have HC := Lib.hid hc4
            clear hA hB hb ha hd2 ha1 hc4
            clear hc hm
            obtain ⟨C, EC⟩ : ∃ C : Int, C = (c : Int) := ⟨_, rfl⟩
            obtain ⟨D, ED⟩ : ∃ D : Int, D = (d : Int) := ⟨_, rfl⟩
            rw [← EC] at y2
            rw [← ED] at y3 hdI hBI
            have HEC := Lib.hid EC
            have HED := Lib.hid ED
            have hA0 : 0 ≤ (a : Int) := by omega
            have hB0 : 0 ≤ (b : Int) := by omega
            have hC0 : 0 ≤ C := by omega
            have hD0 : 0 ≤ D := by omega
            clear EC ED
            generalize (a : Int) = A at *
            have v1a : 0 ≤ (V1 : Int) := by omega
            have v1b : (V1 : Int) < 4294967296 := by omega
            have y1a : 2147483648 ≤ (Y1 : Int) := by omega
            have y1b : (Y1 : Int) < 4294967296 := by omega
            have y0a : 0 ≤ (Y0 : Int) := by omega
            have y0b : (Y0 : Int) < 4294967296 := by omega
            generalize (b : Int) = B' at *
            have hm0 : 0 ≤ (m : Int) := by omega
            generalize (m : Int) = M' at *
            generalize (V1 : Int) = V1' at *
            generalize (Y1 : Int) = Y1' at *
            generalize (Y0 : Int) = Y0' at *
            go_wp2_with fail
            go_meet
            exact ⟨by rw [HEC.out, HE.out], rfl⟩
        · by_cases hA : 4294967296 ≤ a
          · have hA' : 4294967296 ≤ (a : Int) := by omega
            have hbI : (b : Int) < 4294967296 := by omega
            have hdI : (d : Int) < 8589934592 := by omega
            have hBI : ¬ 4294967296 ≤ (d : Int) := by omega
            have haI : (a : Int) ≤ 4294967297 := by omega
            have HB := Lib.hid hB
            have HC := Lib.hid hc4
            clear hc y1 hm hA hB hb ha hd2 ha1 hc4
            obtain ⟨C, EC⟩ : ∃ C : Int, C = (c : Int) := ⟨_, rfl⟩
            obtain ⟨D, ED⟩ : ∃ D : Int, D = (d : Int) := ⟨_, rfl⟩
            rw [← EC] at y2
            rw [← ED] at y3 hdI hBI
            have HEC := Lib.hid EC
            have HED := Lib.hid ED
            have hA0 : 0 ≤ (a : Int) := by omega
            have hB0 : 0 ≤ (b : Int) := by omega
            have hC0 : 0 ≤ C := by omega
            have hD0 : 0 ≤ D := by omega
            clear EC ED
            generalize (a : Int) = A at *
            have v1a : 0 ≤ (V1 : Int) := by omega
            have v1b : (V1 : Int) < 4294967296 := by omega
            have y1a : 2147483648 ≤ (Y1 : Int) := by omega
            have y1b : (Y1 : Int) < 4294967296 := by omega
            have y0a : 0 ≤ (Y0 : Int) := by omega
            have y0b : (Y0 : Int) < 4294967296 := by omega
            generalize (b : Int) = B' at *
            generalize (V1 : Int) = V1' at *
            generalize (Y1 : Int) = Y1' at *
            generalize (Y0 : Int) = Y0' at *
            go_wp2_with fail
            go_round
            case rel => exact ⟨c, d, by rw [HEC.out], by rw [HED.out], by have := HB.out; omega, by have := HC.out; omega, HS⟩
            case measure => simp [intOf]; omega
          · have hbm : (m : Int) < 18446744073709551616 := by
              have := Nat.mul_le_mul (show a ≤ 4294967295 by omega) (show Y0 ≤ 4294967295 by omega)
              omega
            have hc2 : 4294967296 * (b : Int) + (V1 : Int) < (m : Int) := by have := hc.resolve_left hA; omega
            have hA' : ¬ 4294967296 ≤ (a : Int) := by omega
            have hbI : (b : Int) < 4294967296 := by omega
            have hdI : (d : Int) < 8589934592 := by omega
            have hBI : ¬ 4294967296 ≤ (d : Int) := by omega
            have haI : 1 ≤ (a : Int) := by omega
            have HB := Lib.hid hB
            have HC := Lib.hid hc4
            clear hA hB hb ha hd2 ha1 hc4
            clear hc hm
            obtain ⟨C, EC⟩ : ∃ C : Int, C = (c : Int) := ⟨_, rfl⟩
            obtain ⟨D, ED⟩ : ∃ D : Int, D = (d : Int) := ⟨_, rfl⟩
            rw [← EC] at y2
            rw [← ED] at y3 hdI hBI
            have HEC := Lib.hid EC
            have HED := Lib.hid ED
            have hA0 : 0 ≤ (a : Int) := by omega
            have hB0 : 0 ≤ (b : Int) := by omega
            have hC0 : 0 ≤ C := by omega
            have hD0 : 0 ≤ D := by omega
            clear EC ED
            generalize (a : Int) = A at *
            have v1a : 0 ≤ (V1 : Int) := by omega
            have v1b : (V1 : Int) < 4294967296 := by omega
            have y1a : 2147483648 ≤ (Y1 : Int) := by omega
            have y1b : (Y1 : Int) < 4294967296 := by omega
            have y0a : 0 ≤ (Y0 : Int) := by omega
            have y0b : (Y0 : Int) < 4294967296 := by omega
            generalize (b : Int) = B' at *
            have hm0 : 0 ≤ (m : Int) := by omega
            generalize (m : Int) = M' at *
            generalize (V1 : Int) = V1' at *
            generalize (Y1 : Int) = Y1' at *
            generalize (Y0 : Int) = Y0' at *
            go_wp2_with fail
            go_round
            case rel => exact ⟨c, d, by rw [HEC.out], by rw [HED.out], by have := HB.out; omega, by have := HC.out; omega, HS⟩
            case measure => simp [intOf]; omega
      · have hA : ¬ 4294967296 ≤ a := fun h => hc (.inl h)
        have hc2 : ¬ 4294967296 * b + V1 < a * Y0 := fun h => hc (.inr h)
        have HE : Hid (a = (U * 4294967296 + V1) / Y) := Lib.hid (by
          have := HK.out.done (by omega) (by omega)
          rw [this, HEY.out])
        rw [← hm] at hc2
        have hbm : (m : Int) < 18446744073709551616 := by omega
        have hA' : ¬ 4294967296 ≤ (a : Int) := by omega
        have hbI : (b : Int) < 4294967296 := by omega
        have hc3 : ¬ 4294967296 * (b : Int) + (V1 : Int) < (m : Int) := by omega
        clear hc hm HK hA hc2 hb ha
        obtain ⟨A, EA⟩ : ∃ A : Int, A = (a : Int) := ⟨_, rfl⟩
        rw [← EA] at y1 hA' ⊢
        have HEA := Lib.hid EA
        have hA0 : 0 ≤ A := by omega
        clear EA
        have hb0 : 0 ≤ (b : Int) := by omega
        have hm0 : 0 ≤ (m : Int) := by omega
        have v1a : 0 ≤ (V1 : Int) := by omega
        have v1b : (V1 : Int) < 4294967296 := by omega
        have y1a : 2147483648 ≤ (Y1 : Int) := by omega
        have y1b : (Y1 : Int) < 4294967296 := by omega
        have y0a : 0 ≤ (Y0 : Int) := by omega
        have y0b : (Y0 : Int) < 4294967296 := by omega
        generalize (b : Int) = B' at *
        generalize (V1 : Int) = V1' at *
        generalize (Y1 : Int) = Y1' at *
        generalize (Y0 : Int) = Y0' at *
        generalize (m : Int) = M' at *
        go_wp2_with fail
        go_meet
        exact ⟨by rw [HEA.out, HE.out], rfl⟩
  case rest =>
    obtain ⟨rfl, rfl⟩ := hcut
    clear z1 z2 z3 z4 z5 z6 z7 br0 bm0 ba0 K0
    have hY0 : 0 < Y := by rw [HEY.out]; omega
    have W1 := Lib.hid (kn_wrap (u := U) (v := V1) (y := Y) (q := (U * 4294967296 + V1) / Y) hY0 hn2 rfl)
    obtain ⟨Q1, hQ1⟩ : ∃ Q1, Q1 = (U * 4294967296 + V1) / Y := ⟨_, rfl⟩
    obtain ⟨U2, hU2⟩ : ∃ U2, U2 = (U * 4294967296 + V1) % Y := ⟨_, rfl⟩
    have bQ1 : Q1 < 4294967296 := by rw [hQ1]; exact kn_digit HBU.out bV1 (Nat.div_mul_le_self _ _)
    have bU2 : U2 < Y := by rw [hU2]; exact Nat.mod_lt _ hY0
    have bU264 : U2 < 18446744073709551616 := by omega
    rw [← hQ1, ← hU2] at W1 HALL
    rw [← hQ1]
    obtain ⟨a1, r1, m1, ea1, er1, em1, z1, z2, z3, z4, z5, z6, z7, br1, bm1⟩ := guess_in U2 Y1 hY1 bU264
    have K1 : Hid (Kn 4294967296 U2 Y1 Y0 V0 a1 r1) := Lib.hid (by
      rw [ea1, er1]; exact Kn.start (by omega) bY0 (by omega) bV0 (by rw [← HEY.out]; exact bU2))
    have ba1 := K1.out.top
    have HBU2 := Lib.hid bU2
    have HQ1b := Lib.hid bQ1
    clear hQ1 hU2 ea1 er1 em1 bU2 HBU bQ1
    go_upto_block 2 with fail
    simp only [W1.out, X6.out, z1, z2, z3, z4, z5, z6, z7]
    go_cut [18] (fun q wx => q = .int .u64 ((U2 * 4294967296 + V0) / Y : Nat) ∧ w = wx)
    case first =>
      go_wp2_with fail
      go_loop [18, 16] (fun q r => KnHead U2 Y1 Y0 V0 q r) (fun q _ => (intOf q).toNat)
      case atStart => exact ⟨a1, r1, rfl, rfl, by omega, ba1, K1⟩
      case round =>
        obtain ⟨a, b, rfl, rfl, hb, ha, HK⟩ := hrel
        clear z1 z2 z3 z4 z5 z6 z7 br1 bm1 ba1 K1
        obtain ⟨m, hm⟩ : ∃ m, m = a * Y0 := ⟨_, rfl⟩
        have y1 : (a : Int) * (Y0 : Int) = (m : Int) := by rw [hm, Int.natCast_mul]
        by_cases hc : 4294967296 ≤ a ∨ 4294967296 * b + V0 < a * Y0
        · have hs := HK.out.step (by omega) bV0 (by rw [← HEY.out]; exact HBU2.out) hc
          obtain ⟨d, hd⟩ : ∃ d, d = b + Y1 := ⟨_, rfl⟩
          obtain ⟨c, hcc⟩ : ∃ c, c = a - 1 := ⟨_, rfl⟩
          rw [← hd, ← hcc] at hs
          have HS := Lib.hid hs.2.1
          have hc4 : c ≤ 4294967296 := hs.2.2
          have y2 : (a : Int) - 1 = (c : Int) := by have := hs.1; omega
          have y3 : (b : Int) + (Y1 : Int) = (d : Int) := by omega
          have ha1 : 1 ≤ a := hs.1
          have hd2 : d < 8589934592 := by omega
          rw [← hm] at hc
          clear hs HK hcc hd
          by_cases hB : 4294967296 ≤ d
          · have HE : Hid (c = (U2 * 4294967296 + V0) / Y) := Lib.hid (by
              have := HS.out.broke (by omega) hc4 bY0 hB
              rw [this, HEY.out])
            clear HS
            by_cases hA : 4294967296 ≤ a
            · have hA' : 4294967296 ≤ (a : Int) := by omega
              have hbI : (b : Int) < 4294967296 := by omega
              have hdI : (d : Int) < 8589934592 := by omega
              have hBI : 4294967296 ≤ (d : Int) := by omega
              have haI : (a : Int) ≤ 4294967297 := by omega
              have HB := Lib.hid hB
              have HC := Lib.hid hc4
              clear hc y1 hm hA hB hb ha hd2 ha1 hc4
              obtain ⟨C, EC⟩ : ∃ C : Int, C = (c : Int) := ⟨_, rfl⟩
              obtain ⟨D, ED⟩ : ∃ D : Int, D = (d : Int) := ⟨_, rfl⟩
              rw [← EC] at y2
              rw [← ED] at y3 hdI hBI
              have HEC := Lib.hid EC
              have HED := Lib.hid ED
              have hA0 : 0 ≤ (a : Int) := by omega
              have hB0 : 0 ≤ (b : Int) := by omega
              have hC0 : 0 ≤ C := by omega
              have hD0 : 0 ≤ D := by omega
              clear EC ED
              generalize (a : Int) = A at *
              have v0a : 0 ≤ (V0 : Int) := by omega
              have v0b : (V0 : Int) < 4294967296 := by omega
              have y1a : 2147483648 ≤ (Y1 : Int) := by omega
              have y1b : (Y1 : Int) < 4294967296 := by omega
              have y0a : 0 ≤ (Y0 : Int) := by omega
              have y0b : (Y0 : Int) < 4294967296 := by omega
              generalize (b : Int) = B' at *
              generalize (V0 : Int) = V0' at *
              generalize (Y1 : Int) = Y1' at *
              generalize (Y0 : Int) = Y0' at *
              go_wp2_with fail
              go_meet
              exact ⟨by rw [HEC.out, HE.out], rfl⟩
            · have hbm : (m : Int) < 18446744073709551616 := by
                have := Nat.mul_le_mul (show a ≤ 4294967295 by omega) (show Y0 ≤ 4294967295 by omega)
                omega
              have hc2 : 4294967296 * (b : Int) + (V0 : Int) < (m : Int) := by have := hc.resolve_left hA; omega
              have hA' : ¬ 4294967296 ≤ (a : Int) := by omega
              have hbI : (b : Int) < 4294967296 := by omega
              have hdI : (d : Int) < 8589934592 := by omega
              have hBI : 4294967296 ≤ (d : Int) := by omega
              have haI : 1 ≤ (a : Int) := by omega
              have HB := Lib.hid hB
              have HC := Lib.hid hc4
              clear hA hB hb ha hd2 ha1 hc4
              clear hc hm
              obtain ⟨C, EC⟩ : ∃ C : Int, C = (c : Int) := ⟨_, rfl⟩
              obtain ⟨D, ED⟩ : ∃ D : Int, D = (d : Int) := ⟨_, rfl⟩
              rw [← EC] at y2
              rw [← ED] at y3 hdI hBI
              have HEC := Lib.hid EC
              have HED := Lib.hid ED
              have hA0 : 0 ≤ (a : Int) := by omega
              have hB0 : 0 ≤ (b : Int) := by omega
              have hC0 : 0 ≤ C := by omega
              have hD0 : 0 ≤ D := by omega
              clear EC ED
              generalize (a : Int) = A at *
              have v0a : 0 ≤ (V0 : Int) := by omega
              have v0b : (V0 : Int) < 4294967296 := by omega
              have y1a : 2147483648 ≤ (Y1 : Int) := by omega
              have y1b : (Y1 : Int) < 4294967296 := by omega
              have y0a : 0 ≤ (Y0 : Int) := by omega
              have y0b : (Y0 : Int) < 4294967296 := by omega
              generalize (b : Int) = B' at *
              have hm0 : 0 ≤ (m : Int) := by omega
              generalize (m : Int) = M' at *
              generalize (V0 : Int) = V0' at *
              generalize (Y1 : Int) = Y1' at *
              generalize (Y0 : Int) = Y0' at *
              go_wp2_with fail
              go_meet
              exact ⟨by rw [HEC.out, HE.out], rfl⟩
          · by_cases hA : 4294967296 ≤ a
            · have hA' : 4294967296 ≤ (a : Int) := by omega
              have hbI : (b : Int) < 4294967296 := by omega
              have hdI : (d : Int) < 8589934592 := by omega
              have hBI : ¬ 4294967296 ≤ (d : Int) := by omega
              have haI : (a : Int) ≤ 4294967297 := by omega
              have HB := Lib.hid hB
              have HC := Lib.hid hc4
              clear hc y1 hm hA hB hb ha hd2 ha1 hc4
              obtain ⟨C, EC⟩ : ∃ C : Int, C = (c : Int) := ⟨_, rfl⟩
              obtain ⟨D, ED⟩ : ∃ D : Int, D = (d : Int) := ⟨_, rfl⟩
              rw [← EC] at y2
              rw [← ED] at y3 hdI hBI
              have HEC := Lib.hid EC
              have HED := Lib.hid ED
              have hA0 : 0 ≤ (a : Int) := by omega
              have hB0 : 0 ≤ (b : Int) := by omega
              have hC0 : 0 ≤ C := by omega
              have hD0 : 0 ≤ D := by omega
              clear EC ED
              generalize (a : Int) = A at *
              have v0a : 0 ≤ (V0 : Int) := by omega
              have v0b : (V0 : Int) < 4294967296 := by omega
              have y1a : 2147483648 ≤ (Y1 : Int) := by omega
              have y1b : (Y1 : Int) < 4294967296 := by omega
              have y0a : 0 ≤ (Y0 : Int) := by omega
              have y0b : (Y0 : Int) < 4294967296 := by omega
              generalize (b : Int) = B' at *
              generalize (V0 : Int) = V0' at *
              generalize (Y1 : Int) = Y1' at *
              generalize (Y0 : Int) = Y0' at *
              go_wp2_with fail
              go_round
              case rel => exact ⟨c, d, by rw [HEC.out], by rw [HED.out], by have := HB.out; omega, by have := HC.out; omega, HS⟩
              case measure => simp [intOf]; omega
            · have hbm : (m : Int) < 18446744073709551616 := by
                have := Nat.mul_le_mul (show a ≤ 4294967295 by omega) (show Y0 ≤ 4294967295 by omega)
                omega
              have hc2 : 4294967296 * (b : Int) + (V0 : Int) < (m : Int) := by have := hc.resolve_left hA; omega
              have hA' : ¬ 4294967296 ≤ (a : Int) := by omega
              have hbI : (b : Int) < 4294967296 := by omega
              have hdI : (d : Int) < 8589934592 := by omega
              have hBI : ¬ 4294967296 ≤ (d : Int) := by omega
              have haI : 1 ≤ (a : Int) := by omega
              have HB := Lib.hid hB
              have HC := Lib.hid hc4
              clear hA hB hb ha hd2 ha1 hc4
              clear hc hm
              obtain ⟨C, EC⟩ : ∃ C : Int, C = (c : Int) := ⟨_, rfl⟩
              obtain ⟨D, ED⟩ : ∃ D : Int, D = (d : Int) := ⟨_, rfl⟩
              rw [← EC] at y2
              rw [← ED] at y3 hdI hBI
              have HEC := Lib.hid EC
              have HED := Lib.hid ED
              have hA0 : 0 ≤ (a : Int) := by omega
              have hB0 : 0 ≤ (b : Int) := by omega
              have hC0 : 0 ≤ C := by omega
              have hD0 : 0 ≤ D := by omega
              clear EC ED
              generalize (a : Int) = A at *
              have v0a : 0 ≤ (V0 : Int) := by omega
              have v0b : (V0 : Int) < 4294967296 := by omega
              have y1a : 2147483648 ≤ (Y1 : Int) := by omega
              have y1b : (Y1 : Int) < 4294967296 := by omega
              have y0a : 0 ≤ (Y0 : Int) := by omega
              have y0b : (Y0 : Int) < 4294967296 := by omega
              generalize (b : Int) = B' at *
              have hm0 : 0 ≤ (m : Int) := by omega
              generalize (m : Int) = M' at *
              generalize (V0 : Int) = V0' at *
              generalize (Y1 : Int) = Y1' at *
              generalize (Y0 : Int) = Y0' at *
              go_wp2_with fail
              go_round
              case rel => exact ⟨c, d, by rw [HEC.out], by rw [HED.out], by have := HB.out; omega, by have := HC.out; omega, HS⟩
              case measure => simp [intOf]; omega
        · have hA : ¬ 4294967296 ≤ a := fun h => hc (.inl h)
          have hc2 : ¬ 4294967296 * b + V0 < a * Y0 := fun h => hc (.inr h)
          have HE : Hid (a = (U2 * 4294967296 + V0) / Y) := Lib.hid (by
            have := HK.out.done (by omega) (by omega)
            rw [this, HEY.out])
          rw [← hm] at hc2
          have hbm : (m : Int) < 18446744073709551616 := by omega
          have hA' : ¬ 4294967296 ≤ (a : Int) := by omega
          have hbI : (b : Int) < 4294967296 := by omega
          have hc3 : ¬ 4294967296 * (b : Int) + (V0 : Int) < (m : Int) := by omega
          clear hc hm HK hA hc2 hb ha
          obtain ⟨A, EA⟩ : ∃ A : Int, A = (a : Int) := ⟨_, rfl⟩
          rw [← EA] at y1 hA' ⊢
          have HEA := Lib.hid EA
          have hA0 : 0 ≤ A := by omega
          clear EA
          have hb0 : 0 ≤ (b : Int) := by omega
          have hm0 : 0 ≤ (m : Int) := by omega
          have v0a : 0 ≤ (V0 : Int) := by omega
          have v0b : (V0 : Int) < 4294967296 := by omega
          have y1a : 2147483648 ≤ (Y1 : Int) := by omega
          have y1b : (Y1 : Int) < 4294967296 := by omega
          have y0a : 0 ≤ (Y0 : Int) := by omega
          have y0b : (Y0 : Int) < 4294967296 := by omega
          generalize (b : Int) = B' at *
          generalize (V0 : Int) = V0' at *
          generalize (Y1 : Int) = Y1' at *
          generalize (Y0 : Int) = Y0' at *
          generalize (m : Int) = M' at *
          go_wp2_with fail
          go_meet
          exact ⟨by rw [HEA.out, HE.out], rfl⟩

    case rest =>
      obtain ⟨rfl, rfl⟩ := hcut
      clear z1 z2 z3 z4 z5 z6 z7 br1 bm1 ba1 K1
      have hY0 : 0 < Y := by rw [HEY.out]; omega
      have W2 := Lib.hid (kn_wrap (u := U2) (v := V0) (y := Y) (q := (U2 * 4294967296 + V0) / Y) hY0 hn2 rfl)
      obtain ⟨Q0, hQ0⟩ : ∃ Q0, Q0 = (U2 * 4294967296 + V0) / Y := ⟨_, rfl⟩
      obtain ⟨U3, hU3⟩ : ∃ U3, U3 = (U2 * 4294967296 + V0) % Y := ⟨_, rfl⟩
      have bQ0 : Q0 < 4294967296 := by rw [hQ0]; exact kn_digit HBU2.out bV0 (Nat.div_mul_le_self _ _)
      have bU3 : U3 < 18446744073709551616 := by
        have : U3 < Y := by rw [hU3]; exact Nat.mod_lt _ hY0
        omega
      rw [← hQ0, ← hU3] at W2 HALL
      rw [← hQ0]
      have bQ1 := HQ1b.out
      have e1 : (Q1 : Int) * 4294967296 + (Q0 : Int) = (((hi * 18446744073709551616 + lo) / y : Nat) : Int) := by have := HALL.out.1; omega
      have E1 := Lib.hid e1
      have W3 : Hid ((U3 : Int) / 2 ^ s = (((hi * 18446744073709551616 + lo) % y : Nat) : Int)) := Lib.hid (by rw [← HALL.out.2, Int.natCast_ediv, Int.natCast_pow]; rfl)
      clear e1 hQ0 hU3 HALL
      go_wp2_with fail
      go_ret2
      exact ⟨ret_two E1.out (by rw [W2.out]; exact W3.out), rfl⟩
theorem div64_any (hi lo y : Nat) (h0 : hi < y) (hl : lo < 18446744073709551616) (hy : y < 18446744073709551616) (w : World) :
    Calls Try.prog 84 #[.int .u64 hi, .int .u64 lo, .int .u64 y] w fun e w' => e = .returned (.tuple #[.int .u64 ((hi * 18446744073709551616 + lo) / y : Nat), .int .u64 ((hi * 18446744073709551616 + lo) % y : Nat)]) ∧ ∃ n, w' = w.drewN n := by
  rcases Nat.eq_zero_or_pos hi with h | h
  · subst h
    have := div_small lo y hl (by omega) hy w
    simpa using this
  · exact (div64_great hi lo y h h0 hl hy w).mono fun e w' ⟨h1, h2⟩ => ⟨h1, 0, by rw [← h2]; rfl⟩
/-- Is a quotient with that rest rounded away from nought? -/
def awayB (quo rest by' : Nat) (neg : Bool) (mode : Int) : Bool :=
  if mode = 1 then neg && decide (rest ≠ 0) else if mode = 2 then decide (by' ≤ 2 * rest) else if mode = 3 then decide (by' < 2 * rest) || (decide (by' = 2 * rest) && decide (quo % 2 = 1)) else false
theorem away_down (quo rest by' : Nat) (neg : Bool) (h : rest < by') (hb : by' < 18446744073709551616) (w : World) :
    Calls Try.prog 85 #[.int .u64 quo, .int .u64 rest, .int .u64 by', .bool neg, .int .i64 0] w fun e w' => e = .returned (.bool (awayB quo rest by' neg 0)) ∧ w = w' := by
  have y1 : IntKind.u64.wrap ((by' : Int) - (rest : Int)) = (by' : Int) - (rest : Int) := by rw [IntKind.wrap_u64]; omega
  clear h hb
  go_enter Try.func85, Try.ntmps85
  go_wp2_with fail
  go_ret
  exact ⟨by simp [awayB], rfl⟩
theorem away_floor (quo rest by' : Nat) (neg : Bool) (h : rest < by') (hb : by' < 18446744073709551616) (w : World) :
    Calls Try.prog 85 #[.int .u64 quo, .int .u64 rest, .int .u64 by', .bool neg, .int .i64 1] w fun e w' => e = .returned (.bool (awayB quo rest by' neg 1)) ∧ w = w' := by
  have y1 : IntKind.u64.wrap ((by' : Int) - (rest : Int)) = (by' : Int) - (rest : Int) := by rw [IntKind.wrap_u64]; omega
  clear h hb
  cases neg <;> by_cases h0 : rest = 0
  all_goals (
    go_enter Try.func85, Try.ntmps85
    go_wp2_with fail
    go_ret
    exact ⟨by simp [awayB, h0], rfl⟩)
theorem away_half (quo rest by' : Nat) (neg : Bool) (h : rest < by') (hb : by' < 18446744073709551616) (w : World) :
    Calls Try.prog 85 #[.int .u64 quo, .int .u64 rest, .int .u64 by', .bool neg, .int .i64 2] w fun e w' => e = .returned (.bool (awayB quo rest by' neg 2)) ∧ w = w' := by
  have y1 : IntKind.u64.wrap ((by' : Int) - (rest : Int)) = (by' : Int) - (rest : Int) := by rw [IntKind.wrap_u64]; omega
  have e1 : decide ((by' : Int) - (rest : Int) ≤ (rest : Int)) = awayB quo rest by' neg 2 := by
    simp only [awayB]; simp only [show ¬ ((2 : Int) = 1) by decide, if_false, if_true]; rw [decide_eq_decide]; omega
  clear h hb
  go_enter Try.func85, Try.ntmps85
  go_wp2_with fail
  go_ret
  exact ⟨by first | rfl | rw [e1], rfl⟩
theorem away_even (quo rest by' : Nat) (neg : Bool) (h : rest < by') (hb : by' < 18446744073709551616) (w : World) :
    Calls Try.prog 85 #[.int .u64 quo, .int .u64 rest, .int .u64 by', .bool neg, .int .i64 3] w fun e w' => e = .returned (.bool (awayB quo rest by' neg 3)) ∧ w = w' := by
  obtain ⟨m, hm⟩ : ∃ m : Nat, m = by' - rest := ⟨_, rfl⟩
  have y0 : (by' : Int) - (rest : Int) = (m : Int) := by omega
  have y1 : IntKind.u64.wrap (m : Int) = (m : Int) := by rw [IntKind.wrap_u64]; omega
  rcases Nat.lt_trichotomy m rest with h1 | h1 | h1
  · have e1 : awayB quo rest by' neg 3 = true := by simp [awayB]; omega
    have h2 : (m : Int) < (rest : Int) := by omega
    rw [e1]
    clear h hb hm
    go_enter Try.func85, Try.ntmps85
    go_wp2
    all_goals go_ret
    all_goals exact ⟨rfl, rfl⟩
  · have e1 : awayB quo rest by' neg 3 = decide (quo % 2 = 1) := by
      have hbm : by' = 2 * rest := by omega
      simp [awayB, hbm]
    subst h1
    rw [e1]
    rcases Nat.mod_two_eq_zero_or_one quo with h3 | h3
    · have h4 : (quo : Int) % 2 = 0 := by omega
      rw [h3]
      clear h hb hm
      go_enter Try.func85, Try.ntmps85
      go_wp2
      all_goals go_ret
      all_goals exact ⟨rfl, rfl⟩
    · have h4 : (quo : Int) % 2 = 1 := by omega
      rw [h3]
      clear h hb hm
      go_enter Try.func85, Try.ntmps85
      go_wp2
      all_goals go_ret
      all_goals exact ⟨rfl, rfl⟩
  · have e1 : awayB quo rest by' neg 3 = false := by simp [awayB]; omega
    have h2 : ¬ (m : Int) < (rest : Int) := by omega
    have h3 : ¬ (rest : Int) = (m : Int) := by omega
    have h3' : ((rest : Int) == (m : Int)) = false := by simp; omega
    rw [e1]
    clear h hb hm
    go_enter Try.func85, Try.ntmps85
    go_wp2
    all_goals go_ret
    all_goals exact ⟨rfl, rfl⟩
end Go.Proofs.Ythhimllddgfddaa.Nu
namespace Go.Proofs.Ythhimllddgfddaa.Nu
open Go.RowKit Go.Sort
set_option linter.unusedSimpArgs false
set_option linter.unusedVariables false

theorem mul_sign (x y : Int) : (x * y).natAbs = x.natAbs * y.natAbs ∧ decide (x * y < 0) = ((decide (x < 0) != decide (y < 0)) && decide (0 < x.natAbs * y.natAbs)) := by
  refine ⟨Int.natAbs_mul x y, ?_⟩
  have hc : x = (x.natAbs : Int) ∧ ¬ x < 0 ∨ x = -(x.natAbs : Int) ∧ x < 0 := by omega
  have hd : y = (y.natAbs : Int) ∧ ¬ y < 0 ∨ y = -(y.natAbs : Int) ∧ y < 0 := by omega
  obtain ⟨n, hn⟩ : ∃ n, n = x.natAbs * y.natAbs := ⟨_, rfl⟩
  have hp : (x.natAbs : Int) * (y.natAbs : Int) = (n : Int) := by rw [hn, Int.natCast_mul]
  rw [← hn]
  rcases hc with ⟨e1, h1⟩ | ⟨e1, h1⟩ <;> rcases hd with ⟨e2, h2⟩ | ⟨e2, h2⟩
  · have e : x * y = n := by rw [e1, e2]; simpa using hp
    rw [e]; simp [h1, h2]
  · have e : x * y = -(n : Int) := by rw [e1, e2, Int.mul_neg]; simpa using hp
    rw [e]; simp [h1, h2]
  · have e : x * y = -(n : Int) := by rw [e1, e2, Int.neg_mul]; simpa using hp
    rw [e]; simp [h1, h2]
  · have e : x * y = n := by rw [e1, e2, Int.neg_mul_neg]; simpa using hp
    rw [e]; simp [h1, h2]
/-- The quotient's size, rounded. -/
def upN (q r y : Nat) (neg : Bool) (mode : Int) : Nat := q + if awayB q r y neg mode then 1 else 0
/-- A number of that size, with its sign. -/
def sgn (neg : Bool) (n : Nat) : Int := if neg then -(n : Int) else n
/-- A quotient of whole numbers, rounded. -/
def rq (p c : Int) (mode : Int) : Int := sgn (decide (p < 0) != decide (c < 0)) (upN (p.natAbs / c.natAbs) (p.natAbs % c.natAbs) c.natAbs (decide (p < 0) != decide (c < 0)) mode)
theorem away_zero {y : Nat} (hy : 0 < y) (q : Nat) (neg : Bool) (mode : Int) : awayB q 0 y neg mode = false := by
  unfold awayB
  split
  · simp
  · split
    · simp; omega
    · split
      · simp; omega
      · rfl
/-- The sign of a product of nought counts for nothing. -/
theorem rq_of (a b c : Int) (mode : Int) (hc : c ≠ 0) :
    rq (a * b) c mode = sgn ((decide (a < 0) != decide (b < 0)) != decide (c < 0)) (upN (a.natAbs * b.natAbs / c.natAbs) (a.natAbs * b.natAbs % c.natAbs) c.natAbs ((decide (a < 0) != decide (b < 0)) != decide (c < 0)) mode) := by
  unfold rq
  have h := mul_sign a b
  rw [h.1, h.2]
  rcases Nat.eq_zero_or_pos (a.natAbs * b.natAbs) with h0 | h0
  · have hy : 0 < c.natAbs := by omega
    rw [h0]
    simp [upN, away_zero hy, sgn]
  · simp [h0]
end Go.Proofs.Ythhimllddgfddaa.Nu
namespace Go.Proofs.Ythhimllddgfddaa.Nu
def Ans (z n : Int) (ok : Bool) : Prop := (-9223372036854775808 ≤ z ∧ z ≤ 9223372036854775807 → n = z ∧ ok = true) ∧ (¬ (-9223372036854775808 ≤ z ∧ z ≤ 9223372036854775807) → n = 0 ∧ ok = false)
end Go.Proofs.Ythhimllddgfddaa.Nu
namespace Go.Proofs.Ythhimllddgfddaa.Nu
open Go.RowKit Go.Sort
set_option linter.unusedSimpArgs false
set_option linter.unusedVariables false

theorem ans_in {z : Int} (h0 : -9223372036854775808 ≤ z) (h1 : z ≤ 9223372036854775807) : Ans z z true := ⟨fun _ => ⟨rfl, rfl⟩, fun h => absurd ⟨h0, h1⟩ h⟩
theorem ans_out {z : Int} (h : z < -9223372036854775808 ∨ 9223372036854775807 < z) : Ans z 0 false := ⟨fun h' => by omega, fun _ => ⟨rfl, rfl⟩⟩
/-- Does a function answer the number, where it fits? -/
def GivesAns (z : Int) (w : World) (e : Ending) (w' : World) : Prop := ∃ n ok, e = .returned (.tuple #[.int .i64 n, .bool ok]) ∧ Ans z n ok ∧ Below w.heap.size w w'
theorem add_num (a b : Int) (a0 : -9223372036854775808 ≤ a) (a1 : a ≤ 9223372036854775807) (b0 : -9223372036854775808 ≤ b) (b1 : b ≤ 9223372036854775807) (w : World) :
    Calls Try.prog 82 #[.int .i64 a, .int .i64 b] w (GivesAns (a + b) w) := by
  obtain ⟨c, hc⟩ : ∃ c, c = IntKind.i64.wrap (a + b) := ⟨_, rfl⟩
  have y1 : IntKind.i64.wrap (a + b) = c := hc.symm
  have hc' := hc
  rw [IntKind.wrap_i64] at hc'
  by_cases h1 : c < a <;> by_cases h2 : b < 0
  · have hz : Ans (a + b) c true := by
      have : c = a + b := by omega
      rw [this]; exact ans_in (by omega) (by omega)
    clear hc hc'
    go_enter Try.func82, Try.ntmps82
    go_wp2
    all_goals go_ret2
    all_goals exact ⟨_, _, rfl, hz, Below.refl _ _⟩
  · have hz : Ans (a + b) 0 false := ans_out (by omega)
    clear hc hc'
    go_enter Try.func82, Try.ntmps82
    go_wp2
    all_goals go_ret2
    all_goals exact ⟨_, _, rfl, hz, Below.refl _ _⟩
  · have hz : Ans (a + b) 0 false := ans_out (by omega)
    clear hc hc'
    go_enter Try.func82, Try.ntmps82
    go_wp2
    all_goals go_ret2
    all_goals exact ⟨_, _, rfl, hz, Below.refl _ _⟩
  · have hz : Ans (a + b) c true := by
      have : c = a + b := by omega
      rw [this]; exact ans_in (by omega) (by omega)
    clear hc hc'
    go_enter Try.func82, Try.ntmps82
    go_wp2
    all_goals go_ret2
    all_goals exact ⟨_, _, rfl, hz, Below.refl _ _⟩
theorem sub_num (a b : Int) (a0 : -9223372036854775808 ≤ a) (a1 : a ≤ 9223372036854775807) (b0 : -9223372036854775808 ≤ b) (b1 : b ≤ 9223372036854775807) (w : World) :
    Calls Try.prog 52 #[.int .i64 a, .int .i64 b] w (GivesAns (a - b) w) := by
  obtain ⟨c, hc⟩ : ∃ c, c = IntKind.i64.wrap (a - b) := ⟨_, rfl⟩
  have y1 : IntKind.i64.wrap (a - b) = c := hc.symm
  have hc' := hc
  rw [IntKind.wrap_i64] at hc'
  by_cases h1 : a < c <;> by_cases h2 : b < 0
  · have hz : Ans (a - b) c true := by
      have : c = a - b := by omega
      rw [this]; exact ans_in (by omega) (by omega)
    clear hc hc'
    go_enter Try.func52, Try.ntmps52
    go_wp2
    all_goals go_ret2
    all_goals exact ⟨_, _, rfl, hz, Below.refl _ _⟩
  · have hz : Ans (a - b) 0 false := ans_out (by omega)
    clear hc hc'
    go_enter Try.func52, Try.ntmps52
    go_wp2
    all_goals go_ret2
    all_goals exact ⟨_, _, rfl, hz, Below.refl _ _⟩
  · have hz : Ans (a - b) 0 false := ans_out (by omega)
    clear hc hc'
    go_enter Try.func52, Try.ntmps52
    go_wp2
    all_goals go_ret2
    all_goals exact ⟨_, _, rfl, hz, Below.refl _ _⟩
  · have hz : Ans (a - b) c true := by
      have : c = a - b := by omega
      rw [this]; exact ans_in (by omega) (by omega)
    clear hc hc'
    go_enter Try.func52, Try.ntmps52
    go_wp2
    all_goals go_ret2
    all_goals exact ⟨_, _, rfl, hz, Below.refl _ _⟩
theorem neg_num (a : Int) (a0 : -9223372036854775808 ≤ a) (a1 : a ≤ 9223372036854775807) (w : World) :
    Calls Try.prog 37 #[.int .i64 a] w (GivesAns (-a) w) := by
  have G := Lib.hid (fun W : World => sub_num 0 a (by omega) (by omega) a0 a1 W)
  rw [show (0 : Int) - a = -a by omega] at G
  go_enter Try.func37, Try.ntmps37
  go_wp2_with fail
  refine (G.out _).mono ?_
  rintro e w1 ⟨n, ok, rfl, hz, hB⟩
  have HB := Lib.hid hB
  clear hB
  go_wp2_with fail
  go_ret2
  exact ⟨_, _, rfl, hz, HB.out⟩
theorem signed_ans (g : Bool) (n : Nat) (w : World) : Calls Try.prog 65 #[.bool g, .int .u64 n] w (GivesAns (if g then -(n : Int) else n) w) := by
  cases g
  · rcases Nat.lt_or_ge 9223372036854775807 n with h | h
    · exact (signed_great n h w).mono fun e w' ⟨h1, h2⟩ => ⟨_, _, h1, ans_out (by simp; omega), h2 ▸ Below.refl _ _⟩
    · exact (signed_pos n h w).mono fun e w' ⟨h1, h2⟩ => ⟨_, _, h1, ans_in (by simp <;> omega) (by simp <;> omega), h2 ▸ Below.refl _ _⟩
  · rcases Nat.lt_or_ge 9223372036854775808 n with h | h
    · exact (signed_low n h w).mono fun e w' ⟨h1, h2⟩ => ⟨_, _, h1, ans_out (by simp; omega), h2 ▸ Below.refl _ _⟩
    · exact (signed_neg n h w).mono fun e w' ⟨h1, h2⟩ => ⟨_, _, h1, ans_in (by simp <;> omega) (by simp <;> omega), h2 ▸ Below.refl _ _⟩
theorem mul_parts (a b : Int) : a * b = if (!(decide (a < 0) == decide (b < 0))) then -((a.natAbs * b.natAbs : Nat) : Int) else ((a.natAbs * b.natAbs : Nat) : Int) := by
  have e1 : a = if a < 0 then -(a.natAbs : Int) else (a.natAbs : Int) := by split <;> omega
  have e2 : b = if b < 0 then -(b.natAbs : Int) else (b.natAbs : Int) := by split <;> omega
  generalize a.natAbs = m at *
  generalize b.natAbs = n at *
  by_cases h1 : a < 0 <;> by_cases h2 : b < 0 <;> simp only [h1, h2, if_true, if_false] at e1 e2 <;> simp [h1, h2] <;> rw [e1, e2] <;> simp [Int.neg_mul, Int.mul_neg]
set_option maxRecDepth 100000 in
theorem mul_num (a b : Int) (a0 : -9223372036854775808 ≤ a) (a1 : a ≤ 9223372036854775807) (b0 : -9223372036854775808 ≤ b) (b1 : b ≤ 9223372036854775807) (w : World) :
    Calls Try.prog 54 #[.int .i64 a, .int .i64 b] w (GivesAns (a * b) w) := by
  have S1 := Lib.hid (fun W : World => size_any a a0 a1 W)
  have S2 := Lib.hid (fun W : World => size_any b b0 b1 W)
  have hp := mul_parts a b
  obtain ⟨x, hx⟩ : ∃ x, x = a.natAbs := ⟨_, rfl⟩
  obtain ⟨y, hy⟩ : ∃ y, y = b.natAbs := ⟨_, rfl⟩
  have xb : x < 18446744073709551616 := by omega
  have yb : y < 18446744073709551616 := by omega
  rw [← hx, ← hy] at hp
  rw [← hx] at S1
  rw [← hy] at S2
  have M1 := Lib.hid (fun W : World => mul64_any x y xb yb W)
  obtain ⟨g, hg⟩ : ∃ g, g = decide (a < 0) := ⟨_, rfl⟩
  obtain ⟨h, hh⟩ : ∃ g, g = decide (b < 0) := ⟨_, rfl⟩
  rw [← hg, ← hh] at hp
  obtain ⟨hi, hhi⟩ : ∃ hi, hi = x * y / 18446744073709551616 := ⟨_, rfl⟩
  obtain ⟨lo, hlo⟩ : ∃ lo, lo = x * y % 18446744073709551616 := ⟨_, rfl⟩
  rw [← hhi, ← hlo] at M1
  obtain ⟨z, hz⟩ : ∃ z, z = a * b := ⟨_, rfl⟩
  rw [← hz] at hp ⊢
  by_cases h0 : hi = 0
  · have hl : lo = x * y := by omega
    have N1 := Lib.hid (fun W : World => signed_ans (!(g == h)) lo W)
    rw [hl, ← hp, ← hl] at N1
    subst h0
    subst hg hh
    clear hp hx hy hhi hlo hl hz
    go_enter Try.func54, Try.ntmps54
    go_wp2_with (first
      | (go_at_call 64; first | ((with_reducible refine (S1.out _).mono ?_); rintro e w' ⟨rfl, rfl⟩) | ((with_reducible refine (S2.out _).mono ?_); rintro e w' ⟨rfl, rfl⟩)))
    refine (M1.out _).mono ?_
    rintro e w1 ⟨rfl, hB⟩
    have HB := Lib.hid hB
    clear hB
    go_wp2_with fail
    refine (N1.out _).mono ?_
    rintro e w2 ⟨n, ok, rfl, hz, hB2⟩
    have HC := Lib.hid (below_mono HB.out hB2 (Nat.le_refl _))
    clear hB2
    go_wp2_with fail
    go_ret2
    exact ⟨_, _, rfl, hz, HC.out⟩
  · have hz' : Ans z 0 false := ans_out (by
      have hl : 18446744073709551616 ≤ x * y := by omega
      rw [hp]; split <;> omega)
    have h1 : (hi : Int) ≠ 0 := by omega
    clear hp hx hy hhi hlo hz
    go_enter Try.func54, Try.ntmps54
    go_wp2_with (first
      | (go_at_call 64; first | ((with_reducible refine (S1.out _).mono ?_); rintro e w' ⟨rfl, rfl⟩) | ((with_reducible refine (S2.out _).mono ?_); rintro e w' ⟨rfl, rfl⟩)))
    refine (M1.out _).mono ?_
    rintro e w1 ⟨rfl, hB⟩
    have HB := Lib.hid hB
    clear hB
    go_wp2_with fail
    go_ret2
    exact ⟨_, _, rfl, hz', HB.out⟩
end Go.Proofs.Ythhimllddgfddaa.Nu
namespace Go.Proofs.Ythhimllddgfddaa.Nu
open Go.RowKit Go.Sort
set_option linter.unusedSimpArgs false
set_option linter.unusedVariables false

theorem away_any (quo rest by' : Nat) (neg : Bool) (mode : Int) (m0 : 0 ≤ mode) (m3 : mode ≤ 3) (h : rest < by') (hb : by' < 18446744073709551616) (w : World) :
    Calls Try.prog 85 #[.int .u64 quo, .int .u64 rest, .int .u64 by', .bool neg, .int .i64 mode] w fun e w' => e = .returned (.bool (awayB quo rest by' neg mode)) ∧ w = w' := by
  have : mode = 0 ∨ mode = 1 ∨ mode = 2 ∨ mode = 3 := by omega
  rcases this with rfl | rfl | rfl | rfl
  · exact away_down quo rest by' neg h hb w
  · exact away_floor quo rest by' neg h hb w
  · exact away_half quo rest by' neg h hb w
  · exact away_even quo rest by' neg h hb w
/-- What MulDiv answers. -/
def MD (a b c mode n : Int) (ok : Bool) : Prop := if c = 0 ∨ mode < 0 ∨ 3 < mode then n = 0 ∧ ok = false else Ans (rq (a * b) c mode) n ok
def GivesMD (a b c mode : Int) (w : World) (e : Ending) (w' : World) : Prop := ∃ n ok, e = .returned (.tuple #[.int .i64 n, .bool ok]) ∧ MD a b c mode n ok ∧ Below w.heap.size w w'
theorem Ans.one {z n m : Int} {ok is : Bool} (h : Ans z n ok) (h' : Ans z m is) : n = m ∧ ok = is := by
  by_cases hz : -9223372036854775808 ≤ z ∧ z ≤ 9223372036854775807
  · exact ⟨(h.1 hz).1.trans (h'.1 hz).1.symm, (h.1 hz).2.trans (h'.1 hz).2.symm⟩
  · exact ⟨(h.2 hz).1.trans (h'.2 hz).1.symm, (h.2 hz).2.trans (h'.2 hz).2.symm⟩
theorem MD.one {a b c mode n m : Int} {ok is : Bool} (h : MD a b c mode n ok) (h' : MD a b c mode m is) : n = m ∧ ok = is := by
  unfold MD at h h'
  split at h
  · rename_i hc; rw [if_pos hc] at h'; exact ⟨h.1.trans h'.1.symm, h.2.trans h'.2.symm⟩
  · rename_i hc; rw [if_neg hc] at h'; exact h.one h'
theorem md_no {a b c mode : Int} (h : c = 0 ∨ mode < 0 ∨ 3 < mode) : MD a b c mode 0 false := by unfold MD; rw [if_pos h]; exact ⟨rfl, rfl⟩
theorem md_ans {a b c mode n : Int} {ok : Bool} (h : ¬ (c = 0 ∨ mode < 0 ∨ 3 < mode)) (h' : Ans (rq (a * b) c mode) n ok) : MD a b c mode n ok := by unfold MD; rw [if_neg h]; exact h'
theorem sgn_out {g : Bool} {n : Nat} (h : 18446744073709551616 ≤ n) : Ans (sgn g n) 0 false := ans_out (by unfold sgn; split <;> omega)

set_option maxRecDepth 100000 in
theorem md_bad (a b c mode : Int) (h : c = 0 ∨ mode < 0 ∨ 3 < mode) (w : World) :
    Calls Try.prog 83 #[.int .i64 a, .int .i64 b, .int .i64 c, .int .i64 mode] w (GivesMD a b c mode w) := by
  have HM := Lib.hid (md_no (a := a) (b := b) h)
  by_cases h1 : c = 0
  · have t1 : (c == 0) = true := by rw [h1]; rfl
    clear h
    subst h1
    go_enter Try.func83, Try.ntmps83
    go_wp2_with fail
    go_ret2
    exact ⟨_, _, rfl, HM.out, Below.refl _ _⟩
  · have t1 : (c == 0) = false := by rw [beq_eq_false_iff_ne]; exact h1
    by_cases h2 : mode < 0
    · clear h
      go_enter Try.func83, Try.ntmps83
      go_wp2_with fail
      go_ret2
      exact ⟨_, _, rfl, HM.out, Below.refl _ _⟩
    · have h3 : 3 < mode := by omega
      clear h
      go_enter Try.func83, Try.ntmps83
      go_wp2_with fail
      go_ret2
      exact ⟨_, _, rfl, HM.out, Below.refl _ _⟩

set_option maxRecDepth 100000 in
set_option maxHeartbeats 4000000 in
theorem md_good (a b c mode : Int) (a0 : -9223372036854775808 ≤ a) (a1 : a ≤ 9223372036854775807) (b0 : -9223372036854775808 ≤ b) (b1 : b ≤ 9223372036854775807) (c0 : -9223372036854775808 ≤ c) (c1 : c ≤ 9223372036854775807)
    (hc : c ≠ 0) (m0 : 0 ≤ mode) (m3 : mode ≤ 3) (w : World) :
    Calls Try.prog 83 #[.int .i64 a, .int .i64 b, .int .i64 c, .int .i64 mode] w (GivesMD a b c mode w) := by
  have hgood : ¬ (c = 0 ∨ mode < 0 ∨ 3 < mode) := by omega
  have HM : Hid (∀ n ok, Ans (rq (a * b) c mode) n ok → MD a b c mode n ok) := Lib.hid fun n ok h => md_ans hgood h
  have S1 := Lib.hid (fun W : World => size_any a a0 a1 W)
  have S2 := Lib.hid (fun W : World => size_any b b0 b1 W)
  have S3 := Lib.hid (fun W : World => size_any c c0 c1 W)
  have hrq := rq_of a b c mode hc
  obtain ⟨x, hx⟩ : ∃ x, x = a.natAbs := ⟨_, rfl⟩
  obtain ⟨y, hy⟩ : ∃ y, y = b.natAbs := ⟨_, rfl⟩
  obtain ⟨z, hz⟩ : ∃ z, z = c.natAbs := ⟨_, rfl⟩
  have xb : x < 18446744073709551616 := by omega
  have yb : y < 18446744073709551616 := by omega
  have zb : z < 18446744073709551616 := by omega
  have z1 : 0 < z := by omega
  rw [← hx] at S1
  rw [← hy] at S2
  rw [← hz] at S3
  rw [← hx, ← hy, ← hz] at hrq
  have M1 := Lib.hid (fun W : World => mul64_any x y xb yb W)
  obtain ⟨ga, hga⟩ : ∃ g, g = decide (a < 0) := ⟨_, rfl⟩
  obtain ⟨gb, hgb⟩ : ∃ g, g = decide (b < 0) := ⟨_, rfl⟩
  obtain ⟨gc, hgc⟩ : ∃ g, g = decide (c < 0) := ⟨_, rfl⟩
  rw [← hga, ← hgb, ← hgc] at hrq
  obtain ⟨p, hp⟩ : ∃ p, p = x * y := ⟨_, rfl⟩
  obtain ⟨hi, hhi⟩ : ∃ hi, hi = p / 18446744073709551616 := ⟨_, rfl⟩
  obtain ⟨lo, hlo⟩ : ∃ lo, lo = p % 18446744073709551616 := ⟨_, rfl⟩
  rw [← hp] at hrq
  rw [← hp, ← hhi, ← hlo] at M1
  have hpl : hi * 18446744073709551616 + lo = p := by omega
  have lb : lo < 18446744073709551616 := by omega
  obtain ⟨r, hr⟩ : ∃ r, r = rq (a * b) c mode := ⟨_, rfl⟩
  rw [← hr] at HM hrq
  have tc : (c == 0) = false := by rw [beq_eq_false_iff_ne]; exact hc
  have t0 : ¬ mode < 0 := by omega
  have t3 : ¬ 3 < mode := by omega
  by_cases hov : z ≤ hi
  · have HA : Hid (Ans r 0 false) := Lib.hid (by
      rw [hrq]
      apply sgn_out
      have : 18446744073709551616 ≤ p / z := (Nat.le_div_iff_mul_le z1).2 (by omega)
      unfold upN; omega)
    have ho : (z : Int) ≤ (hi : Int) := by omega
    clear hx hy hz hga hgb hgc hp hhi hlo hpl hr hrq hov hgood xb yb zb
    go_enter Try.func83, Try.ntmps83
    go_wp2_with (go_at_call 64; first | ((with_reducible refine (S1.out _).mono ?_); rintro e w' ⟨rfl, rfl⟩) | ((with_reducible refine (S2.out _).mono ?_); rintro e w' ⟨rfl, rfl⟩))
    refine (M1.out _).mono ?_
    rintro e w1 ⟨rfl, hB⟩
    have HB := Lib.hid hB
    clear hB
    go_wp2_with (go_at_call 64; (with_reducible refine (S3.out _).mono ?_); rintro e w' ⟨rfl, rfl⟩)
    go_ret2
    exact ⟨_, _, rfl, HM.out _ _ HA.out, HB.out⟩
  · have ho : ¬ (z : Int) ≤ (hi : Int) := by omega
    have D1 := Lib.hid (fun W : World => div64_any hi lo z (by omega) lb zb W)
    rw [hpl] at D1
    obtain ⟨quo, hquo⟩ : ∃ q, q = p / z := ⟨_, rfl⟩
    obtain ⟨rest, hrest⟩ : ∃ q, q = p % z := ⟨_, rfl⟩
    rw [← hquo, ← hrest] at D1 hrq
    have br : rest < z := by rw [hrest]; exact Nat.mod_lt _ z1
    have bq : quo < 18446744073709551616 := by
      rw [hquo, Nat.div_lt_iff_lt_mul z1]
      have : hi * 18446744073709551616 + lo < z * 18446744073709551616 := by omega
      omega
    subst hga hgb hgc
    obtain ⟨g, hg⟩ : ∃ g, g = (!((!(decide (a < 0) == decide (b < 0))) == decide (c < 0))) := ⟨_, rfl⟩
    have hrq' : r = sgn g (upN quo rest z g mode) := by rw [hrq, hg]; rfl
    have W1 := Lib.hid (fun W : World => away_any quo rest z g mode m0 m3 br zb W)
    clear hrq hgood hx hy hz hp hhi hlo hpl hr hov xb yb zb z1 hquo hrest br
    by_cases hA : awayB quo rest z g mode = true
    · rw [hA] at W1
      have hu : upN quo rest z g mode = quo + 1 := by unfold upN; rw [hA]; rfl
      rw [hu] at hrq'
      by_cases hq : quo + 1 = 18446744073709551616
      · have HA : Hid (Ans r 0 false) := Lib.hid (by rw [hrq']; exact sgn_out (by omega))
        have y1 : IntKind.u64.wrap ((quo : Int) + 1) = 0 := by rw [IntKind.wrap_u64]; omega
        clear hu hrq' hA hq bq
        rw [hg] at W1
        clear hg
        go_enter Try.func83, Try.ntmps83
        go_wp2_with (go_at_call 64; first | ((with_reducible refine (S1.out _).mono ?_); rintro e w' ⟨rfl, rfl⟩) | ((with_reducible refine (S2.out _).mono ?_); rintro e w' ⟨rfl, rfl⟩))
        refine (M1.out _).mono ?_
        rintro e w1 ⟨rfl, hB⟩
        have HB := Lib.hid hB
        clear hB
        go_wp2_with (go_at_call 64; (with_reducible refine (S3.out _).mono ?_); rintro e w' ⟨rfl, rfl⟩)
        with_reducible refine (D1.out _).mono ?_
        rintro e w2 ⟨rfl, n, rfl⟩
        go_wp2_with (go_at_call 64; (with_reducible refine (S3.out _).mono ?_); rintro e w' ⟨rfl, rfl⟩)
        with_reducible refine (W1.out _).mono ?_
        rintro e w3 ⟨rfl, rfl⟩
        go_wp2_with fail
        go_ret2
        exact ⟨_, _, rfl, HM.out _ _ HA.out, below_drewN HB.out _⟩
      · have N1 := Lib.hid (fun W : World => signed_ans g (quo + 1) W)
        rw [show (if g = true then -((quo + 1 : Nat) : Int) else ((quo + 1 : Nat) : Int)) = r by rw [hrq']; rfl] at N1
        obtain ⟨q2, hq2⟩ : ∃ q2, q2 = quo + 1 := ⟨_, rfl⟩
        rw [← hq2] at N1
        have y1 : (quo : Int) + 1 = (q2 : Int) := by omega
        have y2 : IntKind.u64.wrap (q2 : Int) = (q2 : Int) := by rw [IntKind.wrap_u64]; omega
        have y3 : ¬ (q2 : Int) = 0 := by omega
        have y4 : ((q2 : Int) == 0) = false := by rw [beq_eq_false_iff_ne]; omega
        have y5 : IntKind.u64.wrap ((quo : Int) + 1) = (q2 : Int) := by rw [y1, y2]
        clear hu hrq' hA hq bq hq2
        rw [hg] at W1 N1
        clear hg
        go_enter Try.func83, Try.ntmps83
        go_wp2_with (go_at_call 64; first | ((with_reducible refine (S1.out _).mono ?_); rintro e w' ⟨rfl, rfl⟩) | ((with_reducible refine (S2.out _).mono ?_); rintro e w' ⟨rfl, rfl⟩))
        refine (M1.out _).mono ?_
        rintro e w1 ⟨rfl, hB⟩
        have HB := Lib.hid hB
        clear hB
        go_wp2_with (go_at_call 64; (with_reducible refine (S3.out _).mono ?_); rintro e w' ⟨rfl, rfl⟩)
        with_reducible refine (D1.out _).mono ?_
        rintro e w2 ⟨rfl, n, rfl⟩
        go_wp2_with (go_at_call 64; (with_reducible refine (S3.out _).mono ?_); rintro e w' ⟨rfl, rfl⟩)
        with_reducible refine (W1.out _).mono ?_
        rintro e w3 ⟨rfl, rfl⟩
        go_wp2_with fail
        with_reducible refine (N1.out _).mono ?_
        rintro e w4 ⟨v, ok, rfl, hz, hB2⟩
        have HZ := Lib.hid hz
        have HC := Lib.hid (below_mono (below_drewN HB.out n) hB2 (Nat.le_refl _))
        clear hB2 hz
        go_wp2_with fail
        go_ret2
        exact ⟨_, _, rfl, HM.out _ _ HZ.out, HC.out⟩
    · have hA' : awayB quo rest z g mode = false := by simpa using hA
      rw [hA'] at W1
      have hu : upN quo rest z g mode = quo := by unfold upN; rw [hA']; rfl
      rw [hu] at hrq'
      have N1 := Lib.hid (fun W : World => signed_ans g quo W)
      rw [show (if g = true then -((quo : Nat) : Int) else ((quo : Nat) : Int)) = r by rw [hrq']; rfl] at N1
      clear hu hrq' hA hA' bq
      rw [hg] at W1 N1
      clear hg
      go_enter Try.func83, Try.ntmps83
      go_wp2_with (go_at_call 64; first | ((with_reducible refine (S1.out _).mono ?_); rintro e w' ⟨rfl, rfl⟩) | ((with_reducible refine (S2.out _).mono ?_); rintro e w' ⟨rfl, rfl⟩))
      refine (M1.out _).mono ?_
      rintro e w1 ⟨rfl, hB⟩
      have HB := Lib.hid hB
      clear hB
      go_wp2_with (go_at_call 64; (with_reducible refine (S3.out _).mono ?_); rintro e w' ⟨rfl, rfl⟩)
      with_reducible refine (D1.out _).mono ?_
      rintro e w2 ⟨rfl, n, rfl⟩
      go_wp2_with (go_at_call 64; (with_reducible refine (S3.out _).mono ?_); rintro e w' ⟨rfl, rfl⟩)
      with_reducible refine (W1.out _).mono ?_
      rintro e w3 ⟨rfl, rfl⟩
      go_wp2_with fail
      with_reducible refine (N1.out _).mono ?_
      rintro e w4 ⟨v, ok, rfl, hz, hB2⟩
      have HZ := Lib.hid hz
      have HC := Lib.hid (below_mono (below_drewN HB.out n) hB2 (Nat.le_refl _))
      clear hB2 hz
      go_wp2_with fail
      go_ret2
      exact ⟨_, _, rfl, HM.out _ _ HZ.out, HC.out⟩
theorem md_any (a b c mode : Int) (a0 : -9223372036854775808 ≤ a) (a1 : a ≤ 9223372036854775807) (b0 : -9223372036854775808 ≤ b) (b1 : b ≤ 9223372036854775807) (c0 : -9223372036854775808 ≤ c) (c1 : c ≤ 9223372036854775807) (w : World) :
    Calls Try.prog 83 #[.int .i64 a, .int .i64 b, .int .i64 c, .int .i64 mode] w (GivesMD a b c mode w) := by
  by_cases h : c = 0 ∨ mode < 0 ∨ 3 < mode
  · exact md_bad a b c mode h w
  · exact md_good a b c mode a0 a1 b0 b1 c0 c1 (by omega) (by omega) (by omega) w
end Go.Proofs.Ythhimllddgfddaa.Nu
namespace Go.Proofs.Ythhimllddgfddaa
open Go.ChangeShapes Go.WideShapes Go.RowKit Go.Deep Go.WideElems Go.Maps
set_option linter.unusedVariables false
set_option linter.unusedSimpArgs false
/-- What acquiring leaves. -/
def AcP (B wb : Nat) (day : Int) (fa : Option Addr) (fc : Nat) (F : List Fx) (l : List Pp) (G : List Fw) (pv gv : Value) (g : Got) (w : World) (e : Ending) (w' : World) : Prop :=
  e = .returned (.tuple #[]) ∧ ∃ l' G' br' pv' gv', Wk B wb day fa fc F l' G' br' pv' gv' w' ∧ Fr wb pv gv pv' gv' w w' ∧ (match g with | none => br' = true | some (p, h) => br' = false ∧ l'.map (·.p) = l.map (·.p) ++ p ∧ G' = G ++ h)
section
variable {B wb : Nat} {day : Int} {fa : Option Addr} {fc : Nat} {F : List Fx} {l : List Pp} {G : List Fw} {br : Bool} {pv gv : Value}
theorem AcP.from {pv1 gv1 : Value} {g : Got} {w w1 : World} {e : Ending} {w' : World} (k : Fr wb pv gv pv1 gv1 w w1) (h : AcP B wb day fa fc F l G pv1 gv1 g w1 e w') : AcP B wb day fa fc F l G pv gv g w e w' := by
  obtain ⟨h1, l', G', br', pv', gv', h2, h3, h4⟩ := h
  exact ⟨h1, l', G', br', pv', gv', h2, k.trans h3, h4⟩
theorem AcP.none {e : Ending} {w w' : World} {pv' gv' : Value} (he : e = .returned (.tuple #[])) (h : Wk B wb day fa fc F l G true pv' gv' w') (k : Fr wb pv gv pv' gv' w w') : AcP B wb day fa fc F l G pv gv none w e w' := ⟨he, l, G, true, pv', gv', h, k, rfl⟩
theorem AcP.nil {e : Ending} {w w' : World} {pv' gv' : Value} (he : e = .returned (.tuple #[])) (h : Wk B wb day fa fc F l G false pv' gv' w') (k : Fr wb pv gv pv' gv' w w') : AcP B wb day fa fc F l G pv gv (some ([], [])) w e w' := ⟨he, l, G, false, pv', gv', h, k, rfl, by simp, by simp⟩
set_option maxRecDepth 100000 in
set_option maxHeartbeats 8000000 in
theorem within_go {i : Nat} (q : Pp) (x : Tr) (ac : Got) (w : World) (h : Wk B wb day fa fc F l G false pv gv w) (hq : QP (Away wb pv gv w) w q) (hx : q.p.t.terms[i]? = some x)
    (hA : ∀ (r : Pp) V, r.p = ⟨q.p.f, q.p.tn, q.p.un, x⟩ → Below w.heap.size w V → QP (Away wb pv gv V) V r → Calls Try.prog 21 #[.pointer (some ⟨wb, 0, none⟩), ptV r] V (AcP B wb day fa fc F l G pv gv ac V)) :
    Calls Try.prog 38 #[.pointer (some ⟨wb, 0, none⟩), ptV q, .int .i64 (i : Int)] w (AcP B wb day fa fc F l G pv gv ac w) := by
  obtain ⟨⟨f, tn, un, t⟩, uo, uk, eo, ek, tb, tk⟩ := q
  obtain ⟨a, xeo, xek, xtb, xtk, rfl, hsa, hxe, hxt, hfx, hxx, hxl⟩ := hq.tr.te.get hx
  have hit : i < t.terms.length := (List.getElem?_eq_some_iff.1 hx).1
  have CA : Hid (∀ V, Below w.heap.size w V → Calls Try.prog 21 #[.pointer (some ⟨wb, 0, none⟩), ptV ⟨⟨f, tn, un, x⟩, uo, uk, xeo, xek, xtb, xtk⟩] V (AcP B wb day fa fc F l G pv gv ac V)) := Lib.hid fun V hV => hA _ V rfl hV ⟨hq.uc, hq.un.stay (fun b hb => (Fr.of (wb := wb) (pv := pv) (gv := gv) hV).away hb) (fun b hb => hV.block b hb.1), hxe, hxt, hxx.stay (fun b hb => (Fr.of (wb := wb) (pv := pv) (gv := gv) hV).away hb) (fun b hb => hV.block b hb.1), hxl.stay (fun b hb => (Fr.of (wb := wb) (pv := pv) (gv := gv) hV).away hb) (fun b hb => hV.block b hb.1)⟩
  have HFX : Hid (∀ V, Below w.heap.size w V → FourX V (a.add (i * 4)) (.int .i64 x.op) (.string x.nm) (.slice xeo x.exprs.length xek) (.slice xtb x.terms.length xtk)) := Lib.hid fun V hV => hfx.stay (by rw [add_block]; exact hV.block _ hsa.1)
  obtain ⟨um, hum⟩ : ∃ r, r = un.length := ⟨_, rfl⟩
  obtain ⟨op, hop⟩ : ∃ r, r = t.op := ⟨_, rfl⟩
  obtain ⟨nm, hnm⟩ : ∃ r, r = t.nm := ⟨_, rfl⟩
  obtain ⟨em, hem⟩ : ∃ r, r = t.exprs.length := ⟨_, rfl⟩
  obtain ⟨tm, htm⟩ : ∃ r, r = t.terms.length := ⟨_, rfl⟩
  obtain ⟨xop, hxop⟩ : ∃ r, r = x.op := ⟨_, rfl⟩
  obtain ⟨xnm, hxnm⟩ : ∃ r, r = x.nm := ⟨_, rfl⟩
  obtain ⟨xem, hxem⟩ : ∃ r, r = x.exprs.length := ⟨_, rfl⟩
  obtain ⟨xtm, hxtm⟩ : ∃ r, r = x.terms.length := ⟨_, rfl⟩
  rw [show ptV ⟨⟨f, tn, un, t⟩, uo, uk, eo, ek, some a, tk⟩ = .agg #[.int .i64 f, .bool tn, .slice uo um uk, .int .i64 op, .string nm, .slice eo em ek, .slice (some a) tm tk] from by rw [hum, hop, hnm, hem, htm]]
  rw [show ptV ⟨⟨f, tn, un, x⟩, uo, uk, xeo, xek, xtb, xtk⟩ = .agg #[.int .i64 f, .bool tn, .slice uo um uk, .int .i64 xop, .string xnm, .slice xeo xem xek, .slice xtb xtm xtk] from by rw [hum, hxop, hxnm, hxem, hxtm]] at CA
  rw [← hxop, ← hxnm, ← hxem, ← hxtm] at HFX
  have HW := Lib.hid h
  have i0 : (0 : Int) ≤ (i : Int) := by omega
  have i1 : (i : Int) < (tm : Int) := by omega
  have GA := Lib.hid (seven_made (.int .i64 f) (.bool tn) (.slice uo um uk) (.int .i64 op) (.string nm) (.slice eo em ek) (.slice (some a) tm tk) 70 w)
  clear h hq hA hxe hxt hfx hxx hxl hit hum hop hnm hem htm hxop hxnm hxem hxtm hsa hx
  go_enter Try.func38, Try.ntmps38
  go_upto_region 1 with fail
  obtain ⟨W, hW⟩ : ∃ X, w.alloc (.cells #[.int .i64 f, .bool tn, .slice uo um uk, .int .i64 op, .string nm, .slice eo em ek, .slice (some a) tm tk] 70) = X := ⟨_, rfl⟩
  obtain ⟨g1, b1, s1⟩ := GA.out W hW
  obtain ⟨z, hz⟩ : ∃ z, z = w.heap.size := ⟨_, rfl⟩
  rw [hW, ← hz]
  rw [← hz] at b1
  have HG := Lib.hid g1
  have HB1 := Lib.hid b1
  have HZ := Lib.hid hz
  obtain ⟨c0, c1, c2, c3, c4, c5, c6⟩ := seven b1
  have f3 := free_blk b1 3
  have f4 := free_blk b1 4
  have f5 := free_blk b1 5
  have f6 := free_blk b1 6
  obtain ⟨y0, y1, y2, y3⟩ := HFX.out W g1
  clear hW b1 g1 GA hz s1
  go_upto_region 2 with fail
  obtain ⟨W2, hW2⟩ : ∃ X, (((W.setCell ⟨z, 3, none⟩ (.int .i64 xop)).setCell ⟨z, 4, none⟩ (.string xnm)).setCell ⟨z, 5, none⟩ (.slice xeo xem xek)).setCell ⟨z, 6, none⟩ (.slice xtb xtm xtk) = X := ⟨_, rfl⟩
  have x2 : W2.heap[z]? = some (.cells #[.int .i64 f, .bool tn, .slice uo um uk, .int .i64 xop, .string xnm, .slice xeo xem xek, .slice xtb xtm xtk] 70 (0, 0)) := by
    rw [← hW2]
    exact heap_set_at (i := 6) _ (heap_set_at (i := 5) _ (heap_set_at (i := 4) _ (heap_set_at (i := 3) _ HB1.out)))
  have k2 : Below w.heap.size w W2 := by
    rw [← hW2]
    have hz1 : w.heap.size ≤ z := by rw [HZ.out]; exact Nat.le_refl _
    exact (((HG.out.setCell (p := ⟨z, 3, none⟩) hz1 _).setCell (p := ⟨z, 4, none⟩) hz1 _).setCell (p := ⟨z, 5, none⟩) hz1 _).setCell (p := ⟨z, 6, none⟩) hz1 _
  rw [hW2]
  clear c0 c1 c2 c3 c4 c5 c6 f3 f4 f5 f6 y0 y1 y2 y3 hW2
  have HK2 := Lib.hid k2
  obtain ⟨c0, c1, c2, c3, c4, c5, c6⟩ := seven x2
  obtain ⟨_, _, _, _, d4, _, _, _⟩ := (HW.out.next k2).cells
  clear x2 k2
  go_wp2_with (go_at_call 21; (with_reducible refine (CA.out _ HK2.out).mono ?_); rintro e w5 ha; have HA5 := Lib.hid ha; obtain rfl : e = Ending.returned (.tuple #[]) := ha.1; clear ha)
  go_end0
  exact HA5.out.from (Fr.of HK2.out)
set_option maxRecDepth 100000 in
set_option maxHeartbeats 8000000 in
theorem within_no {i : Nat} (q : Pp) (w : World) (h : Wk B wb day fa fc F l G true pv gv w) (hq : QP (Away wb pv gv w) w q) (hit : i < q.p.t.terms.length) :
    Calls Try.prog 38 #[.pointer (some ⟨wb, 0, none⟩), ptV q, .int .i64 (i : Int)] w (AcP B wb day fa fc F l G pv gv none w) := by
  obtain ⟨⟨f, tn, un, t⟩, uo, uk, eo, ek, tb, tk⟩ := q
  have hit : i < t.terms.length := hit
  obtain ⟨x, hx⟩ : ∃ x, t.terms[i]? = some x := ⟨_, List.getElem?_eq_getElem hit⟩
  obtain ⟨a, xeo, xek, xtb, xtk, rfl, hsa, hxe, hxt, hfx, hxx, hxl⟩ := hq.tr.te.get hx
  have HFX : Hid (∀ V, Below w.heap.size w V → FourX V (a.add (i * 4)) (.int .i64 x.op) (.string x.nm) (.slice xeo x.exprs.length xek) (.slice xtb x.terms.length xtk)) := Lib.hid fun V hV => hfx.stay (by rw [add_block]; exact hV.block _ hsa.1)
  obtain ⟨um, hum⟩ : ∃ r, r = un.length := ⟨_, rfl⟩
  obtain ⟨op, hop⟩ : ∃ r, r = t.op := ⟨_, rfl⟩
  obtain ⟨nm, hnm⟩ : ∃ r, r = t.nm := ⟨_, rfl⟩
  obtain ⟨em, hem⟩ : ∃ r, r = t.exprs.length := ⟨_, rfl⟩
  obtain ⟨tm, htm⟩ : ∃ r, r = t.terms.length := ⟨_, rfl⟩
  obtain ⟨xop, hxop⟩ : ∃ r, r = x.op := ⟨_, rfl⟩
  obtain ⟨xnm, hxnm⟩ : ∃ r, r = x.nm := ⟨_, rfl⟩
  obtain ⟨xem, hxem⟩ : ∃ r, r = x.exprs.length := ⟨_, rfl⟩
  obtain ⟨xtm, hxtm⟩ : ∃ r, r = x.terms.length := ⟨_, rfl⟩
  rw [show ptV ⟨⟨f, tn, un, t⟩, uo, uk, eo, ek, some a, tk⟩ = .agg #[.int .i64 f, .bool tn, .slice uo um uk, .int .i64 op, .string nm, .slice eo em ek, .slice (some a) tm tk] from by rw [hum, hop, hnm, hem, htm]]
  rw [← hxop, ← hxnm, ← hxem, ← hxtm] at HFX
  have HW := Lib.hid h
  have i0 : (0 : Int) ≤ (i : Int) := by omega
  have i1 : (i : Int) < (tm : Int) := by omega
  have GA := Lib.hid (seven_made (.int .i64 f) (.bool tn) (.slice uo um uk) (.int .i64 op) (.string nm) (.slice eo em ek) (.slice (some a) tm tk) 70 w)
  clear h hq hxe hxt hfx hxx hxl hit hum hop hnm hem htm hxop hxnm hxem hxtm hsa hx
  go_enter Try.func38, Try.ntmps38
  go_upto_region 1 with fail
  obtain ⟨W, hW⟩ : ∃ X, w.alloc (.cells #[.int .i64 f, .bool tn, .slice uo um uk, .int .i64 op, .string nm, .slice eo em ek, .slice (some a) tm tk] 70) = X := ⟨_, rfl⟩
  obtain ⟨g1, b1, s1⟩ := GA.out W hW
  obtain ⟨z, hz⟩ : ∃ z, z = w.heap.size := ⟨_, rfl⟩
  rw [hW, ← hz]
  rw [← hz] at b1
  have HG := Lib.hid g1
  have HB1 := Lib.hid b1
  have HZ := Lib.hid hz
  obtain ⟨c0, c1, c2, c3, c4, c5, c6⟩ := seven b1
  have f3 := free_blk b1 3
  have f4 := free_blk b1 4
  have f5 := free_blk b1 5
  have f6 := free_blk b1 6
  obtain ⟨y0, y1, y2, y3⟩ := HFX.out W g1
  clear hW b1 g1 GA hz s1
  go_upto_region 2 with fail
  obtain ⟨W2, hW2⟩ : ∃ X, (((W.setCell ⟨z, 3, none⟩ (.int .i64 xop)).setCell ⟨z, 4, none⟩ (.string xnm)).setCell ⟨z, 5, none⟩ (.slice xeo xem xek)).setCell ⟨z, 6, none⟩ (.slice xtb xtm xtk) = X := ⟨_, rfl⟩
  have k2 : Below w.heap.size w W2 := by
    rw [← hW2]
    have hz1 : w.heap.size ≤ z := by rw [HZ.out]; exact Nat.le_refl _
    exact (((HG.out.setCell (p := ⟨z, 3, none⟩) hz1 _).setCell (p := ⟨z, 4, none⟩) hz1 _).setCell (p := ⟨z, 5, none⟩) hz1 _).setCell (p := ⟨z, 6, none⟩) hz1 _
  rw [hW2]
  clear c0 c1 c2 c3 c4 c5 c6 f3 f4 f5 f6 y0 y1 y2 y3 hW2
  have HK2 := Lib.hid k2
  obtain ⟨_, _, _, _, d4, _, _, _⟩ := (HW.out.next k2).cells
  clear k2
  go_wp2_with fail
  go_end0
  exact AcP.none rfl (HW.out.next HK2.out) (Fr.of HK2.out)
end
end Go.Proofs.Ythhimllddgfddaa
namespace Go.Proofs.Ythhimllddgfddaa
open Go.ChangeShapes Go.WideShapes Go.RowKit Go.Deep Go.WideElems Go.Maps
set_option linter.unusedVariables false
set_option linter.unusedSimpArgs false
section
variable {B wb : Nat} {day : Int} {fa : Option Addr} {fc : Nat} {F : List Fx} {l : List Pp} {G : List Fw} {br : Bool} {pv gv : Value}
/-- A part's box and its term's box. -/
theorem boxes (f : Int) (tn : Bool) (uo : Option Addr) (um uk : Nat) (op : Int) (nm : ByteArray) (eo : Option Addr) (em ek : Nat) (tb : Option Addr) (tm tk : Nat) {w W : World} (g1 : Below w.heap.size w W) (b1 : W.heap[w.heap.size]? = some (.cells #[.int .i64 f, .bool tn, .slice uo um uk, .int .i64 op, .string nm, .slice eo em ek, .slice tb tm tk] 70 (0, 0))) (s1 : W.heap.size = w.heap.size + 1) : ∀ V, W.alloc (.cells #[.int .i64 op, .string nm, .slice eo em ek, .slice tb tm tk] 32) = V → Below w.heap.size w V ∧ V.heap[w.heap.size]? = some (.cells #[.int .i64 f, .bool tn, .slice uo um uk, .int .i64 op, .string nm, .slice eo em ek, .slice tb tm tk] 70 (0, 0)) ∧ V.heap[w.heap.size + 1]? = some (.cells #[.int .i64 op, .string nm, .slice eo em ek, .slice tb tm tk] 32 (0, 0)) := by
  intro V hV
  obtain ⟨k2, b2, s2⟩ := four_boxed (.int .i64 op) (.string nm) (.slice eo em ek) (.slice tb tm tk) 32 W V hV
  exact ⟨below_mono g1 k2 (Nat.le_refl _), (k2.block _ (by omega)).trans b1, by rw [← s1]; exact b2⟩

set_option maxRecDepth 100000 in
set_option maxHeartbeats 8000000 in
theorem acq_one (f : Int) (tn : Bool) (uo : Option Addr) (um uk : Nat) (nm : ByteArray) (eo : Option Addr) (em ek : Nat) (tb : Option Addr) (tm tk : Nat) (w : World) (h : Wk B wb day fa fc F l G false pv gv w) (hl : G.length ≤ 900) (gr : Got) (hg1 : f = 0 → gr = some ([], [])) (hg0 : ¬ f = 0 → gr = some ([], [⟨nm, f⟩])) :
    Calls Try.prog 21 #[.pointer (some ⟨wb, 0, none⟩), .agg #[.int .i64 f, .bool tn, .slice uo um uk, .int .i64 2, .string nm, .slice eo em ek, .slice tb tm tk]] w (AcP B wb day fa fc F l G pv gv gr w) := by
  have HW := Lib.hid h
  have HG1 := Lib.hid hg1
  have HG0 := Lib.hid hg0
  clear h hg1 hg0
  go_enter Try.func21, Try.ntmps21
  go_upto_region 1 with fail
  obtain ⟨W, hW⟩ : ∃ X, w.alloc (.cells #[.int .i64 f, .bool tn, .slice uo um uk, .int .i64 2, .string nm, .slice eo em ek, .slice tb tm tk] 70) = X := ⟨_, rfl⟩
  obtain ⟨g1, b1, s1⟩ := seven_made (.int .i64 f) (.bool tn) (.slice uo um uk) (.int .i64 2) (.string nm) (.slice eo em ek) (.slice tb tm tk) 70 w W hW
  have GA := Lib.hid (boxes f tn uo um uk 2 nm eo em ek tb tm tk g1 b1 s1)
  obtain ⟨z, hz⟩ : ∃ z, z = w.heap.size := ⟨_, rfl⟩
  rw [hW, ← hz]
  rw [← hz] at b1
  obtain ⟨c0, c1, c2, c3, c4, c5, c6⟩ := seven b1
  obtain ⟨⟨r0, r1, r2, r3⟩, p0, p1, p2, p3⟩ := new_zero W (.int .i64 0) (.string ⟨#[]⟩) (.slice none 0 0) (.slice none 0 0) 32
  have HZ := Lib.hid hz
  have HS1 := Lib.hid s1
  clear hW b1 g1 s1 hz
  go_upto_region 2 with fail
  clear c0 c1 c2 c3 c4 c5 c6 r0 r1 r2 r3 p0 p1 p2 p3
  obtain ⟨W2, hW2⟩ : ∃ X, W.alloc (.cells #[.int .i64 2, .string nm, .slice eo em ek, .slice tb tm tk] 32) = X := ⟨_, rfl⟩
  obtain ⟨g2, x2, y2⟩ := GA.out W2 hW2
  have s2 : W.heap.size = z + 1 := by rw [HZ.out]; exact HS1.out
  rw [← HZ.out] at x2 y2
  rw [hW2, s2]
  have HG := Lib.hid g2
  have HX := Lib.hid x2
  have HY := Lib.hid y2
  obtain ⟨c0, c1, c2, c3, c4, c5, c6⟩ := seven x2
  obtain ⟨e0, e1, e2, e3⟩ := quad y2
  clear hW2 g2 x2 y2 GA s2 HS1
  obtain ⟨_, _, _, d3, _, _, f3, _⟩ := (HW.out.next HG.out).cells
  by_cases hf : f = 0
  · have HGR := Lib.hid (HG1.out hf)
    subst hf
    go_wp2_with fail
    go_end0
    rw [HGR.out]
    exact AcP.nil rfl (HW.out.next HG.out) (Fr.of HG.out)
  · have hf1 : (f == 0) = false := beq_eq_false_iff_ne.2 hf
    have hf2 : (f != 0) = true := by rw [bne, hf1]; rfl
    have HGR := Lib.hid (HG0.out hf)
    go_upto_region 5 with fail
    have kA := (Below.refl W2.heap.size W2).alloc (Nat.le_refl _) (.cells #[.string nm, .int .i64 f] 55)
    have HKA := Lib.hid kA.drew
    have HPA := Lib.hid ((HW.out.next HG.out).next kA.drew)
    have HXA : Hid ((W2.alloc (.cells #[.string nm, .int .i64 f] 55)).drew.heap[W2.heap.size]? = some (.cells #[.string nm, .int .i64 f] 55 (0, 0))) := Lib.hid (heap_alloc_new W2 _)
    have d3a : (W2.alloc (.cells #[.string nm, .int .i64 f] 55)).cell? ⟨wb, 3, none⟩ = some gv := cell_blk ((HW.out.next HG.out).next kA).hd 3
    clear kA hf
    go_region_law (refine step_appG rfl _ _ rfl B gv G rfl HPA.out.gr W2.heap.size nm f rfl HXA.out (by omega) (Nat.le_trans HPA.out.hb (Nat.le_of_lt HPA.out.lt)) ?_; intro v' w8 hown hgr hor; obtain ⟨va8, vc8, rfl⟩ := row_form hown; have HO8 := Lib.hid hown; have HG8 := Lib.hid hgr; have HR8 := Lib.hid hor; have HX8 := Lib.hid ((hgr.block wb HPA.out.lt (fun e => HPA.out.gw e.symm rfl)).trans HPA.out.hd); have e8 : w8.cell? ⟨wb, 3, none⟩ = some gv := cell_blk HX8.out 3; have f8 : w8.frozen? ⟨wb, 3, none⟩ = false := free_blk HX8.out 3; clear hown hgr hor)
    all_goals
      go_wp2_with fail
      go_end0
      have hfin := (HW.out.next HG.out).flow HKA.out HO8.out HG8.out HR8.out
      have hlen : (G ++ [(⟨nm, f⟩ : Fw)]).length = G.length + 1 := by simp
      rw [hlen] at hfin
      rw [HGR.out]
      exact ⟨rfl, l, G ++ [⟨nm, f⟩], false, _, _, hfin.1, (Fr.of HG.out).trans hfin.2, rfl, by simp, rfl⟩

set_option maxRecDepth 100000 in
set_option maxHeartbeats 8000000 in
theorem acq_zero (f : Int) (tn : Bool) (uo : Option Addr) (um uk : Nat) (nm : ByteArray) (eo : Option Addr) (em ek : Nat) (tb : Option Addr) (tm tk : Nat) (w : World) (h : Wk B wb day fa fc F l G false pv gv w) :
    Calls Try.prog 21 #[.pointer (some ⟨wb, 0, none⟩), .agg #[.int .i64 f, .bool tn, .slice uo um uk, .int .i64 1, .string nm, .slice eo em ek, .slice tb tm tk]] w (AcP B wb day fa fc F l G pv gv (some ([], [])) w) := by
  have HW := Lib.hid h
  clear h
  go_enter Try.func21, Try.ntmps21
  go_upto_region 1 with fail
  obtain ⟨W, hW⟩ : ∃ X, w.alloc (.cells #[.int .i64 f, .bool tn, .slice uo um uk, .int .i64 1, .string nm, .slice eo em ek, .slice tb tm tk] 70) = X := ⟨_, rfl⟩
  obtain ⟨g1, b1, s1⟩ := seven_made (.int .i64 f) (.bool tn) (.slice uo um uk) (.int .i64 1) (.string nm) (.slice eo em ek) (.slice tb tm tk) 70 w W hW
  have GA := Lib.hid (boxes f tn uo um uk 1 nm eo em ek tb tm tk g1 b1 s1)
  obtain ⟨z, hz⟩ : ∃ z, z = w.heap.size := ⟨_, rfl⟩
  rw [hW, ← hz]
  rw [← hz] at b1
  obtain ⟨c0, c1, c2, c3, c4, c5, c6⟩ := seven b1
  obtain ⟨⟨r0, r1, r2, r3⟩, p0, p1, p2, p3⟩ := new_zero W (.int .i64 0) (.string ⟨#[]⟩) (.slice none 0 0) (.slice none 0 0) 32
  have HZ := Lib.hid hz
  have HS1 := Lib.hid s1
  clear hW b1 g1 s1 hz
  go_upto_region 2 with fail
  clear c0 c1 c2 c3 c4 c5 c6 r0 r1 r2 r3 p0 p1 p2 p3
  obtain ⟨W2, hW2⟩ : ∃ X, W.alloc (.cells #[.int .i64 1, .string nm, .slice eo em ek, .slice tb tm tk] 32) = X := ⟨_, rfl⟩
  obtain ⟨g2, x2, y2⟩ := GA.out W2 hW2
  have s2 : W.heap.size = z + 1 := by rw [HZ.out]; exact HS1.out
  rw [← HZ.out] at x2 y2
  rw [hW2, s2]
  have HG := Lib.hid g2
  have HX := Lib.hid x2
  have HY := Lib.hid y2
  obtain ⟨c0, c1, c2, c3, c4, c5, c6⟩ := seven x2
  obtain ⟨e0, e1, e2, e3⟩ := quad y2
  clear hW2 g2 x2 y2 GA s2 HS1
  go_wp2_with fail
  go_end0
  exact AcP.nil rfl (HW.out.next HG.out) (Fr.of HG.out)

set_option maxRecDepth 100000 in
set_option maxHeartbeats 8000000 in
theorem acq_stay5 (f : Int) (tn : Bool) (uo : Option Addr) (um uk : Nat) (nm : ByteArray) (eo : Option Addr) (em ek : Nat) (tb : Option Addr) (tm tk : Nat) (w : World) (h : Wk B wb day fa fc F l G false pv gv w) (g : Got) (hS : ∀ V, Below w.heap.size w V → Calls Try.prog 40 #[.pointer (some ⟨wb, 0, none⟩), .agg #[.int .i64 f, .bool tn, .slice uo um uk, .int .i64 5, .string nm, .slice eo em ek, .slice tb tm tk]] V (AcP B wb day fa fc F l G pv gv g V)) :
    Calls Try.prog 21 #[.pointer (some ⟨wb, 0, none⟩), .agg #[.int .i64 f, .bool tn, .slice uo um uk, .int .i64 5, .string nm, .slice eo em ek, .slice tb tm tk]] w (AcP B wb day fa fc F l G pv gv g w) := by
  have HW := Lib.hid h
  have CS := Lib.hid hS
  clear h hS
  go_enter Try.func21, Try.ntmps21
  go_upto_region 1 with fail
  obtain ⟨W, hW⟩ : ∃ X, w.alloc (.cells #[.int .i64 f, .bool tn, .slice uo um uk, .int .i64 5, .string nm, .slice eo em ek, .slice tb tm tk] 70) = X := ⟨_, rfl⟩
  obtain ⟨g1, b1, s1⟩ := seven_made (.int .i64 f) (.bool tn) (.slice uo um uk) (.int .i64 5) (.string nm) (.slice eo em ek) (.slice tb tm tk) 70 w W hW
  have GA := Lib.hid (boxes f tn uo um uk 5 nm eo em ek tb tm tk g1 b1 s1)
  obtain ⟨z, hz⟩ : ∃ z, z = w.heap.size := ⟨_, rfl⟩
  rw [hW, ← hz]
  rw [← hz] at b1
  obtain ⟨c0, c1, c2, c3, c4, c5, c6⟩ := seven b1
  obtain ⟨⟨r0, r1, r2, r3⟩, p0, p1, p2, p3⟩ := new_zero W (.int .i64 0) (.string ⟨#[]⟩) (.slice none 0 0) (.slice none 0 0) 32
  have HZ := Lib.hid hz
  have HS1 := Lib.hid s1
  clear hW b1 g1 s1 hz
  go_upto_region 2 with fail
  clear c0 c1 c2 c3 c4 c5 c6 r0 r1 r2 r3 p0 p1 p2 p3
  obtain ⟨W2, hW2⟩ : ∃ X, W.alloc (.cells #[.int .i64 5, .string nm, .slice eo em ek, .slice tb tm tk] 32) = X := ⟨_, rfl⟩
  obtain ⟨g2, x2, y2⟩ := GA.out W2 hW2
  have s2 : W.heap.size = z + 1 := by rw [HZ.out]; exact HS1.out
  rw [← HZ.out] at x2 y2
  rw [hW2, s2]
  have HG := Lib.hid g2
  have HX := Lib.hid x2
  have HY := Lib.hid y2
  obtain ⟨c0, c1, c2, c3, c4, c5, c6⟩ := seven x2
  obtain ⟨e0, e1, e2, e3⟩ := quad y2
  clear hW2 g2 x2 y2 GA s2 HS1
  go_wp2_with (go_at_call 40; (with_reducible refine (CS.out _ HG.out).mono ?_); rintro e w5 ha; have HA5 := Lib.hid ha; obtain rfl : e = Ending.returned (.tuple #[]) := ha.1; clear ha)
  go_end0
  exact HA5.out.from (Fr.of HG.out)

set_option maxRecDepth 100000 in
set_option maxHeartbeats 8000000 in
theorem acq_stay9 (f : Int) (tn : Bool) (uo : Option Addr) (um uk : Nat) (nm : ByteArray) (eo : Option Addr) (em ek : Nat) (tb : Option Addr) (tm tk : Nat) (w : World) (h : Wk B wb day fa fc F l G false pv gv w) (g : Got) (hS : ∀ V, Below w.heap.size w V → Calls Try.prog 40 #[.pointer (some ⟨wb, 0, none⟩), .agg #[.int .i64 f, .bool tn, .slice uo um uk, .int .i64 9, .string nm, .slice eo em ek, .slice tb tm tk]] V (AcP B wb day fa fc F l G pv gv g V)) :
    Calls Try.prog 21 #[.pointer (some ⟨wb, 0, none⟩), .agg #[.int .i64 f, .bool tn, .slice uo um uk, .int .i64 9, .string nm, .slice eo em ek, .slice tb tm tk]] w (AcP B wb day fa fc F l G pv gv g w) := by
  have HW := Lib.hid h
  have CS := Lib.hid hS
  clear h hS
  go_enter Try.func21, Try.ntmps21
  go_upto_region 1 with fail
  obtain ⟨W, hW⟩ : ∃ X, w.alloc (.cells #[.int .i64 f, .bool tn, .slice uo um uk, .int .i64 9, .string nm, .slice eo em ek, .slice tb tm tk] 70) = X := ⟨_, rfl⟩
  obtain ⟨g1, b1, s1⟩ := seven_made (.int .i64 f) (.bool tn) (.slice uo um uk) (.int .i64 9) (.string nm) (.slice eo em ek) (.slice tb tm tk) 70 w W hW
  have GA := Lib.hid (boxes f tn uo um uk 9 nm eo em ek tb tm tk g1 b1 s1)
  obtain ⟨z, hz⟩ : ∃ z, z = w.heap.size := ⟨_, rfl⟩
  rw [hW, ← hz]
  rw [← hz] at b1
  obtain ⟨c0, c1, c2, c3, c4, c5, c6⟩ := seven b1
  obtain ⟨⟨r0, r1, r2, r3⟩, p0, p1, p2, p3⟩ := new_zero W (.int .i64 0) (.string ⟨#[]⟩) (.slice none 0 0) (.slice none 0 0) 32
  have HZ := Lib.hid hz
  have HS1 := Lib.hid s1
  clear hW b1 g1 s1 hz
  go_upto_region 2 with fail
  clear c0 c1 c2 c3 c4 c5 c6 r0 r1 r2 r3 p0 p1 p2 p3
  obtain ⟨W2, hW2⟩ : ∃ X, W.alloc (.cells #[.int .i64 9, .string nm, .slice eo em ek, .slice tb tm tk] 32) = X := ⟨_, rfl⟩
  obtain ⟨g2, x2, y2⟩ := GA.out W2 hW2
  have s2 : W.heap.size = z + 1 := by rw [HZ.out]; exact HS1.out
  rw [← HZ.out] at x2 y2
  rw [hW2, s2]
  have HG := Lib.hid g2
  have HX := Lib.hid x2
  have HY := Lib.hid y2
  obtain ⟨c0, c1, c2, c3, c4, c5, c6⟩ := seven x2
  obtain ⟨e0, e1, e2, e3⟩ := quad y2
  clear hW2 g2 x2 y2 GA s2 HS1
  go_wp2_with (go_at_call 40; (with_reducible refine (CS.out _ HG.out).mono ?_); rintro e w5 ha; have HA5 := Lib.hid ha; obtain rfl : e = Ending.returned (.tuple #[]) := ha.1; clear ha)
  go_end0
  exact HA5.out.from (Fr.of HG.out)

set_option maxRecDepth 100000 in
set_option maxHeartbeats 8000000 in
theorem acq_see6 (f : Int) (tn : Bool) (uo : Option Addr) (um uk : Nat) (nm : ByteArray) (eo : Option Addr) (em ek : Nat) (tb : Option Addr) (tm tk : Nat) (w : World) (h : Wk B wb day fa fc F l G false pv gv w) (g : Got) (hS : ∀ V, Below w.heap.size w V → Calls Try.prog 39 #[.pointer (some ⟨wb, 0, none⟩), .agg #[.int .i64 f, .bool tn, .slice uo um uk, .int .i64 6, .string nm, .slice eo em ek, .slice tb tm tk]] V (AcP B wb day fa fc F l G pv gv g V)) :
    Calls Try.prog 21 #[.pointer (some ⟨wb, 0, none⟩), .agg #[.int .i64 f, .bool tn, .slice uo um uk, .int .i64 6, .string nm, .slice eo em ek, .slice tb tm tk]] w (AcP B wb day fa fc F l G pv gv g w) := by
  have HW := Lib.hid h
  have CS := Lib.hid hS
  clear h hS
  go_enter Try.func21, Try.ntmps21
  go_upto_region 1 with fail
  obtain ⟨W, hW⟩ : ∃ X, w.alloc (.cells #[.int .i64 f, .bool tn, .slice uo um uk, .int .i64 6, .string nm, .slice eo em ek, .slice tb tm tk] 70) = X := ⟨_, rfl⟩
  obtain ⟨g1, b1, s1⟩ := seven_made (.int .i64 f) (.bool tn) (.slice uo um uk) (.int .i64 6) (.string nm) (.slice eo em ek) (.slice tb tm tk) 70 w W hW
  have GA := Lib.hid (boxes f tn uo um uk 6 nm eo em ek tb tm tk g1 b1 s1)
  obtain ⟨z, hz⟩ : ∃ z, z = w.heap.size := ⟨_, rfl⟩
  rw [hW, ← hz]
  rw [← hz] at b1
  obtain ⟨c0, c1, c2, c3, c4, c5, c6⟩ := seven b1
  obtain ⟨⟨r0, r1, r2, r3⟩, p0, p1, p2, p3⟩ := new_zero W (.int .i64 0) (.string ⟨#[]⟩) (.slice none 0 0) (.slice none 0 0) 32
  have HZ := Lib.hid hz
  have HS1 := Lib.hid s1
  clear hW b1 g1 s1 hz
  go_upto_region 2 with fail
  clear c0 c1 c2 c3 c4 c5 c6 r0 r1 r2 r3 p0 p1 p2 p3
  obtain ⟨W2, hW2⟩ : ∃ X, W.alloc (.cells #[.int .i64 6, .string nm, .slice eo em ek, .slice tb tm tk] 32) = X := ⟨_, rfl⟩
  obtain ⟨g2, x2, y2⟩ := GA.out W2 hW2
  have s2 : W.heap.size = z + 1 := by rw [HZ.out]; exact HS1.out
  rw [← HZ.out] at x2 y2
  rw [hW2, s2]
  have HG := Lib.hid g2
  have HX := Lib.hid x2
  have HY := Lib.hid y2
  obtain ⟨c0, c1, c2, c3, c4, c5, c6⟩ := seven x2
  obtain ⟨e0, e1, e2, e3⟩ := quad y2
  clear hW2 g2 x2 y2 GA s2 HS1
  go_wp2_with (go_at_call 39; (with_reducible refine (CS.out _ HG.out).mono ?_); rintro e w5 ha; have HA5 := Lib.hid ha; obtain rfl : e = Ending.returned (.tuple #[]) := ha.1; clear ha)
  go_end0
  exact HA5.out.from (Fr.of HG.out)

set_option maxRecDepth 100000 in
set_option maxHeartbeats 8000000 in
theorem acq_see7 (f : Int) (tn : Bool) (uo : Option Addr) (um uk : Nat) (nm : ByteArray) (eo : Option Addr) (em ek : Nat) (tb : Option Addr) (tm tk : Nat) (w : World) (h : Wk B wb day fa fc F l G false pv gv w) (g : Got) (hS : ∀ V, Below w.heap.size w V → Calls Try.prog 39 #[.pointer (some ⟨wb, 0, none⟩), .agg #[.int .i64 f, .bool tn, .slice uo um uk, .int .i64 7, .string nm, .slice eo em ek, .slice tb tm tk]] V (AcP B wb day fa fc F l G pv gv g V)) :
    Calls Try.prog 21 #[.pointer (some ⟨wb, 0, none⟩), .agg #[.int .i64 f, .bool tn, .slice uo um uk, .int .i64 7, .string nm, .slice eo em ek, .slice tb tm tk]] w (AcP B wb day fa fc F l G pv gv g w) := by
  have HW := Lib.hid h
  have CS := Lib.hid hS
  clear h hS
  go_enter Try.func21, Try.ntmps21
  go_upto_region 1 with fail
  obtain ⟨W, hW⟩ : ∃ X, w.alloc (.cells #[.int .i64 f, .bool tn, .slice uo um uk, .int .i64 7, .string nm, .slice eo em ek, .slice tb tm tk] 70) = X := ⟨_, rfl⟩
  obtain ⟨g1, b1, s1⟩ := seven_made (.int .i64 f) (.bool tn) (.slice uo um uk) (.int .i64 7) (.string nm) (.slice eo em ek) (.slice tb tm tk) 70 w W hW
  have GA := Lib.hid (boxes f tn uo um uk 7 nm eo em ek tb tm tk g1 b1 s1)
  obtain ⟨z, hz⟩ : ∃ z, z = w.heap.size := ⟨_, rfl⟩
  rw [hW, ← hz]
  rw [← hz] at b1
  obtain ⟨c0, c1, c2, c3, c4, c5, c6⟩ := seven b1
  obtain ⟨⟨r0, r1, r2, r3⟩, p0, p1, p2, p3⟩ := new_zero W (.int .i64 0) (.string ⟨#[]⟩) (.slice none 0 0) (.slice none 0 0) 32
  have HZ := Lib.hid hz
  have HS1 := Lib.hid s1
  clear hW b1 g1 s1 hz
  go_upto_region 2 with fail
  clear c0 c1 c2 c3 c4 c5 c6 r0 r1 r2 r3 p0 p1 p2 p3
  obtain ⟨W2, hW2⟩ : ∃ X, W.alloc (.cells #[.int .i64 7, .string nm, .slice eo em ek, .slice tb tm tk] 32) = X := ⟨_, rfl⟩
  obtain ⟨g2, x2, y2⟩ := GA.out W2 hW2
  have s2 : W.heap.size = z + 1 := by rw [HZ.out]; exact HS1.out
  rw [← HZ.out] at x2 y2
  rw [hW2, s2]
  have HG := Lib.hid g2
  have HX := Lib.hid x2
  have HY := Lib.hid y2
  obtain ⟨c0, c1, c2, c3, c4, c5, c6⟩ := seven x2
  obtain ⟨e0, e1, e2, e3⟩ := quad y2
  clear hW2 g2 x2 y2 GA s2 HS1
  go_wp2_with (go_at_call 39; (with_reducible refine (CS.out _ HG.out).mono ?_); rintro e w5 ha; have HA5 := Lib.hid ha; obtain rfl : e = Ending.returned (.tuple #[]) := ha.1; clear ha)
  go_end0
  exact HA5.out.from (Fr.of HG.out)

set_option maxRecDepth 100000 in
set_option maxHeartbeats 8000000 in
theorem acq_see8 (f : Int) (tn : Bool) (uo : Option Addr) (um uk : Nat) (nm : ByteArray) (eo : Option Addr) (em ek : Nat) (tb : Option Addr) (tm tk : Nat) (w : World) (h : Wk B wb day fa fc F l G false pv gv w) (g : Got) (hS : ∀ V, Below w.heap.size w V → Calls Try.prog 39 #[.pointer (some ⟨wb, 0, none⟩), .agg #[.int .i64 f, .bool tn, .slice uo um uk, .int .i64 8, .string nm, .slice eo em ek, .slice tb tm tk]] V (AcP B wb day fa fc F l G pv gv g V)) :
    Calls Try.prog 21 #[.pointer (some ⟨wb, 0, none⟩), .agg #[.int .i64 f, .bool tn, .slice uo um uk, .int .i64 8, .string nm, .slice eo em ek, .slice tb tm tk]] w (AcP B wb day fa fc F l G pv gv g w) := by
  have HW := Lib.hid h
  have CS := Lib.hid hS
  clear h hS
  go_enter Try.func21, Try.ntmps21
  go_upto_region 1 with fail
  obtain ⟨W, hW⟩ : ∃ X, w.alloc (.cells #[.int .i64 f, .bool tn, .slice uo um uk, .int .i64 8, .string nm, .slice eo em ek, .slice tb tm tk] 70) = X := ⟨_, rfl⟩
  obtain ⟨g1, b1, s1⟩ := seven_made (.int .i64 f) (.bool tn) (.slice uo um uk) (.int .i64 8) (.string nm) (.slice eo em ek) (.slice tb tm tk) 70 w W hW
  have GA := Lib.hid (boxes f tn uo um uk 8 nm eo em ek tb tm tk g1 b1 s1)
  obtain ⟨z, hz⟩ : ∃ z, z = w.heap.size := ⟨_, rfl⟩
  rw [hW, ← hz]
  rw [← hz] at b1
  obtain ⟨c0, c1, c2, c3, c4, c5, c6⟩ := seven b1
  obtain ⟨⟨r0, r1, r2, r3⟩, p0, p1, p2, p3⟩ := new_zero W (.int .i64 0) (.string ⟨#[]⟩) (.slice none 0 0) (.slice none 0 0) 32
  have HZ := Lib.hid hz
  have HS1 := Lib.hid s1
  clear hW b1 g1 s1 hz
  go_upto_region 2 with fail
  clear c0 c1 c2 c3 c4 c5 c6 r0 r1 r2 r3 p0 p1 p2 p3
  obtain ⟨W2, hW2⟩ : ∃ X, W.alloc (.cells #[.int .i64 8, .string nm, .slice eo em ek, .slice tb tm tk] 32) = X := ⟨_, rfl⟩
  obtain ⟨g2, x2, y2⟩ := GA.out W2 hW2
  have s2 : W.heap.size = z + 1 := by rw [HZ.out]; exact HS1.out
  rw [← HZ.out] at x2 y2
  rw [hW2, s2]
  have HG := Lib.hid g2
  have HX := Lib.hid x2
  have HY := Lib.hid y2
  obtain ⟨c0, c1, c2, c3, c4, c5, c6⟩ := seven x2
  obtain ⟨e0, e1, e2, e3⟩ := quad y2
  clear hW2 g2 x2 y2 GA s2 HS1
  go_wp2_with (go_at_call 39; (with_reducible refine (CS.out _ HG.out).mono ?_); rintro e w5 ha; have HA5 := Lib.hid ha; obtain rfl : e = Ending.returned (.tuple #[]) := ha.1; clear ha)
  go_end0
  exact HA5.out.from (Fr.of HG.out)

set_option maxRecDepth 100000 in
set_option maxHeartbeats 8000000 in
theorem acq_and (f : Int) (tn : Bool) (uo : Option Addr) (um uk : Nat) (nm : ByteArray) (eo : Option Addr) (em ek : Nat) (tb : Option Addr) (tm tk : Nat) (w : World) (h : Wk B wb day fa fc F l G false pv gv w) (ga gb : Got) (hS : ∀ V, Below w.heap.size w V → Calls Try.prog 38 #[.pointer (some ⟨wb, 0, none⟩), .agg #[.int .i64 f, .bool tn, .slice uo um uk, .int .i64 4, .string nm, .slice eo em ek, .slice tb tm tk], .int .i64 0] V (AcP B wb day fa fc F l G pv gv ga V))
    (hT : ∀ l' G' pv' gv' V, Fr wb pv gv pv' gv' w V → Wk B wb day fa fc F l' G' false pv' gv' V → (∃ p g, ga = some (p, g) ∧ l'.map (·.p) = l.map (·.p) ++ p ∧ G' = G ++ g) → Calls Try.prog 38 #[.pointer (some ⟨wb, 0, none⟩), .agg #[.int .i64 f, .bool tn, .slice uo um uk, .int .i64 4, .string nm, .slice eo em ek, .slice tb tm tk], .int .i64 1] V (AcP B wb day fa fc F l' G' pv' gv' gb V))
    (hU : ∀ l' G' pv' gv' V, Fr wb pv gv pv' gv' w V → Wk B wb day fa fc F l' G' true pv' gv' V → Calls Try.prog 38 #[.pointer (some ⟨wb, 0, none⟩), .agg #[.int .i64 f, .bool tn, .slice uo um uk, .int .i64 4, .string nm, .slice eo em ek, .slice tb tm tk], .int .i64 1] V (AcP B wb day fa fc F l' G' pv' gv' none V)) :
    Calls Try.prog 21 #[.pointer (some ⟨wb, 0, none⟩), .agg #[.int .i64 f, .bool tn, .slice uo um uk, .int .i64 4, .string nm, .slice eo em ek, .slice tb tm tk]] w (AcP B wb day fa fc F l G pv gv (both ga gb) w) := by
  have HW := Lib.hid h
  have CS := Lib.hid hS
  have CT := Lib.hid hT
  have CU := Lib.hid hU
  clear h hS hT hU
  go_enter Try.func21, Try.ntmps21
  go_upto_region 1 with fail
  obtain ⟨W, hW⟩ : ∃ X, w.alloc (.cells #[.int .i64 f, .bool tn, .slice uo um uk, .int .i64 4, .string nm, .slice eo em ek, .slice tb tm tk] 70) = X := ⟨_, rfl⟩
  obtain ⟨g1, b1, s1⟩ := seven_made (.int .i64 f) (.bool tn) (.slice uo um uk) (.int .i64 4) (.string nm) (.slice eo em ek) (.slice tb tm tk) 70 w W hW
  have GA := Lib.hid (boxes f tn uo um uk 4 nm eo em ek tb tm tk g1 b1 s1)
  obtain ⟨z, hz⟩ : ∃ z, z = w.heap.size := ⟨_, rfl⟩
  rw [hW, ← hz]
  rw [← hz] at b1
  obtain ⟨c0, c1, c2, c3, c4, c5, c6⟩ := seven b1
  obtain ⟨⟨r0, r1, r2, r3⟩, p0, p1, p2, p3⟩ := new_zero W (.int .i64 0) (.string ⟨#[]⟩) (.slice none 0 0) (.slice none 0 0) 32
  have HZ := Lib.hid hz
  have HS1 := Lib.hid s1
  clear hW b1 g1 s1 hz
  go_upto_region 2 with fail
  clear c0 c1 c2 c3 c4 c5 c6 r0 r1 r2 r3 p0 p1 p2 p3
  obtain ⟨W2, hW2⟩ : ∃ X, W.alloc (.cells #[.int .i64 4, .string nm, .slice eo em ek, .slice tb tm tk] 32) = X := ⟨_, rfl⟩
  obtain ⟨g2, x2, y2⟩ := GA.out W2 hW2
  have s2 : W.heap.size = z + 1 := by rw [HZ.out]; exact HS1.out
  rw [← HZ.out] at x2 y2
  rw [hW2, s2]
  have HG := Lib.hid g2
  have HX := Lib.hid x2
  have HY := Lib.hid y2
  obtain ⟨c0, c1, c2, c3, c4, c5, c6⟩ := seven x2
  obtain ⟨e0, e1, e2, e3⟩ := quad y2
  clear hW2 g2 x2 y2 GA s2 HS1
  go_upto_region 12 with (go_at_call 38; (with_reducible refine (CS.out _ HG.out).mono ?_); rintro e w5 ha; have HA5 := Lib.hid ha; obtain rfl : e = Ending.returned (.tuple #[]) := ha.1; clear ha c0 c1 c2 c3 c4 c5 c6 e0 e1 e2 e3)
  obtain ⟨_, l', G', br', pv', gv', hw5, hf5, hr5⟩ := HA5.out
  have hx5 := (hf5.keep (Away.new HW.out (by rw [← HZ.out]; exact Nat.le_refl _) (lt_of_heap HX.out))).trans HX.out
  obtain ⟨c0, c1, c2, c3, c4, c5, c6⟩ := seven hx5
  have HF5 := Lib.hid ((Fr.of HG.out).trans hf5)
  have HR5 := Lib.hid hr5
  cases br' with
  | true =>
    have CV := Lib.hid (CU.out l' G' pv' gv' w5 HF5.out hw5)
    have HGA : Hid (ga = none) := Lib.hid (by
      cases ga with
      | none => rfl
      | some pg => obtain ⟨p, g⟩ := pg; exact absurd hr5.1 (by decide))
    clear hw5 hf5 hr5 hx5
    go_wp2_with (go_at_call 38; (with_reducible refine CV.out.mono ?_); rintro e w7 ha; have HA7 := Lib.hid ha; obtain rfl : e = Ending.returned (.tuple #[]) := ha.1; clear ha)
    go_end0
    rw [HGA.out]
    obtain ⟨_, l7, G7, br7, pv7, gv7, h7, f7, r7⟩ := HA7.out
    exact ⟨rfl, l7, G7, br7, pv7, gv7, h7, HF5.out.trans f7, r7⟩
  | false =>
    obtain ⟨p, g, hga, hl5, hg5⟩ : ∃ p g, ga = some (p, g) ∧ l'.map (·.p) = l.map (·.p) ++ p ∧ G' = G ++ g := by
      cases ga with
      | none => exact absurd (show false = true from hr5) (by decide)
      | some pg => obtain ⟨p, g⟩ := pg; exact ⟨p, g, rfl, hr5.2.1, hr5.2.2⟩
    have CV := Lib.hid (CT.out l' G' pv' gv' w5 HF5.out hw5 ⟨p, g, hga, hl5, hg5⟩)
    have HGA := Lib.hid (And.intro hga (And.intro hl5 hg5))
    clear hw5 hf5 hr5 hx5 hga hl5 hg5
    go_wp2_with (go_at_call 38; (with_reducible refine CV.out.mono ?_); rintro e w7 ha; have HA7 := Lib.hid ha; obtain rfl : e = Ending.returned (.tuple #[]) := ha.1; clear ha)
    go_end0
    obtain ⟨hga, hl5, hg5⟩ := HGA.out
    rw [hga]
    obtain ⟨_, l7, G7, br7, pv7, gv7, h7, f7, r7⟩ := HA7.out
    refine ⟨rfl, l7, G7, br7, pv7, gv7, h7, HF5.out.trans f7, ?_⟩
    cases gb with
    | none => exact r7
    | some pg =>
      obtain ⟨p2, g2⟩ := pg
      exact ⟨r7.1, by rw [r7.2.1, hl5, List.append_assoc], by rw [r7.2.2, hg5, List.append_assoc]⟩

set_option maxRecDepth 100000 in
set_option maxHeartbeats 8000000 in
theorem acq_give (f : Int) (tn : Bool) (uo : Option Addr) (um uk : Nat) (nm : ByteArray) (eo : Option Addr) (em ek : Nat) (tb : Option Addr) (tm tk : Nat) (w : World) (h : Wk B wb day fa fc F l G false pv gv w) (fi : -9223372036854775808 ≤ f ∧ f ≤ 9223372036854775807) (ga gr : Got) (hg1 : in64 (-f) = true → gr = ga) (hg0 : ¬ in64 (-f) = true → gr = none) (hT : -f ≤ 9223372036854775807 → ∀ V, Fr wb pv gv pv gv w V → Wk B wb day fa fc F l G false pv gv V → Calls Try.prog 38 #[.pointer (some ⟨wb, 0, none⟩), .agg #[.int .i64 (-f), .bool (!tn), .slice uo um uk, .int .i64 3, .string nm, .slice eo em ek, .slice tb tm tk], .int .i64 0] V (AcP B wb day fa fc F l G pv gv ga V))
    (hU : ∀ V, Fr wb pv gv pv gv w V → Wk B wb day fa fc F l G true pv gv V → Calls Try.prog 38 #[.pointer (some ⟨wb, 0, none⟩), .agg #[.int .i64 0, .bool (!tn), .slice uo um uk, .int .i64 3, .string nm, .slice eo em ek, .slice tb tm tk], .int .i64 0] V (AcP B wb day fa fc F l G pv gv none V)) :
    Calls Try.prog 21 #[.pointer (some ⟨wb, 0, none⟩), .agg #[.int .i64 f, .bool tn, .slice uo um uk, .int .i64 3, .string nm, .slice eo em ek, .slice tb tm tk]] w (AcP B wb day fa fc F l G pv gv gr w) := by
  have HW := Lib.hid h
  have CT := Lib.hid hT
  have CU := Lib.hid hU
  obtain ⟨f0, f1⟩ := fi
  have HG1 := Lib.hid hg1
  have HG0 := Lib.hid hg0
  have CN := Lib.hid fun V => Nu.neg_num f f0 f1 V
  clear h hT hU hg1 hg0
  go_enter Try.func21, Try.ntmps21
  go_upto_region 1 with fail
  obtain ⟨W, hW⟩ : ∃ X, w.alloc (.cells #[.int .i64 f, .bool tn, .slice uo um uk, .int .i64 3, .string nm, .slice eo em ek, .slice tb tm tk] 70) = X := ⟨_, rfl⟩
  obtain ⟨g1, b1, s1⟩ := seven_made (.int .i64 f) (.bool tn) (.slice uo um uk) (.int .i64 3) (.string nm) (.slice eo em ek) (.slice tb tm tk) 70 w W hW
  have GA := Lib.hid (boxes f tn uo um uk 3 nm eo em ek tb tm tk g1 b1 s1)
  obtain ⟨z, hz⟩ : ∃ z, z = w.heap.size := ⟨_, rfl⟩
  rw [hW, ← hz]
  rw [← hz] at b1
  obtain ⟨c0, c1, c2, c3, c4, c5, c6⟩ := seven b1
  obtain ⟨⟨r0, r1, r2, r3⟩, p0, p1, p2, p3⟩ := new_zero W (.int .i64 0) (.string ⟨#[]⟩) (.slice none 0 0) (.slice none 0 0) 32
  have HZ := Lib.hid hz
  have HS1 := Lib.hid s1
  clear hW b1 g1 s1 hz
  go_upto_region 2 with fail
  clear c0 c1 c2 c3 c4 c5 c6 r0 r1 r2 r3 p0 p1 p2 p3
  obtain ⟨W2, hW2⟩ : ∃ X, W.alloc (.cells #[.int .i64 3, .string nm, .slice eo em ek, .slice tb tm tk] 32) = X := ⟨_, rfl⟩
  obtain ⟨g2, x2, y2⟩ := GA.out W2 hW2
  have s2 : W.heap.size = z + 1 := by rw [HZ.out]; exact HS1.out
  rw [← HZ.out] at x2 y2
  rw [hW2, s2]
  have HG := Lib.hid g2
  have HX := Lib.hid x2
  have HY := Lib.hid y2
  obtain ⟨c0, c1, c2, c3, c4, c5, c6⟩ := seven x2
  obtain ⟨e0, e1, e2, e3⟩ := quad y2
  clear hW2 g2 x2 y2 GA s2 HS1
  have z0 := free_blk HX.out 0
  by_cases hok : -f ≤ 9223372036854775807
  · have hin : in64 (-f) = true := by unfold in64; simp; omega
    have HGR := Lib.hid (HG1.out hin)
    have HOK := Lib.hid hok
    clear hin hok
    go_upto_region 8 with (first
      | (go_at_call 37; (with_reducible refine (CN.out _).mono ?_); rintro e w4 ⟨n, ok, he, ha, hb⟩; obtain rfl : e = Ending.returned (.tuple #[.int .i64 (-f), .bool true]) := (by have := ha.1 ⟨by have := HOK.out; omega, HOK.out⟩; rw [he, this.1, this.2]); have HB4 := Lib.hid hb; have CM := Lib.hid (number_any (-f) true w4 ((HW.out.next HG.out).next hb)); have x4 := (hb.block z (lt_of_heap HX.out)).trans HX.out; have HX4 := Lib.hid x4; clear ha he hb x4)
      | (go_at_call 36; (with_reducible refine CM.out.mono ?_); rintro e w5 ⟨rfl, hw5⟩; have HX5 : Hid (w5.heap[z]? = some (.cells #[.int .i64 f, .bool tn, .slice uo um uk, .int .i64 3, .string nm, .slice eo em ek, .slice tb tm tk] 70 (0, 0))) := Lib.hid (by rw [← hw5]; exact (Below.heap_setCell _ _ _ _ (by have := HW.out.lt; have := HZ.out; show z ≠ wb; omega)).trans HX4.out); have HW5 := Lib.hid hw5; clear hw5 z0 c0; have c0 : w5.cell? ⟨z, 0, none⟩ = some (.int .i64 f) := cell_blk HX5.out 0; have z0 : w5.frozen? ⟨z, 0, none⟩ = false := free_blk HX5.out 0))
    clear c0 c1 c2 c3 c4 c5 c6 z0 e0 e1 e2 e3
    obtain ⟨W6, hW6⟩ : ∃ X, w5.setCell ⟨z, 0, none⟩ (.int .i64 (-f)) = X := ⟨_, rfl⟩
    have x6 : W6.heap[z]? = some (.cells #[.int .i64 (-f), .bool tn, .slice uo um uk, .int .i64 3, .string nm, .slice eo em ek, .slice tb tm tk] 70 (0, 0)) := by rw [← hW6]; exact heap_set_at (i := 0) _ HX5.out
    have HW6 := Lib.hid hW6
    rw [hW6]
    have HX6 := Lib.hid x6
    have z1 := free_blk x6 1
    obtain ⟨c0, c1, c2, c3, c4, c5, c6⟩ := seven x6
    clear hW6 x6
    go_upto_region 9 with fail
    clear c0 c1 c2 c3 c4 c5 c6 z1
    obtain ⟨W7, hW7⟩ : ∃ X, W6.setCell ⟨z, 1, none⟩ (.bool (!tn)) = X := ⟨_, rfl⟩
    have x7 : W7.heap[z]? = some (.cells #[.int .i64 (-f), .bool (!tn), .slice uo um uk, .int .i64 3, .string nm, .slice eo em ek, .slice tb tm tk] 70 (0, 0)) := by rw [← hW7]; exact heap_set_at (i := 1) _ HX6.out
    have hz1 : w.heap.size ≤ z := by rw [HZ.out]; exact Nat.le_refl _
    have hne : wb ≠ z := by have := HW.out.lt; have := HZ.out; omega
    have k7 : Only [wb] w W7 := by
      rw [← hW7, ← HW6.out, ← HW5.out]
      exact (((only_of (below_mono HG.out HB4.out (Nat.le_refl _)) [wb]).set (a := ⟨wb, 4, none⟩) (.inl (by simp)) _).set (a := ⟨z, 0, none⟩) (.inr hz1) _).set (a := ⟨z, 1, none⟩) (.inr hz1) _
    have y7 : W7.heap[wb]? = some (.cells #[.int .i64 day, .slice fa F.length fc, pv, gv, .bool false] 67 (0, 0)) := by
      rw [← hW7, ← HW6.out, ← HW5.out, Below.heap_setCell _ _ _ _ hne, Below.heap_setCell _ _ _ _ hne]
      exact heap_set_at (i := 4) _ ((HW.out.next HG.out).next HB4.out).hd
    rw [hW7]
    have hl := HW.out.leap k7 y7
    have CV := Lib.hid (CT.out HOK.out W7 hl.2 hl.1)
    have HF7 := Lib.hid hl.2
    obtain ⟨c0, c1, c2, c3, c4, c5, c6⟩ := seven x7
    clear hW7 x7 hz1 hne k7 y7 hl
    go_wp2_with (go_at_call 38; (with_reducible refine CV.out.mono ?_); rintro e w9 ha; have HA9 := Lib.hid ha; obtain rfl : e = Ending.returned (.tuple #[]) := ha.1; clear ha)
    go_end0
    rw [HGR.out]
    exact HA9.out.from HF7.out
  · have hin : ¬ in64 (-f) = true := by unfold in64; simp; omega
    have HGR := Lib.hid (HG0.out hin)
    have HOK := Lib.hid hok
    clear hin hok
    go_upto_region 8 with (first
      | (go_at_call 37; (with_reducible refine (CN.out _).mono ?_); rintro e w4 ⟨n, ok, he, ha, hb⟩; obtain rfl : e = Ending.returned (.tuple #[.int .i64 0, .bool false]) := (by have := ha.2 (fun h => HOK.out h.2); rw [he, this.1, this.2]); have HB4 := Lib.hid hb; have CM := Lib.hid (number_any 0 false w4 ((HW.out.next HG.out).next hb)); have x4 := (hb.block z (lt_of_heap HX.out)).trans HX.out; have HX4 := Lib.hid x4; clear ha he hb x4)
      | (go_at_call 36; (with_reducible refine CM.out.mono ?_); rintro e w5 ⟨rfl, hw5⟩; have HX5 : Hid (w5.heap[z]? = some (.cells #[.int .i64 f, .bool tn, .slice uo um uk, .int .i64 3, .string nm, .slice eo em ek, .slice tb tm tk] 70 (0, 0))) := Lib.hid (by rw [← hw5]; exact (Below.heap_setCell _ _ _ _ (by have := HW.out.lt; have := HZ.out; show z ≠ wb; omega)).trans HX4.out); have HW5 := Lib.hid hw5; clear hw5 z0 c0; have c0 : w5.cell? ⟨z, 0, none⟩ = some (.int .i64 f) := cell_blk HX5.out 0; have z0 : w5.frozen? ⟨z, 0, none⟩ = false := free_blk HX5.out 0))
    clear c0 c1 c2 c3 c4 c5 c6 z0 e0 e1 e2 e3
    obtain ⟨W6, hW6⟩ : ∃ X, w5.setCell ⟨z, 0, none⟩ (.int .i64 0) = X := ⟨_, rfl⟩
    have x6 : W6.heap[z]? = some (.cells #[.int .i64 0, .bool tn, .slice uo um uk, .int .i64 3, .string nm, .slice eo em ek, .slice tb tm tk] 70 (0, 0)) := by rw [← hW6]; exact heap_set_at (i := 0) _ HX5.out
    have HW6 := Lib.hid hW6
    rw [hW6]
    have HX6 := Lib.hid x6
    have z1 := free_blk x6 1
    obtain ⟨c0, c1, c2, c3, c4, c5, c6⟩ := seven x6
    clear hW6 x6
    go_upto_region 9 with fail
    clear c0 c1 c2 c3 c4 c5 c6 z1
    obtain ⟨W7, hW7⟩ : ∃ X, W6.setCell ⟨z, 1, none⟩ (.bool (!tn)) = X := ⟨_, rfl⟩
    have x7 : W7.heap[z]? = some (.cells #[.int .i64 0, .bool (!tn), .slice uo um uk, .int .i64 3, .string nm, .slice eo em ek, .slice tb tm tk] 70 (0, 0)) := by rw [← hW7]; exact heap_set_at (i := 1) _ HX6.out
    have hz1 : w.heap.size ≤ z := by rw [HZ.out]; exact Nat.le_refl _
    have hne : wb ≠ z := by have := HW.out.lt; have := HZ.out; omega
    have k7 : Only [wb] w W7 := by
      rw [← hW7, ← HW6.out, ← HW5.out]
      exact (((only_of (below_mono HG.out HB4.out (Nat.le_refl _)) [wb]).set (a := ⟨wb, 4, none⟩) (.inl (by simp)) _).set (a := ⟨z, 0, none⟩) (.inr hz1) _).set (a := ⟨z, 1, none⟩) (.inr hz1) _
    have y7 : W7.heap[wb]? = some (.cells #[.int .i64 day, .slice fa F.length fc, pv, gv, .bool true] 67 (0, 0)) := by
      rw [← hW7, ← HW6.out, ← HW5.out, Below.heap_setCell _ _ _ _ hne, Below.heap_setCell _ _ _ _ hne]
      exact heap_set_at (i := 4) _ ((HW.out.next HG.out).next HB4.out).hd
    rw [hW7]
    have hl := HW.out.leap k7 y7
    have CV := Lib.hid (CU.out W7 hl.2 hl.1)
    have HF7 := Lib.hid hl.2
    obtain ⟨c0, c1, c2, c3, c4, c5, c6⟩ := seven x7
    clear hW7 x7 hz1 hne k7 y7 hl
    go_wp2_with (go_at_call 38; (with_reducible refine CV.out.mono ?_); rintro e w9 ha; have HA9 := Lib.hid ha; obtain rfl : e = Ending.returned (.tuple #[]) := ha.1; clear ha)
    go_end0
    rw [HGR.out]
    exact HA9.out.from HF7.out

end
end Go.Proofs.Ythhimllddgfddaa
namespace Go.Proofs.Ythhimllddgfddaa
open Go.ChangeShapes Go.WideShapes Go.RowKit Go.Deep Go.WideElems Go.Maps
set_option linter.unusedVariables false
set_option linter.unusedSimpArgs false
section
variable {B wb : Nat} {day : Int} {fa : Option Addr} {fc : Nat} {F : List Fx} {l : List Pp} {G : List Fw} {br : Bool} {pv gv : Value}
theorem box_four {w W : World} {v0 v1 v2 v3 : Value} {T : TypeId} {c : Array Value} (g1 : Below w.heap.size w W) (b1 : W.heap[w.heap.size]? = some (.cells c 70 (0, 0))) (s1 : W.heap.size = w.heap.size + 1) : ∀ V, W.alloc (.cells #[v0, v1, v2, v3] T) = V → Below w.heap.size w V ∧ V.heap[w.heap.size]? = some (.cells c 70 (0, 0)) ∧ V.heap[w.heap.size + 1]? = some (.cells #[v0, v1, v2, v3] T (0, 0)) := by
  intro V hV
  obtain ⟨k2, b2, s2⟩ := four_boxed v0 v1 v2 v3 T W V hV
  exact ⟨below_mono g1 k2 (Nat.le_refl _), (k2.block _ (by omega)).trans b1, by rw [← s1]; exact b2⟩

set_option maxRecDepth 100000 in
set_option maxHeartbeats 8000000 in
theorem see_brk6 (f : Int) (tn : Bool) (uo : Option Addr) (um uk : Nat) (nm : ByteArray) (a : Addr) (em ek : Nat) (tb : Option Addr) (tm tk : Nat) (xo xn : Int) (xs : ByteArray) (bo : Option Addr) (xl xk : Nat) (vk vn : Int) (vb : Bool) (w : World) (h : Wk B wb day fa fc F l G false pv gv w) (he : 0 < em) (hx : ∀ V, Below w.heap.size w V → FourX V a (.int .i64 xo) (.int .i64 xn) (.string xs) (.slice bo xl xk))
    (hE : ∀ V, Below w.heap.size w V → Wk B wb day fa fc F l G false pv gv V → Calls Try.prog 44 #[.pointer (some ⟨wb, 0, none⟩), .agg #[.int .i64 xo, .int .i64 xn, .string xs, .slice bo xl xk]] V fun e w' => e = .returned (.agg #[.int .i64 vk, .int .i64 vn, .bool vb]) ∧ Wk B wb day fa fc F l G (vk == 3) pv gv w' ∧ Fr wb pv gv pv gv V w' ∧ Only [wb] V w') (k3 : (vk == 3) = true):
    Calls Try.prog 39 #[.pointer (some ⟨wb, 0, none⟩), .agg #[.int .i64 f, .bool tn, .slice uo um uk, .int .i64 6, .string nm, .slice (some a) em ek, .slice tb tm tk]] w (AcP B wb day fa fc F l G pv gv none w) := by
  have HW := Lib.hid h
  have CX := Lib.hid hx
  have CE := Lib.hid hE
  have e1 : (0 : Int) < (em : Int) := by omega
  clear h hx hE he
  go_enter Try.func39, Try.ntmps39
  go_upto_region 1 with fail
  obtain ⟨W, hW⟩ : ∃ X, w.alloc (.cells #[.int .i64 f, .bool tn, .slice uo um uk, .int .i64 6, .string nm, .slice (some a) em ek, .slice tb tm tk] 70) = X := ⟨_, rfl⟩
  obtain ⟨g1, b1, s1⟩ := seven_made (.int .i64 f) (.bool tn) (.slice uo um uk) (.int .i64 6) (.string nm) (.slice (some a) em ek) (.slice tb tm tk) 70 w W hW
  have GA := Lib.hid (box_four (v0 := .int .i64 xo) (v1 := .int .i64 xn) (v2 := .string xs) (v3 := .slice bo xl xk) (T := 53) g1 b1 s1)
  obtain ⟨z, hz⟩ : ∃ z, z = w.heap.size := ⟨_, rfl⟩
  rw [hW, ← hz]
  rw [← hz] at b1
  obtain ⟨c0, c1, c2, c3, c4, c5, c6⟩ := seven b1
  obtain ⟨y0, y1, y2, y3⟩ := CX.out W g1
  obtain ⟨⟨r0, r1, r2, r3⟩, p0, p1, p2, p3⟩ := new_zero W (.int .i64 0) (.int .i64 0) (.string ⟨#[]⟩) (.slice none 0 0) 53
  have HZ := Lib.hid hz
  have HS1 := Lib.hid s1
  clear hW b1 g1 s1 hz
  go_upto_region 2 with fail
  clear c0 c1 c2 c3 c4 c5 c6 y0 y1 y2 y3 r0 r1 r2 r3 p0 p1 p2 p3
  obtain ⟨W2, hW2⟩ : ∃ X, W.alloc (.cells #[.int .i64 xo, .int .i64 xn, .string xs, .slice bo xl xk] 53) = X := ⟨_, rfl⟩
  obtain ⟨g2, x2, q2⟩ := GA.out W2 hW2
  have s2 : W.heap.size = z + 1 := by rw [HZ.out]; exact HS1.out
  rw [← HZ.out] at x2 q2
  rw [hW2, s2]
  have HG := Lib.hid g2
  have HX := Lib.hid x2
  have HY := Lib.hid q2
  obtain ⟨d0, d1, d2, d3⟩ := quad q2
  clear hW2 g2 x2 q2 GA s2 HS1
  go_upto_region 4 with (go_at_call 44; (with_reducible refine (CE.out _ HG.out (HW.out.next HG.out)).mono ?_); rintro e w3 ⟨rfl, hw3, hf3, ho3⟩; have HW3 := Lib.hid hw3; have HO3 := Lib.hid ho3; clear hw3 hf3 ho3; obtain ⟨⟨r0, r1, r2⟩, p0, p1, p2⟩ := three_zero w3 (.int .i64 0) (.int .i64 0) (.bool false) 99)
  clear d0 d1 d2 d3 r0 r1 r2 p0 p1 p2
  obtain ⟨u, hu⟩ : ∃ u, u = w3.heap.size := ⟨_, rfl⟩
  obtain ⟨W4, hW4⟩ : ∃ X, w3.alloc (.cells #[.int .i64 vk, .int .i64 vn, .bool vb] 99) = X := ⟨_, rfl⟩
  obtain ⟨g4, x4, s4⟩ := three_made (.int .i64 vk) (.int .i64 vn) (.bool vb) 99 w3 W4 hW4
  rw [hW4, ← hu]
  rw [← hu] at x4
  have hwz : wb < z := by rw [HZ.out]; exact HW.out.lt
  have HX4 : Hid (W4.heap[z]? = some (.cells #[.int .i64 f, .bool tn, .slice uo um uk, .int .i64 6, .string nm, .slice (some a) em ek, .slice tb tm tk] 70 (0, 0))) := Lib.hid ((g4.block z (Nat.lt_of_lt_of_le (lt_of_heap HX.out) HO3.out.size)).trans ((HO3.out.block z (lt_of_heap HX.out) (fun hm => by have := List.mem_singleton.1 hm; omega)).trans HX.out))
  have HY4 : Hid (W4.heap[z + 1]? = some (.cells #[.int .i64 xo, .int .i64 xn, .string xs, .slice bo xl xk] 53 (0, 0))) := Lib.hid ((g4.block (z + 1) (Nat.lt_of_lt_of_le (lt_of_heap HY.out) HO3.out.size)).trans ((HO3.out.block (z + 1) (lt_of_heap HY.out) (fun hm => by have := List.mem_singleton.1 hm; omega)).trans HY.out))
  have HU4 := Lib.hid x4
  have HO4 : Hid (Only [wb] w W4) := Lib.hid (((only_of HG.out [wb]).trans HO3.out (fun x hx => .inl hx)).trans (only_of g4 [wb]) (fun x hx => .inl hx))
  have HD4 : Hid (W4.heap[wb]? = some (.cells #[.int .i64 day, .slice fa F.length fc, pv, gv, .bool (vk == 3)] 67 (0, 0))) := Lib.hid ((g4.block wb HW3.out.lt).trans HW3.out.hd)
  have HWZ := Lib.hid hwz
  clear hu hW4 g4 x4 s4 hwz HO3 HW3 HX HY HG
  have b4 : W4.cell? ⟨wb, 4, none⟩ = some (.bool (vk == 3)) := cell_blk HD4.out 4
  obtain ⟨c0, c1, c2, c3, c4, c5, c6⟩ := seven HX4.out
  obtain ⟨v0, v1, v2⟩ := trio HU4.out
  rw [k3] at b4
  have HK3 := Lib.hid k3
  go_wp2_with fail
  go_end0
  have hl := HW.out.leap HO4.out HD4.out
  rw [HK3.out] at hl
  exact AcP.none rfl hl.1 hl.2

set_option maxRecDepth 100000 in
set_option maxHeartbeats 8000000 in
theorem see_brk7 (f : Int) (tn : Bool) (uo : Option Addr) (um uk : Nat) (nm : ByteArray) (a : Addr) (em ek : Nat) (tb : Option Addr) (tm tk : Nat) (xo xn : Int) (xs : ByteArray) (bo : Option Addr) (xl xk : Nat) (vk vn : Int) (vb : Bool) (w : World) (h : Wk B wb day fa fc F l G false pv gv w) (he : 0 < em) (hx : ∀ V, Below w.heap.size w V → FourX V a (.int .i64 xo) (.int .i64 xn) (.string xs) (.slice bo xl xk))
    (hE : ∀ V, Below w.heap.size w V → Wk B wb day fa fc F l G false pv gv V → Calls Try.prog 44 #[.pointer (some ⟨wb, 0, none⟩), .agg #[.int .i64 xo, .int .i64 xn, .string xs, .slice bo xl xk]] V fun e w' => e = .returned (.agg #[.int .i64 vk, .int .i64 vn, .bool vb]) ∧ Wk B wb day fa fc F l G (vk == 3) pv gv w' ∧ Fr wb pv gv pv gv V w' ∧ Only [wb] V w') (k3 : (vk == 3) = true):
    Calls Try.prog 39 #[.pointer (some ⟨wb, 0, none⟩), .agg #[.int .i64 f, .bool tn, .slice uo um uk, .int .i64 7, .string nm, .slice (some a) em ek, .slice tb tm tk]] w (AcP B wb day fa fc F l G pv gv none w) := by
  have HW := Lib.hid h
  have CX := Lib.hid hx
  have CE := Lib.hid hE
  have e1 : (0 : Int) < (em : Int) := by omega
  clear h hx hE he
  go_enter Try.func39, Try.ntmps39
  go_upto_region 1 with fail
  obtain ⟨W, hW⟩ : ∃ X, w.alloc (.cells #[.int .i64 f, .bool tn, .slice uo um uk, .int .i64 7, .string nm, .slice (some a) em ek, .slice tb tm tk] 70) = X := ⟨_, rfl⟩
  obtain ⟨g1, b1, s1⟩ := seven_made (.int .i64 f) (.bool tn) (.slice uo um uk) (.int .i64 7) (.string nm) (.slice (some a) em ek) (.slice tb tm tk) 70 w W hW
  have GA := Lib.hid (box_four (v0 := .int .i64 xo) (v1 := .int .i64 xn) (v2 := .string xs) (v3 := .slice bo xl xk) (T := 53) g1 b1 s1)
  obtain ⟨z, hz⟩ : ∃ z, z = w.heap.size := ⟨_, rfl⟩
  rw [hW, ← hz]
  rw [← hz] at b1
  obtain ⟨c0, c1, c2, c3, c4, c5, c6⟩ := seven b1
  obtain ⟨y0, y1, y2, y3⟩ := CX.out W g1
  obtain ⟨⟨r0, r1, r2, r3⟩, p0, p1, p2, p3⟩ := new_zero W (.int .i64 0) (.int .i64 0) (.string ⟨#[]⟩) (.slice none 0 0) 53
  have HZ := Lib.hid hz
  have HS1 := Lib.hid s1
  clear hW b1 g1 s1 hz
  go_upto_region 2 with fail
  clear c0 c1 c2 c3 c4 c5 c6 y0 y1 y2 y3 r0 r1 r2 r3 p0 p1 p2 p3
  obtain ⟨W2, hW2⟩ : ∃ X, W.alloc (.cells #[.int .i64 xo, .int .i64 xn, .string xs, .slice bo xl xk] 53) = X := ⟨_, rfl⟩
  obtain ⟨g2, x2, q2⟩ := GA.out W2 hW2
  have s2 : W.heap.size = z + 1 := by rw [HZ.out]; exact HS1.out
  rw [← HZ.out] at x2 q2
  rw [hW2, s2]
  have HG := Lib.hid g2
  have HX := Lib.hid x2
  have HY := Lib.hid q2
  obtain ⟨d0, d1, d2, d3⟩ := quad q2
  clear hW2 g2 x2 q2 GA s2 HS1
  go_upto_region 4 with (go_at_call 44; (with_reducible refine (CE.out _ HG.out (HW.out.next HG.out)).mono ?_); rintro e w3 ⟨rfl, hw3, hf3, ho3⟩; have HW3 := Lib.hid hw3; have HO3 := Lib.hid ho3; clear hw3 hf3 ho3; obtain ⟨⟨r0, r1, r2⟩, p0, p1, p2⟩ := three_zero w3 (.int .i64 0) (.int .i64 0) (.bool false) 99)
  clear d0 d1 d2 d3 r0 r1 r2 p0 p1 p2
  obtain ⟨u, hu⟩ : ∃ u, u = w3.heap.size := ⟨_, rfl⟩
  obtain ⟨W4, hW4⟩ : ∃ X, w3.alloc (.cells #[.int .i64 vk, .int .i64 vn, .bool vb] 99) = X := ⟨_, rfl⟩
  obtain ⟨g4, x4, s4⟩ := three_made (.int .i64 vk) (.int .i64 vn) (.bool vb) 99 w3 W4 hW4
  rw [hW4, ← hu]
  rw [← hu] at x4
  have hwz : wb < z := by rw [HZ.out]; exact HW.out.lt
  have HX4 : Hid (W4.heap[z]? = some (.cells #[.int .i64 f, .bool tn, .slice uo um uk, .int .i64 7, .string nm, .slice (some a) em ek, .slice tb tm tk] 70 (0, 0))) := Lib.hid ((g4.block z (Nat.lt_of_lt_of_le (lt_of_heap HX.out) HO3.out.size)).trans ((HO3.out.block z (lt_of_heap HX.out) (fun hm => by have := List.mem_singleton.1 hm; omega)).trans HX.out))
  have HY4 : Hid (W4.heap[z + 1]? = some (.cells #[.int .i64 xo, .int .i64 xn, .string xs, .slice bo xl xk] 53 (0, 0))) := Lib.hid ((g4.block (z + 1) (Nat.lt_of_lt_of_le (lt_of_heap HY.out) HO3.out.size)).trans ((HO3.out.block (z + 1) (lt_of_heap HY.out) (fun hm => by have := List.mem_singleton.1 hm; omega)).trans HY.out))
  have HU4 := Lib.hid x4
  have HO4 : Hid (Only [wb] w W4) := Lib.hid (((only_of HG.out [wb]).trans HO3.out (fun x hx => .inl hx)).trans (only_of g4 [wb]) (fun x hx => .inl hx))
  have HD4 : Hid (W4.heap[wb]? = some (.cells #[.int .i64 day, .slice fa F.length fc, pv, gv, .bool (vk == 3)] 67 (0, 0))) := Lib.hid ((g4.block wb HW3.out.lt).trans HW3.out.hd)
  have HWZ := Lib.hid hwz
  clear hu hW4 g4 x4 s4 hwz HO3 HW3 HX HY HG
  have b4 : W4.cell? ⟨wb, 4, none⟩ = some (.bool (vk == 3)) := cell_blk HD4.out 4
  obtain ⟨c0, c1, c2, c3, c4, c5, c6⟩ := seven HX4.out
  obtain ⟨v0, v1, v2⟩ := trio HU4.out
  rw [k3] at b4
  have HK3 := Lib.hid k3
  go_wp2_with fail
  go_end0
  have hl := HW.out.leap HO4.out HD4.out
  rw [HK3.out] at hl
  exact AcP.none rfl hl.1 hl.2

set_option maxRecDepth 100000 in
set_option maxHeartbeats 8000000 in
theorem see_brk8 (f : Int) (tn : Bool) (uo : Option Addr) (um uk : Nat) (nm : ByteArray) (a : Addr) (em ek : Nat) (tb : Option Addr) (tm tk : Nat) (xo xn : Int) (xs : ByteArray) (bo : Option Addr) (xl xk : Nat) (vk vn : Int) (vb : Bool) (w : World) (h : Wk B wb day fa fc F l G false pv gv w) (he : 0 < em) (hx : ∀ V, Below w.heap.size w V → FourX V a (.int .i64 xo) (.int .i64 xn) (.string xs) (.slice bo xl xk))
    (hE : ∀ V, Below w.heap.size w V → Wk B wb day fa fc F l G false pv gv V → Calls Try.prog 44 #[.pointer (some ⟨wb, 0, none⟩), .agg #[.int .i64 xo, .int .i64 xn, .string xs, .slice bo xl xk]] V fun e w' => e = .returned (.agg #[.int .i64 vk, .int .i64 vn, .bool vb]) ∧ Wk B wb day fa fc F l G (vk == 3) pv gv w' ∧ Fr wb pv gv pv gv V w' ∧ Only [wb] V w') (k3 : (vk == 3) = true):
    Calls Try.prog 39 #[.pointer (some ⟨wb, 0, none⟩), .agg #[.int .i64 f, .bool tn, .slice uo um uk, .int .i64 8, .string nm, .slice (some a) em ek, .slice tb tm tk]] w (AcP B wb day fa fc F l G pv gv none w) := by
  have HW := Lib.hid h
  have CX := Lib.hid hx
  have CE := Lib.hid hE
  have e1 : (0 : Int) < (em : Int) := by omega
  clear h hx hE he
  go_enter Try.func39, Try.ntmps39
  go_upto_region 1 with fail
  obtain ⟨W, hW⟩ : ∃ X, w.alloc (.cells #[.int .i64 f, .bool tn, .slice uo um uk, .int .i64 8, .string nm, .slice (some a) em ek, .slice tb tm tk] 70) = X := ⟨_, rfl⟩
  obtain ⟨g1, b1, s1⟩ := seven_made (.int .i64 f) (.bool tn) (.slice uo um uk) (.int .i64 8) (.string nm) (.slice (some a) em ek) (.slice tb tm tk) 70 w W hW
  have GA := Lib.hid (box_four (v0 := .int .i64 xo) (v1 := .int .i64 xn) (v2 := .string xs) (v3 := .slice bo xl xk) (T := 53) g1 b1 s1)
  obtain ⟨z, hz⟩ : ∃ z, z = w.heap.size := ⟨_, rfl⟩
  rw [hW, ← hz]
  rw [← hz] at b1
  obtain ⟨c0, c1, c2, c3, c4, c5, c6⟩ := seven b1
  obtain ⟨y0, y1, y2, y3⟩ := CX.out W g1
  obtain ⟨⟨r0, r1, r2, r3⟩, p0, p1, p2, p3⟩ := new_zero W (.int .i64 0) (.int .i64 0) (.string ⟨#[]⟩) (.slice none 0 0) 53
  have HZ := Lib.hid hz
  have HS1 := Lib.hid s1
  clear hW b1 g1 s1 hz
  go_upto_region 2 with fail
  clear c0 c1 c2 c3 c4 c5 c6 y0 y1 y2 y3 r0 r1 r2 r3 p0 p1 p2 p3
  obtain ⟨W2, hW2⟩ : ∃ X, W.alloc (.cells #[.int .i64 xo, .int .i64 xn, .string xs, .slice bo xl xk] 53) = X := ⟨_, rfl⟩
  obtain ⟨g2, x2, q2⟩ := GA.out W2 hW2
  have s2 : W.heap.size = z + 1 := by rw [HZ.out]; exact HS1.out
  rw [← HZ.out] at x2 q2
  rw [hW2, s2]
  have HG := Lib.hid g2
  have HX := Lib.hid x2
  have HY := Lib.hid q2
  obtain ⟨d0, d1, d2, d3⟩ := quad q2
  clear hW2 g2 x2 q2 GA s2 HS1
  go_upto_region 4 with (go_at_call 44; (with_reducible refine (CE.out _ HG.out (HW.out.next HG.out)).mono ?_); rintro e w3 ⟨rfl, hw3, hf3, ho3⟩; have HW3 := Lib.hid hw3; have HO3 := Lib.hid ho3; clear hw3 hf3 ho3; obtain ⟨⟨r0, r1, r2⟩, p0, p1, p2⟩ := three_zero w3 (.int .i64 0) (.int .i64 0) (.bool false) 99)
  clear d0 d1 d2 d3 r0 r1 r2 p0 p1 p2
  obtain ⟨u, hu⟩ : ∃ u, u = w3.heap.size := ⟨_, rfl⟩
  obtain ⟨W4, hW4⟩ : ∃ X, w3.alloc (.cells #[.int .i64 vk, .int .i64 vn, .bool vb] 99) = X := ⟨_, rfl⟩
  obtain ⟨g4, x4, s4⟩ := three_made (.int .i64 vk) (.int .i64 vn) (.bool vb) 99 w3 W4 hW4
  rw [hW4, ← hu]
  rw [← hu] at x4
  have hwz : wb < z := by rw [HZ.out]; exact HW.out.lt
  have HX4 : Hid (W4.heap[z]? = some (.cells #[.int .i64 f, .bool tn, .slice uo um uk, .int .i64 8, .string nm, .slice (some a) em ek, .slice tb tm tk] 70 (0, 0))) := Lib.hid ((g4.block z (Nat.lt_of_lt_of_le (lt_of_heap HX.out) HO3.out.size)).trans ((HO3.out.block z (lt_of_heap HX.out) (fun hm => by have := List.mem_singleton.1 hm; omega)).trans HX.out))
  have HY4 : Hid (W4.heap[z + 1]? = some (.cells #[.int .i64 xo, .int .i64 xn, .string xs, .slice bo xl xk] 53 (0, 0))) := Lib.hid ((g4.block (z + 1) (Nat.lt_of_lt_of_le (lt_of_heap HY.out) HO3.out.size)).trans ((HO3.out.block (z + 1) (lt_of_heap HY.out) (fun hm => by have := List.mem_singleton.1 hm; omega)).trans HY.out))
  have HU4 := Lib.hid x4
  have HO4 : Hid (Only [wb] w W4) := Lib.hid (((only_of HG.out [wb]).trans HO3.out (fun x hx => .inl hx)).trans (only_of g4 [wb]) (fun x hx => .inl hx))
  have HD4 : Hid (W4.heap[wb]? = some (.cells #[.int .i64 day, .slice fa F.length fc, pv, gv, .bool (vk == 3)] 67 (0, 0))) := Lib.hid ((g4.block wb HW3.out.lt).trans HW3.out.hd)
  have HWZ := Lib.hid hwz
  clear hu hW4 g4 x4 s4 hwz HO3 HW3 HX HY HG
  have b4 : W4.cell? ⟨wb, 4, none⟩ = some (.bool (vk == 3)) := cell_blk HD4.out 4
  obtain ⟨c0, c1, c2, c3, c4, c5, c6⟩ := seven HX4.out
  obtain ⟨v0, v1, v2⟩ := trio HU4.out
  rw [k3] at b4
  have HK3 := Lib.hid k3
  go_wp2_with fail
  go_end0
  have hl := HW.out.leap HO4.out HD4.out
  rw [HK3.out] at hl
  exact AcP.none rfl hl.1 hl.2

set_option maxRecDepth 100000 in
set_option maxHeartbeats 8000000 in
theorem see_end8 (f : Int) (tn : Bool) (uo : Option Addr) (um uk : Nat) (nm : ByteArray) (a : Addr) (em ek : Nat) (tb : Option Addr) (tm tk : Nat) (xo xn : Int) (xs : ByteArray) (bo : Option Addr) (xl xk : Nat) (vk vn : Int) (vb : Bool) (w : World) (h : Wk B wb day fa fc F l G false pv gv w) (he : 0 < em) (hx : ∀ V, Below w.heap.size w V → FourX V a (.int .i64 xo) (.int .i64 xn) (.string xs) (.slice bo xl xk))
    (hE : ∀ V, Below w.heap.size w V → Wk B wb day fa fc F l G false pv gv V → Calls Try.prog 44 #[.pointer (some ⟨wb, 0, none⟩), .agg #[.int .i64 xo, .int .i64 xn, .string xs, .slice bo xl xk]] V fun e w' => e = .returned (.agg #[.int .i64 vk, .int .i64 vn, .bool vb]) ∧ Wk B wb day fa fc F l G (vk == 3) pv gv w' ∧ Fr wb pv gv pv gv V w' ∧ Only [wb] V w') (k3 : (vk == 3) = false) (ky : (vk == 2 && vb) = true):
    Calls Try.prog 39 #[.pointer (some ⟨wb, 0, none⟩), .agg #[.int .i64 f, .bool tn, .slice uo um uk, .int .i64 8, .string nm, .slice (some a) em ek, .slice tb tm tk]] w (AcP B wb day fa fc F l G pv gv (some ([], [])) w) := by
  have HW := Lib.hid h
  have CX := Lib.hid hx
  have CE := Lib.hid hE
  have e1 : (0 : Int) < (em : Int) := by omega
  clear h hx hE he
  go_enter Try.func39, Try.ntmps39
  go_upto_region 1 with fail
  obtain ⟨W, hW⟩ : ∃ X, w.alloc (.cells #[.int .i64 f, .bool tn, .slice uo um uk, .int .i64 8, .string nm, .slice (some a) em ek, .slice tb tm tk] 70) = X := ⟨_, rfl⟩
  obtain ⟨g1, b1, s1⟩ := seven_made (.int .i64 f) (.bool tn) (.slice uo um uk) (.int .i64 8) (.string nm) (.slice (some a) em ek) (.slice tb tm tk) 70 w W hW
  have GA := Lib.hid (box_four (v0 := .int .i64 xo) (v1 := .int .i64 xn) (v2 := .string xs) (v3 := .slice bo xl xk) (T := 53) g1 b1 s1)
  obtain ⟨z, hz⟩ : ∃ z, z = w.heap.size := ⟨_, rfl⟩
  rw [hW, ← hz]
  rw [← hz] at b1
  obtain ⟨c0, c1, c2, c3, c4, c5, c6⟩ := seven b1
  obtain ⟨y0, y1, y2, y3⟩ := CX.out W g1
  obtain ⟨⟨r0, r1, r2, r3⟩, p0, p1, p2, p3⟩ := new_zero W (.int .i64 0) (.int .i64 0) (.string ⟨#[]⟩) (.slice none 0 0) 53
  have HZ := Lib.hid hz
  have HS1 := Lib.hid s1
  clear hW b1 g1 s1 hz
  go_upto_region 2 with fail
  clear c0 c1 c2 c3 c4 c5 c6 y0 y1 y2 y3 r0 r1 r2 r3 p0 p1 p2 p3
  obtain ⟨W2, hW2⟩ : ∃ X, W.alloc (.cells #[.int .i64 xo, .int .i64 xn, .string xs, .slice bo xl xk] 53) = X := ⟨_, rfl⟩
  obtain ⟨g2, x2, q2⟩ := GA.out W2 hW2
  have s2 : W.heap.size = z + 1 := by rw [HZ.out]; exact HS1.out
  rw [← HZ.out] at x2 q2
  rw [hW2, s2]
  have HG := Lib.hid g2
  have HX := Lib.hid x2
  have HY := Lib.hid q2
  obtain ⟨d0, d1, d2, d3⟩ := quad q2
  clear hW2 g2 x2 q2 GA s2 HS1
  go_upto_region 4 with (go_at_call 44; (with_reducible refine (CE.out _ HG.out (HW.out.next HG.out)).mono ?_); rintro e w3 ⟨rfl, hw3, hf3, ho3⟩; have HW3 := Lib.hid hw3; have HO3 := Lib.hid ho3; clear hw3 hf3 ho3; obtain ⟨⟨r0, r1, r2⟩, p0, p1, p2⟩ := three_zero w3 (.int .i64 0) (.int .i64 0) (.bool false) 99)
  clear d0 d1 d2 d3 r0 r1 r2 p0 p1 p2
  obtain ⟨u, hu⟩ : ∃ u, u = w3.heap.size := ⟨_, rfl⟩
  obtain ⟨W4, hW4⟩ : ∃ X, w3.alloc (.cells #[.int .i64 vk, .int .i64 vn, .bool vb] 99) = X := ⟨_, rfl⟩
  obtain ⟨g4, x4, s4⟩ := three_made (.int .i64 vk) (.int .i64 vn) (.bool vb) 99 w3 W4 hW4
  rw [hW4, ← hu]
  rw [← hu] at x4
  have hwz : wb < z := by rw [HZ.out]; exact HW.out.lt
  have HX4 : Hid (W4.heap[z]? = some (.cells #[.int .i64 f, .bool tn, .slice uo um uk, .int .i64 8, .string nm, .slice (some a) em ek, .slice tb tm tk] 70 (0, 0))) := Lib.hid ((g4.block z (Nat.lt_of_lt_of_le (lt_of_heap HX.out) HO3.out.size)).trans ((HO3.out.block z (lt_of_heap HX.out) (fun hm => by have := List.mem_singleton.1 hm; omega)).trans HX.out))
  have HY4 : Hid (W4.heap[z + 1]? = some (.cells #[.int .i64 xo, .int .i64 xn, .string xs, .slice bo xl xk] 53 (0, 0))) := Lib.hid ((g4.block (z + 1) (Nat.lt_of_lt_of_le (lt_of_heap HY.out) HO3.out.size)).trans ((HO3.out.block (z + 1) (lt_of_heap HY.out) (fun hm => by have := List.mem_singleton.1 hm; omega)).trans HY.out))
  have HU4 := Lib.hid x4
  have HO4 : Hid (Only [wb] w W4) := Lib.hid (((only_of HG.out [wb]).trans HO3.out (fun x hx => .inl hx)).trans (only_of g4 [wb]) (fun x hx => .inl hx))
  have HD4 : Hid (W4.heap[wb]? = some (.cells #[.int .i64 day, .slice fa F.length fc, pv, gv, .bool (vk == 3)] 67 (0, 0))) := Lib.hid ((g4.block wb HW3.out.lt).trans HW3.out.hd)
  have HWZ := Lib.hid hwz
  clear hu hW4 g4 x4 s4 hwz HO3 HW3 HX HY HG
  have b4 : W4.cell? ⟨wb, 4, none⟩ = some (.bool (vk == 3)) := cell_blk HD4.out 4
  obtain ⟨c0, c1, c2, c3, c4, c5, c6⟩ := seven HX4.out
  obtain ⟨v0, v1, v2⟩ := trio HU4.out
  rw [k3] at b4
  have HK3 := Lib.hid k3
  have HY2 := Lib.hid ky
  go_wp2_with (go_at_call 43; (with_reducible refine (yes_any ⟨vk, vn, vb⟩ _).mono ?_); rintro e w5 ⟨he5, hb5⟩; obtain rfl : e = Ending.returned (.bool true) := (by rw [he5]; exact congrArg (fun b => Ending.returned (Value.bool b)) HY2.out); have HB5 := Lib.hid hb5; clear he5 hb5)
  go_end0
  have hd := (HB5.out.block wb (lt_of_heap HD4.out)).trans HD4.out
  rw [HK3.out] at hd
  have hl := HW.out.leap (HO4.out.trans (only_of HB5.out [wb]) (fun x hx => .inl hx)) hd
  exact AcP.nil rfl hl.1 hl.2

set_option maxRecDepth 100000 in
set_option maxHeartbeats 8000000 in
theorem see_yes6 (f : Int) (tn : Bool) (uo : Option Addr) (um uk : Nat) (nm : ByteArray) (a : Addr) (em ek : Nat) (tb : Option Addr) (tm tk : Nat) (xo xn : Int) (xs : ByteArray) (bo : Option Addr) (xl xk : Nat) (vk vn : Int) (vb : Bool) (w : World) (h : Wk B wb day fa fc F l G false pv gv w) (he : 0 < em) (hx : ∀ V, Below w.heap.size w V → FourX V a (.int .i64 xo) (.int .i64 xn) (.string xs) (.slice bo xl xk))
    (hE : ∀ V, Below w.heap.size w V → Wk B wb day fa fc F l G false pv gv V → Calls Try.prog 44 #[.pointer (some ⟨wb, 0, none⟩), .agg #[.int .i64 xo, .int .i64 xn, .string xs, .slice bo xl xk]] V fun e w' => e = .returned (.agg #[.int .i64 vk, .int .i64 vn, .bool vb]) ∧ Wk B wb day fa fc F l G (vk == 3) pv gv w' ∧ Fr wb pv gv pv gv V w' ∧ Only [wb] V w') (k3 : (vk == 3) = false) (ky : (vk == 2 && vb) = true) (g : Got) (hT : ∀ V, Fr wb pv gv pv gv w V → Wk B wb day fa fc F l G false pv gv V → Calls Try.prog 38 #[.pointer (some ⟨wb, 0, none⟩), .agg #[.int .i64 f, .bool tn, .slice uo um uk, .int .i64 6, .string nm, .slice (some a) em ek, .slice tb tm tk], .int .i64 0] V (AcP B wb day fa fc F l G pv gv g V)) :
    Calls Try.prog 39 #[.pointer (some ⟨wb, 0, none⟩), .agg #[.int .i64 f, .bool tn, .slice uo um uk, .int .i64 6, .string nm, .slice (some a) em ek, .slice tb tm tk]] w (AcP B wb day fa fc F l G pv gv g w) := by
  have CT := Lib.hid hT
  clear hT
  have HW := Lib.hid h
  have CX := Lib.hid hx
  have CE := Lib.hid hE
  have e1 : (0 : Int) < (em : Int) := by omega
  clear h hx hE he
  go_enter Try.func39, Try.ntmps39
  go_upto_region 1 with fail
  obtain ⟨W, hW⟩ : ∃ X, w.alloc (.cells #[.int .i64 f, .bool tn, .slice uo um uk, .int .i64 6, .string nm, .slice (some a) em ek, .slice tb tm tk] 70) = X := ⟨_, rfl⟩
  obtain ⟨g1, b1, s1⟩ := seven_made (.int .i64 f) (.bool tn) (.slice uo um uk) (.int .i64 6) (.string nm) (.slice (some a) em ek) (.slice tb tm tk) 70 w W hW
  have GA := Lib.hid (box_four (v0 := .int .i64 xo) (v1 := .int .i64 xn) (v2 := .string xs) (v3 := .slice bo xl xk) (T := 53) g1 b1 s1)
  obtain ⟨z, hz⟩ : ∃ z, z = w.heap.size := ⟨_, rfl⟩
  rw [hW, ← hz]
  rw [← hz] at b1
  obtain ⟨c0, c1, c2, c3, c4, c5, c6⟩ := seven b1
  obtain ⟨y0, y1, y2, y3⟩ := CX.out W g1
  obtain ⟨⟨r0, r1, r2, r3⟩, p0, p1, p2, p3⟩ := new_zero W (.int .i64 0) (.int .i64 0) (.string ⟨#[]⟩) (.slice none 0 0) 53
  have HZ := Lib.hid hz
  have HS1 := Lib.hid s1
  clear hW b1 g1 s1 hz
  go_upto_region 2 with fail
  clear c0 c1 c2 c3 c4 c5 c6 y0 y1 y2 y3 r0 r1 r2 r3 p0 p1 p2 p3
  obtain ⟨W2, hW2⟩ : ∃ X, W.alloc (.cells #[.int .i64 xo, .int .i64 xn, .string xs, .slice bo xl xk] 53) = X := ⟨_, rfl⟩
  obtain ⟨g2, x2, q2⟩ := GA.out W2 hW2
  have s2 : W.heap.size = z + 1 := by rw [HZ.out]; exact HS1.out
  rw [← HZ.out] at x2 q2
  rw [hW2, s2]
  have HG := Lib.hid g2
  have HX := Lib.hid x2
  have HY := Lib.hid q2
  obtain ⟨d0, d1, d2, d3⟩ := quad q2
  clear hW2 g2 x2 q2 GA s2 HS1
  go_upto_region 4 with (go_at_call 44; (with_reducible refine (CE.out _ HG.out (HW.out.next HG.out)).mono ?_); rintro e w3 ⟨rfl, hw3, hf3, ho3⟩; have HW3 := Lib.hid hw3; have HO3 := Lib.hid ho3; clear hw3 hf3 ho3; obtain ⟨⟨r0, r1, r2⟩, p0, p1, p2⟩ := three_zero w3 (.int .i64 0) (.int .i64 0) (.bool false) 99)
  clear d0 d1 d2 d3 r0 r1 r2 p0 p1 p2
  obtain ⟨u, hu⟩ : ∃ u, u = w3.heap.size := ⟨_, rfl⟩
  obtain ⟨W4, hW4⟩ : ∃ X, w3.alloc (.cells #[.int .i64 vk, .int .i64 vn, .bool vb] 99) = X := ⟨_, rfl⟩
  obtain ⟨g4, x4, s4⟩ := three_made (.int .i64 vk) (.int .i64 vn) (.bool vb) 99 w3 W4 hW4
  rw [hW4, ← hu]
  rw [← hu] at x4
  have hwz : wb < z := by rw [HZ.out]; exact HW.out.lt
  have HX4 : Hid (W4.heap[z]? = some (.cells #[.int .i64 f, .bool tn, .slice uo um uk, .int .i64 6, .string nm, .slice (some a) em ek, .slice tb tm tk] 70 (0, 0))) := Lib.hid ((g4.block z (Nat.lt_of_lt_of_le (lt_of_heap HX.out) HO3.out.size)).trans ((HO3.out.block z (lt_of_heap HX.out) (fun hm => by have := List.mem_singleton.1 hm; omega)).trans HX.out))
  have HY4 : Hid (W4.heap[z + 1]? = some (.cells #[.int .i64 xo, .int .i64 xn, .string xs, .slice bo xl xk] 53 (0, 0))) := Lib.hid ((g4.block (z + 1) (Nat.lt_of_lt_of_le (lt_of_heap HY.out) HO3.out.size)).trans ((HO3.out.block (z + 1) (lt_of_heap HY.out) (fun hm => by have := List.mem_singleton.1 hm; omega)).trans HY.out))
  have HU4 := Lib.hid x4
  have HO4 : Hid (Only [wb] w W4) := Lib.hid (((only_of HG.out [wb]).trans HO3.out (fun x hx => .inl hx)).trans (only_of g4 [wb]) (fun x hx => .inl hx))
  have HD4 : Hid (W4.heap[wb]? = some (.cells #[.int .i64 day, .slice fa F.length fc, pv, gv, .bool (vk == 3)] 67 (0, 0))) := Lib.hid ((g4.block wb HW3.out.lt).trans HW3.out.hd)
  have HWZ := Lib.hid hwz
  clear hu hW4 g4 x4 s4 hwz HO3 HW3 HX HY HG
  have b4 : W4.cell? ⟨wb, 4, none⟩ = some (.bool (vk == 3)) := cell_blk HD4.out 4
  obtain ⟨c0, c1, c2, c3, c4, c5, c6⟩ := seven HX4.out
  obtain ⟨v0, v1, v2⟩ := trio HU4.out
  rw [k3] at b4
  have HK3 := Lib.hid k3
  have HY2 := Lib.hid ky
  go_upto_region 10 with (go_at_call 43; (with_reducible refine (yes_any ⟨vk, vn, vb⟩ _).mono ?_); rintro e w5 ⟨he5, hb5⟩; obtain rfl : e = Ending.returned (.bool true) := (by rw [he5]; exact congrArg (fun b => Ending.returned (Value.bool b)) HY2.out); have HB5 := Lib.hid hb5; clear he5 hb5)
  have HX5 : Hid (w5.heap[z]? = some (.cells #[.int .i64 f, .bool tn, .slice uo um uk, .int .i64 6, .string nm, .slice (some a) em ek, .slice tb tm tk] 70 (0, 0))) := Lib.hid ((HB5.out.block z (lt_of_heap HX4.out)).trans HX4.out)
  have HU5 : Hid (w5.heap[u]? = some (.cells #[.int .i64 vk, .int .i64 vn, .bool vb] 99 (0, 0))) := Lib.hid ((HB5.out.block u (lt_of_heap HU4.out)).trans HU4.out)
  have HO5 : Hid (Only [wb] w w5) := Lib.hid (HO4.out.trans (only_of HB5.out [wb]) (fun x hx => .inl hx))
  have HD5 : Hid (w5.heap[wb]? = some (.cells #[.int .i64 day, .slice fa F.length fc, pv, gv, .bool false] 67 (0, 0))) := Lib.hid (by have := (HB5.out.block wb (lt_of_heap HD4.out)).trans HD4.out; rw [HK3.out] at this; exact this)
  clear c0 c1 c2 c3 c4 c5 c6 v0 v1 v2 b4
  obtain ⟨c0, c1, c2, c3, c4, c5, c6⟩ := seven HX5.out
  obtain ⟨v0, v1, v2⟩ := trio HU5.out
  have hl := HW.out.leap HO5.out HD5.out
  have CV := Lib.hid (CT.out w5 hl.2 hl.1)
  have HF5 := Lib.hid hl.2
  clear hl
  go_wp2_with (go_at_call 38; (with_reducible refine CV.out.mono ?_); rintro e w9 ha; have HA9 := Lib.hid ha; obtain rfl : e = Ending.returned (.tuple #[]) := ha.1; clear ha)
  go_end0
  exact HA9.out.from HF5.out

set_option maxRecDepth 100000 in
set_option maxHeartbeats 8000000 in
theorem see_stay6 (f : Int) (tn : Bool) (uo : Option Addr) (um uk : Nat) (nm : ByteArray) (a : Addr) (em ek : Nat) (tb : Option Addr) (tm tk : Nat) (xo xn : Int) (xs : ByteArray) (bo : Option Addr) (xl xk : Nat) (vk vn : Int) (vb : Bool) (w : World) (h : Wk B wb day fa fc F l G false pv gv w) (he : 0 < em) (hx : ∀ V, Below w.heap.size w V → FourX V a (.int .i64 xo) (.int .i64 xn) (.string xs) (.slice bo xl xk))
    (hE : ∀ V, Below w.heap.size w V → Wk B wb day fa fc F l G false pv gv V → Calls Try.prog 44 #[.pointer (some ⟨wb, 0, none⟩), .agg #[.int .i64 xo, .int .i64 xn, .string xs, .slice bo xl xk]] V fun e w' => e = .returned (.agg #[.int .i64 vk, .int .i64 vn, .bool vb]) ∧ Wk B wb day fa fc F l G (vk == 3) pv gv w' ∧ Fr wb pv gv pv gv V w' ∧ Only [wb] V w') (k3 : (vk == 3) = false) (ky : (vk == 2 && vb) = false) (k1 : (vk == 1) = false) (g : Got) (hT : ∀ V, Fr wb pv gv pv gv w V → Wk B wb day fa fc F l G false pv gv V → Calls Try.prog 40 #[.pointer (some ⟨wb, 0, none⟩), .agg #[.int .i64 f, .bool tn, .slice uo um uk, .int .i64 6, .string nm, .slice (some a) em ek, .slice tb tm tk]] V (AcP B wb day fa fc F l G pv gv g V)) :
    Calls Try.prog 39 #[.pointer (some ⟨wb, 0, none⟩), .agg #[.int .i64 f, .bool tn, .slice uo um uk, .int .i64 6, .string nm, .slice (some a) em ek, .slice tb tm tk]] w (AcP B wb day fa fc F l G pv gv g w) := by
  have CT := Lib.hid hT
  clear hT
  have HW := Lib.hid h
  have CX := Lib.hid hx
  have CE := Lib.hid hE
  have e1 : (0 : Int) < (em : Int) := by omega
  clear h hx hE he
  go_enter Try.func39, Try.ntmps39
  go_upto_region 1 with fail
  obtain ⟨W, hW⟩ : ∃ X, w.alloc (.cells #[.int .i64 f, .bool tn, .slice uo um uk, .int .i64 6, .string nm, .slice (some a) em ek, .slice tb tm tk] 70) = X := ⟨_, rfl⟩
  obtain ⟨g1, b1, s1⟩ := seven_made (.int .i64 f) (.bool tn) (.slice uo um uk) (.int .i64 6) (.string nm) (.slice (some a) em ek) (.slice tb tm tk) 70 w W hW
  have GA := Lib.hid (box_four (v0 := .int .i64 xo) (v1 := .int .i64 xn) (v2 := .string xs) (v3 := .slice bo xl xk) (T := 53) g1 b1 s1)
  obtain ⟨z, hz⟩ : ∃ z, z = w.heap.size := ⟨_, rfl⟩
  rw [hW, ← hz]
  rw [← hz] at b1
  obtain ⟨c0, c1, c2, c3, c4, c5, c6⟩ := seven b1
  obtain ⟨y0, y1, y2, y3⟩ := CX.out W g1
  obtain ⟨⟨r0, r1, r2, r3⟩, p0, p1, p2, p3⟩ := new_zero W (.int .i64 0) (.int .i64 0) (.string ⟨#[]⟩) (.slice none 0 0) 53
  have HZ := Lib.hid hz
  have HS1 := Lib.hid s1
  clear hW b1 g1 s1 hz
  go_upto_region 2 with fail
  clear c0 c1 c2 c3 c4 c5 c6 y0 y1 y2 y3 r0 r1 r2 r3 p0 p1 p2 p3
  obtain ⟨W2, hW2⟩ : ∃ X, W.alloc (.cells #[.int .i64 xo, .int .i64 xn, .string xs, .slice bo xl xk] 53) = X := ⟨_, rfl⟩
  obtain ⟨g2, x2, q2⟩ := GA.out W2 hW2
  have s2 : W.heap.size = z + 1 := by rw [HZ.out]; exact HS1.out
  rw [← HZ.out] at x2 q2
  rw [hW2, s2]
  have HG := Lib.hid g2
  have HX := Lib.hid x2
  have HY := Lib.hid q2
  obtain ⟨d0, d1, d2, d3⟩ := quad q2
  clear hW2 g2 x2 q2 GA s2 HS1
  go_upto_region 4 with (go_at_call 44; (with_reducible refine (CE.out _ HG.out (HW.out.next HG.out)).mono ?_); rintro e w3 ⟨rfl, hw3, hf3, ho3⟩; have HW3 := Lib.hid hw3; have HO3 := Lib.hid ho3; clear hw3 hf3 ho3; obtain ⟨⟨r0, r1, r2⟩, p0, p1, p2⟩ := three_zero w3 (.int .i64 0) (.int .i64 0) (.bool false) 99)
  clear d0 d1 d2 d3 r0 r1 r2 p0 p1 p2
  obtain ⟨u, hu⟩ : ∃ u, u = w3.heap.size := ⟨_, rfl⟩
  obtain ⟨W4, hW4⟩ : ∃ X, w3.alloc (.cells #[.int .i64 vk, .int .i64 vn, .bool vb] 99) = X := ⟨_, rfl⟩
  obtain ⟨g4, x4, s4⟩ := three_made (.int .i64 vk) (.int .i64 vn) (.bool vb) 99 w3 W4 hW4
  rw [hW4, ← hu]
  rw [← hu] at x4
  have hwz : wb < z := by rw [HZ.out]; exact HW.out.lt
  have HX4 : Hid (W4.heap[z]? = some (.cells #[.int .i64 f, .bool tn, .slice uo um uk, .int .i64 6, .string nm, .slice (some a) em ek, .slice tb tm tk] 70 (0, 0))) := Lib.hid ((g4.block z (Nat.lt_of_lt_of_le (lt_of_heap HX.out) HO3.out.size)).trans ((HO3.out.block z (lt_of_heap HX.out) (fun hm => by have := List.mem_singleton.1 hm; omega)).trans HX.out))
  have HY4 : Hid (W4.heap[z + 1]? = some (.cells #[.int .i64 xo, .int .i64 xn, .string xs, .slice bo xl xk] 53 (0, 0))) := Lib.hid ((g4.block (z + 1) (Nat.lt_of_lt_of_le (lt_of_heap HY.out) HO3.out.size)).trans ((HO3.out.block (z + 1) (lt_of_heap HY.out) (fun hm => by have := List.mem_singleton.1 hm; omega)).trans HY.out))
  have HU4 := Lib.hid x4
  have HO4 : Hid (Only [wb] w W4) := Lib.hid (((only_of HG.out [wb]).trans HO3.out (fun x hx => .inl hx)).trans (only_of g4 [wb]) (fun x hx => .inl hx))
  have HD4 : Hid (W4.heap[wb]? = some (.cells #[.int .i64 day, .slice fa F.length fc, pv, gv, .bool (vk == 3)] 67 (0, 0))) := Lib.hid ((g4.block wb HW3.out.lt).trans HW3.out.hd)
  have HWZ := Lib.hid hwz
  clear hu hW4 g4 x4 s4 hwz HO3 HW3 HX HY HG
  have b4 : W4.cell? ⟨wb, 4, none⟩ = some (.bool (vk == 3)) := cell_blk HD4.out 4
  obtain ⟨c0, c1, c2, c3, c4, c5, c6⟩ := seven HX4.out
  obtain ⟨v0, v1, v2⟩ := trio HU4.out
  rw [k3] at b4
  have HK3 := Lib.hid k3
  have HY2 := Lib.hid ky
  go_upto_region 11 with (go_at_call 43; (with_reducible refine (yes_any ⟨vk, vn, vb⟩ _).mono ?_); rintro e w5 ⟨he5, hb5⟩; obtain rfl : e = Ending.returned (.bool false) := (by rw [he5]; exact congrArg (fun b => Ending.returned (Value.bool b)) HY2.out); have HB5 := Lib.hid hb5; clear he5 hb5)
  have HX5 : Hid (w5.heap[z]? = some (.cells #[.int .i64 f, .bool tn, .slice uo um uk, .int .i64 6, .string nm, .slice (some a) em ek, .slice tb tm tk] 70 (0, 0))) := Lib.hid ((HB5.out.block z (lt_of_heap HX4.out)).trans HX4.out)
  have HU5 : Hid (w5.heap[u]? = some (.cells #[.int .i64 vk, .int .i64 vn, .bool vb] 99 (0, 0))) := Lib.hid ((HB5.out.block u (lt_of_heap HU4.out)).trans HU4.out)
  have HO5 : Hid (Only [wb] w w5) := Lib.hid (HO4.out.trans (only_of HB5.out [wb]) (fun x hx => .inl hx))
  have HD5 : Hid (w5.heap[wb]? = some (.cells #[.int .i64 day, .slice fa F.length fc, pv, gv, .bool false] 67 (0, 0))) := Lib.hid (by have := (HB5.out.block wb (lt_of_heap HD4.out)).trans HD4.out; rw [HK3.out] at this; exact this)
  clear c0 c1 c2 c3 c4 c5 c6 v0 v1 v2 b4
  obtain ⟨c0, c1, c2, c3, c4, c5, c6⟩ := seven HX5.out
  obtain ⟨v0, v1, v2⟩ := trio HU5.out
  have hl := HW.out.leap HO5.out HD5.out
  have CV := Lib.hid (CT.out w5 hl.2 hl.1)
  have HF5 := Lib.hid hl.2
  clear hl
  go_wp2_with (go_at_call 40; (with_reducible refine CV.out.mono ?_); rintro e w9 ha; have HA9 := Lib.hid ha; obtain rfl : e = Ending.returned (.tuple #[]) := ha.1; clear ha)
  go_end0
  exact HA9.out.from HF5.out

set_option maxRecDepth 100000 in
set_option maxHeartbeats 8000000 in
theorem see_num6 (f : Int) (tn : Bool) (uo : Option Addr) (um uk : Nat) (nm : ByteArray) (a : Addr) (em ek : Nat) (tb : Option Addr) (tm tk : Nat) (xo xn : Int) (xs : ByteArray) (bo : Option Addr) (xl xk : Nat) (vk vn : Int) (vb : Bool) (w : World) (h : Wk B wb day fa fc F l G false pv gv w) (he : 0 < em) (hx : ∀ V, Below w.heap.size w V → FourX V a (.int .i64 xo) (.int .i64 xn) (.string xs) (.slice bo xl xk))
    (hE : ∀ V, Below w.heap.size w V → Wk B wb day fa fc F l G false pv gv V → Calls Try.prog 44 #[.pointer (some ⟨wb, 0, none⟩), .agg #[.int .i64 xo, .int .i64 xn, .string xs, .slice bo xl xk]] V fun e w' => e = .returned (.agg #[.int .i64 vk, .int .i64 vn, .bool vb]) ∧ Wk B wb day fa fc F l G (vk == 3) pv gv w' ∧ Fr wb pv gv pv gv V w' ∧ Only [wb] V w') (k3 : (vk == 3) = false) (ky : (vk == 2 && vb) = false) (k1 : (vk == 1) = true) (f0 : -9223372036854775808 ≤ f ∧ f ≤ 9223372036854775807) (n0 : -9223372036854775808 ≤ vn ∧ vn ≤ 9223372036854775807) (hin : -9223372036854775808 ≤ f * vn ∧ f * vn ≤ 9223372036854775807) (g : Got) (hT : ∀ V, Fr wb pv gv pv gv w V → Wk B wb day fa fc F l G false pv gv V → Calls Try.prog 38 #[.pointer (some ⟨wb, 0, none⟩), .agg #[.int .i64 (f * vn), .bool tn, .slice uo um uk, .int .i64 6, .string nm, .slice (some a) em ek, .slice tb tm tk], .int .i64 0] V (AcP B wb day fa fc F l G pv gv g V)) :
    Calls Try.prog 39 #[.pointer (some ⟨wb, 0, none⟩), .agg #[.int .i64 f, .bool tn, .slice uo um uk, .int .i64 6, .string nm, .slice (some a) em ek, .slice tb tm tk]] w (AcP B wb day fa fc F l G pv gv g w) := by
  have CT := Lib.hid hT
  have CM := Lib.hid fun V => Nu.mul_num f vn f0.1 f0.2 n0.1 n0.2 V
  have HIN := Lib.hid hin
  clear hT hin f0 n0
  have HW := Lib.hid h
  have CX := Lib.hid hx
  have CE := Lib.hid hE
  have e1 : (0 : Int) < (em : Int) := by omega
  clear h hx hE he
  go_enter Try.func39, Try.ntmps39
  go_upto_region 1 with fail
  obtain ⟨W, hW⟩ : ∃ X, w.alloc (.cells #[.int .i64 f, .bool tn, .slice uo um uk, .int .i64 6, .string nm, .slice (some a) em ek, .slice tb tm tk] 70) = X := ⟨_, rfl⟩
  obtain ⟨g1, b1, s1⟩ := seven_made (.int .i64 f) (.bool tn) (.slice uo um uk) (.int .i64 6) (.string nm) (.slice (some a) em ek) (.slice tb tm tk) 70 w W hW
  have GA := Lib.hid (box_four (v0 := .int .i64 xo) (v1 := .int .i64 xn) (v2 := .string xs) (v3 := .slice bo xl xk) (T := 53) g1 b1 s1)
  obtain ⟨z, hz⟩ : ∃ z, z = w.heap.size := ⟨_, rfl⟩
  rw [hW, ← hz]
  rw [← hz] at b1
  obtain ⟨c0, c1, c2, c3, c4, c5, c6⟩ := seven b1
  obtain ⟨y0, y1, y2, y3⟩ := CX.out W g1
  obtain ⟨⟨r0, r1, r2, r3⟩, p0, p1, p2, p3⟩ := new_zero W (.int .i64 0) (.int .i64 0) (.string ⟨#[]⟩) (.slice none 0 0) 53
  have HZ := Lib.hid hz
  have HS1 := Lib.hid s1
  clear hW b1 g1 s1 hz
  go_upto_region 2 with fail
  clear c0 c1 c2 c3 c4 c5 c6 y0 y1 y2 y3 r0 r1 r2 r3 p0 p1 p2 p3
  obtain ⟨W2, hW2⟩ : ∃ X, W.alloc (.cells #[.int .i64 xo, .int .i64 xn, .string xs, .slice bo xl xk] 53) = X := ⟨_, rfl⟩
  obtain ⟨g2, x2, q2⟩ := GA.out W2 hW2
  have s2 : W.heap.size = z + 1 := by rw [HZ.out]; exact HS1.out
  rw [← HZ.out] at x2 q2
  rw [hW2, s2]
  have HG := Lib.hid g2
  have HX := Lib.hid x2
  have HY := Lib.hid q2
  obtain ⟨d0, d1, d2, d3⟩ := quad q2
  clear hW2 g2 x2 q2 GA s2 HS1
  go_upto_region 4 with (go_at_call 44; (with_reducible refine (CE.out _ HG.out (HW.out.next HG.out)).mono ?_); rintro e w3 ⟨rfl, hw3, hf3, ho3⟩; have HW3 := Lib.hid hw3; have HO3 := Lib.hid ho3; clear hw3 hf3 ho3; obtain ⟨⟨r0, r1, r2⟩, p0, p1, p2⟩ := three_zero w3 (.int .i64 0) (.int .i64 0) (.bool false) 99)
  clear d0 d1 d2 d3 r0 r1 r2 p0 p1 p2
  obtain ⟨u, hu⟩ : ∃ u, u = w3.heap.size := ⟨_, rfl⟩
  obtain ⟨W4, hW4⟩ : ∃ X, w3.alloc (.cells #[.int .i64 vk, .int .i64 vn, .bool vb] 99) = X := ⟨_, rfl⟩
  obtain ⟨g4, x4, s4⟩ := three_made (.int .i64 vk) (.int .i64 vn) (.bool vb) 99 w3 W4 hW4
  rw [hW4, ← hu]
  rw [← hu] at x4
  have hwz : wb < z := by rw [HZ.out]; exact HW.out.lt
  have HX4 : Hid (W4.heap[z]? = some (.cells #[.int .i64 f, .bool tn, .slice uo um uk, .int .i64 6, .string nm, .slice (some a) em ek, .slice tb tm tk] 70 (0, 0))) := Lib.hid ((g4.block z (Nat.lt_of_lt_of_le (lt_of_heap HX.out) HO3.out.size)).trans ((HO3.out.block z (lt_of_heap HX.out) (fun hm => by have := List.mem_singleton.1 hm; omega)).trans HX.out))
  have HY4 : Hid (W4.heap[z + 1]? = some (.cells #[.int .i64 xo, .int .i64 xn, .string xs, .slice bo xl xk] 53 (0, 0))) := Lib.hid ((g4.block (z + 1) (Nat.lt_of_lt_of_le (lt_of_heap HY.out) HO3.out.size)).trans ((HO3.out.block (z + 1) (lt_of_heap HY.out) (fun hm => by have := List.mem_singleton.1 hm; omega)).trans HY.out))
  have HU4 := Lib.hid x4
  have HO4 : Hid (Only [wb] w W4) := Lib.hid (((only_of HG.out [wb]).trans HO3.out (fun x hx => .inl hx)).trans (only_of g4 [wb]) (fun x hx => .inl hx))
  have HD4 : Hid (W4.heap[wb]? = some (.cells #[.int .i64 day, .slice fa F.length fc, pv, gv, .bool (vk == 3)] 67 (0, 0))) := Lib.hid ((g4.block wb HW3.out.lt).trans HW3.out.hd)
  have HWZ := Lib.hid hwz
  clear hu hW4 g4 x4 s4 hwz HO3 HW3 HX HY HG
  have b4 : W4.cell? ⟨wb, 4, none⟩ = some (.bool (vk == 3)) := cell_blk HD4.out 4
  obtain ⟨c0, c1, c2, c3, c4, c5, c6⟩ := seven HX4.out
  obtain ⟨v0, v1, v2⟩ := trio HU4.out
  rw [k3] at b4
  have HK3 := Lib.hid k3
  have HY2 := Lib.hid ky
  go_upto_region 11 with (go_at_call 43; (with_reducible refine (yes_any ⟨vk, vn, vb⟩ _).mono ?_); rintro e w5 ⟨he5, hb5⟩; obtain rfl : e = Ending.returned (.bool false) := (by rw [he5]; exact congrArg (fun b => Ending.returned (Value.bool b)) HY2.out); have HB5 := Lib.hid hb5; clear he5 hb5)
  have HX5 : Hid (w5.heap[z]? = some (.cells #[.int .i64 f, .bool tn, .slice uo um uk, .int .i64 6, .string nm, .slice (some a) em ek, .slice tb tm tk] 70 (0, 0))) := Lib.hid ((HB5.out.block z (lt_of_heap HX4.out)).trans HX4.out)
  have HU5 : Hid (w5.heap[u]? = some (.cells #[.int .i64 vk, .int .i64 vn, .bool vb] 99 (0, 0))) := Lib.hid ((HB5.out.block u (lt_of_heap HU4.out)).trans HU4.out)
  have HO5 : Hid (Only [wb] w w5) := Lib.hid (HO4.out.trans (only_of HB5.out [wb]) (fun x hx => .inl hx))
  have HD5 : Hid (w5.heap[wb]? = some (.cells #[.int .i64 day, .slice fa F.length fc, pv, gv, .bool false] 67 (0, 0))) := Lib.hid (by have := (HB5.out.block wb (lt_of_heap HD4.out)).trans HD4.out; rw [HK3.out] at this; exact this)
  clear c0 c1 c2 c3 c4 c5 c6 v0 v1 v2 b4
  obtain ⟨c0, c1, c2, c3, c4, c5, c6⟩ := seven HX5.out
  obtain ⟨v0, v1, v2⟩ := trio HU5.out
  have hl := HW.out.leap HO5.out HD5.out
  have HW5 := Lib.hid hl.1
  clear hl
  have z0 := free_blk HX5.out 0
  go_upto_region 13 with (first
    | (go_at_call 54; (with_reducible refine (CM.out _).mono ?_); rintro e w6 ⟨n, ok, he, ha, hb⟩; obtain rfl : e = Ending.returned (.tuple #[.int .i64 (f * vn), .bool true]) := (by have := ha.1 HIN.out; rw [he, this.1, this.2]); have HB6 := Lib.hid hb; have CN := Lib.hid (number_any (f * vn) true w6 (HW5.out.next hb)); have x6 := (hb.block z (lt_of_heap HX5.out)).trans HX5.out; have HX6 := Lib.hid x6; clear ha he hb x6)
    | (go_at_call 36; (with_reducible refine CN.out.mono ?_); rintro e w7 ⟨rfl, hw7⟩; have HX7 : Hid (w7.heap[z]? = some (.cells #[.int .i64 f, .bool tn, .slice uo um uk, .int .i64 6, .string nm, .slice (some a) em ek, .slice tb tm tk] 70 (0, 0))) := Lib.hid (by rw [← hw7]; exact (Below.heap_setCell _ _ _ _ (by have := HWZ.out; show z ≠ wb; omega)).trans HX6.out); have HW7 := Lib.hid hw7; clear hw7 z0 c0; have c0 : w7.cell? ⟨z, 0, none⟩ = some (.int .i64 f) := cell_blk HX7.out 0; have z0 : w7.frozen? ⟨z, 0, none⟩ = false := free_blk HX7.out 0))
  clear c0 c1 c2 c3 c4 c5 c6 v0 v1 v2 z0
  obtain ⟨W8, hW8⟩ : ∃ X, w7.setCell ⟨z, 0, none⟩ (.int .i64 (f * vn)) = X := ⟨_, rfl⟩
  have x8 : W8.heap[z]? = some (.cells #[.int .i64 (f * vn), .bool tn, .slice uo um uk, .int .i64 6, .string nm, .slice (some a) em ek, .slice tb tm tk] 70 (0, 0)) := by rw [← hW8]; exact heap_set_at (i := 0) _ HX7.out
  have hz1 : w.heap.size ≤ z := by rw [HZ.out]; exact Nat.le_refl _
  have hne : wb ≠ z := by have := HWZ.out; omega
  have k8 : Only [wb] w W8 := by
    rw [← hW8, ← HW7.out]
    exact ((HO5.out.trans (only_of HB6.out [wb]) (fun x hx => .inl hx)).set (a := ⟨wb, 4, none⟩) (.inl (by simp)) _).set (a := ⟨z, 0, none⟩) (.inr hz1) _
  have y8 : W8.heap[wb]? = some (.cells #[.int .i64 day, .slice fa F.length fc, pv, gv, .bool false] 67 (0, 0)) := by
    rw [← hW8, ← HW7.out, Below.heap_setCell _ _ _ _ hne]
    exact heap_set_at (i := 4) _ (HW5.out.next HB6.out).hd
  rw [hW8]
  have hl := HW.out.leap k8 y8
  have CV := Lib.hid (CT.out W8 hl.2 hl.1)
  have HF8 := Lib.hid hl.2
  obtain ⟨c0, c1, c2, c3, c4, c5, c6⟩ := seven x8
  clear hW8 x8 hz1 hne k8 y8 hl
  go_wp2_with (go_at_call 38; (with_reducible refine CV.out.mono ?_); rintro e w9 ha; have HA9 := Lib.hid ha; obtain rfl : e = Ending.returned (.tuple #[]) := ha.1; clear ha)
  go_end0
  exact HA9.out.from HF8.out

set_option maxRecDepth 100000 in
set_option maxHeartbeats 8000000 in
theorem see_far6 (f : Int) (tn : Bool) (uo : Option Addr) (um uk : Nat) (nm : ByteArray) (a : Addr) (em ek : Nat) (tb : Option Addr) (tm tk : Nat) (xo xn : Int) (xs : ByteArray) (bo : Option Addr) (xl xk : Nat) (vk vn : Int) (vb : Bool) (w : World) (h : Wk B wb day fa fc F l G false pv gv w) (he : 0 < em) (hx : ∀ V, Below w.heap.size w V → FourX V a (.int .i64 xo) (.int .i64 xn) (.string xs) (.slice bo xl xk))
    (hE : ∀ V, Below w.heap.size w V → Wk B wb day fa fc F l G false pv gv V → Calls Try.prog 44 #[.pointer (some ⟨wb, 0, none⟩), .agg #[.int .i64 xo, .int .i64 xn, .string xs, .slice bo xl xk]] V fun e w' => e = .returned (.agg #[.int .i64 vk, .int .i64 vn, .bool vb]) ∧ Wk B wb day fa fc F l G (vk == 3) pv gv w' ∧ Fr wb pv gv pv gv V w' ∧ Only [wb] V w') (k3 : (vk == 3) = false) (ky : (vk == 2 && vb) = false) (k1 : (vk == 1) = true) (f0 : -9223372036854775808 ≤ f ∧ f ≤ 9223372036854775807) (n0 : -9223372036854775808 ≤ vn ∧ vn ≤ 9223372036854775807) (hin : ¬ (-9223372036854775808 ≤ f * vn ∧ f * vn ≤ 9223372036854775807)) (g : Got) (hT : ∀ V, Fr wb pv gv pv gv w V → Wk B wb day fa fc F l G true pv gv V → Calls Try.prog 38 #[.pointer (some ⟨wb, 0, none⟩), .agg #[.int .i64 0, .bool tn, .slice uo um uk, .int .i64 6, .string nm, .slice (some a) em ek, .slice tb tm tk], .int .i64 0] V (AcP B wb day fa fc F l G pv gv none V)) :
    Calls Try.prog 39 #[.pointer (some ⟨wb, 0, none⟩), .agg #[.int .i64 f, .bool tn, .slice uo um uk, .int .i64 6, .string nm, .slice (some a) em ek, .slice tb tm tk]] w (AcP B wb day fa fc F l G pv gv none w) := by
  have CT := Lib.hid hT
  have CM := Lib.hid fun V => Nu.mul_num f vn f0.1 f0.2 n0.1 n0.2 V
  have HIN := Lib.hid hin
  clear hT hin f0 n0
  have HW := Lib.hid h
  have CX := Lib.hid hx
  have CE := Lib.hid hE
  have e1 : (0 : Int) < (em : Int) := by omega
  clear h hx hE he
  go_enter Try.func39, Try.ntmps39
  go_upto_region 1 with fail
  obtain ⟨W, hW⟩ : ∃ X, w.alloc (.cells #[.int .i64 f, .bool tn, .slice uo um uk, .int .i64 6, .string nm, .slice (some a) em ek, .slice tb tm tk] 70) = X := ⟨_, rfl⟩
  obtain ⟨g1, b1, s1⟩ := seven_made (.int .i64 f) (.bool tn) (.slice uo um uk) (.int .i64 6) (.string nm) (.slice (some a) em ek) (.slice tb tm tk) 70 w W hW
  have GA := Lib.hid (box_four (v0 := .int .i64 xo) (v1 := .int .i64 xn) (v2 := .string xs) (v3 := .slice bo xl xk) (T := 53) g1 b1 s1)
  obtain ⟨z, hz⟩ : ∃ z, z = w.heap.size := ⟨_, rfl⟩
  rw [hW, ← hz]
  rw [← hz] at b1
  obtain ⟨c0, c1, c2, c3, c4, c5, c6⟩ := seven b1
  obtain ⟨y0, y1, y2, y3⟩ := CX.out W g1
  obtain ⟨⟨r0, r1, r2, r3⟩, p0, p1, p2, p3⟩ := new_zero W (.int .i64 0) (.int .i64 0) (.string ⟨#[]⟩) (.slice none 0 0) 53
  have HZ := Lib.hid hz
  have HS1 := Lib.hid s1
  clear hW b1 g1 s1 hz
  go_upto_region 2 with fail
  clear c0 c1 c2 c3 c4 c5 c6 y0 y1 y2 y3 r0 r1 r2 r3 p0 p1 p2 p3
  obtain ⟨W2, hW2⟩ : ∃ X, W.alloc (.cells #[.int .i64 xo, .int .i64 xn, .string xs, .slice bo xl xk] 53) = X := ⟨_, rfl⟩
  obtain ⟨g2, x2, q2⟩ := GA.out W2 hW2
  have s2 : W.heap.size = z + 1 := by rw [HZ.out]; exact HS1.out
  rw [← HZ.out] at x2 q2
  rw [hW2, s2]
  have HG := Lib.hid g2
  have HX := Lib.hid x2
  have HY := Lib.hid q2
  obtain ⟨d0, d1, d2, d3⟩ := quad q2
  clear hW2 g2 x2 q2 GA s2 HS1
  go_upto_region 4 with (go_at_call 44; (with_reducible refine (CE.out _ HG.out (HW.out.next HG.out)).mono ?_); rintro e w3 ⟨rfl, hw3, hf3, ho3⟩; have HW3 := Lib.hid hw3; have HO3 := Lib.hid ho3; clear hw3 hf3 ho3; obtain ⟨⟨r0, r1, r2⟩, p0, p1, p2⟩ := three_zero w3 (.int .i64 0) (.int .i64 0) (.bool false) 99)
  clear d0 d1 d2 d3 r0 r1 r2 p0 p1 p2
  obtain ⟨u, hu⟩ : ∃ u, u = w3.heap.size := ⟨_, rfl⟩
  obtain ⟨W4, hW4⟩ : ∃ X, w3.alloc (.cells #[.int .i64 vk, .int .i64 vn, .bool vb] 99) = X := ⟨_, rfl⟩
  obtain ⟨g4, x4, s4⟩ := three_made (.int .i64 vk) (.int .i64 vn) (.bool vb) 99 w3 W4 hW4
  rw [hW4, ← hu]
  rw [← hu] at x4
  have hwz : wb < z := by rw [HZ.out]; exact HW.out.lt
  have HX4 : Hid (W4.heap[z]? = some (.cells #[.int .i64 f, .bool tn, .slice uo um uk, .int .i64 6, .string nm, .slice (some a) em ek, .slice tb tm tk] 70 (0, 0))) := Lib.hid ((g4.block z (Nat.lt_of_lt_of_le (lt_of_heap HX.out) HO3.out.size)).trans ((HO3.out.block z (lt_of_heap HX.out) (fun hm => by have := List.mem_singleton.1 hm; omega)).trans HX.out))
  have HY4 : Hid (W4.heap[z + 1]? = some (.cells #[.int .i64 xo, .int .i64 xn, .string xs, .slice bo xl xk] 53 (0, 0))) := Lib.hid ((g4.block (z + 1) (Nat.lt_of_lt_of_le (lt_of_heap HY.out) HO3.out.size)).trans ((HO3.out.block (z + 1) (lt_of_heap HY.out) (fun hm => by have := List.mem_singleton.1 hm; omega)).trans HY.out))
  have HU4 := Lib.hid x4
  have HO4 : Hid (Only [wb] w W4) := Lib.hid (((only_of HG.out [wb]).trans HO3.out (fun x hx => .inl hx)).trans (only_of g4 [wb]) (fun x hx => .inl hx))
  have HD4 : Hid (W4.heap[wb]? = some (.cells #[.int .i64 day, .slice fa F.length fc, pv, gv, .bool (vk == 3)] 67 (0, 0))) := Lib.hid ((g4.block wb HW3.out.lt).trans HW3.out.hd)
  have HWZ := Lib.hid hwz
  clear hu hW4 g4 x4 s4 hwz HO3 HW3 HX HY HG
  have b4 : W4.cell? ⟨wb, 4, none⟩ = some (.bool (vk == 3)) := cell_blk HD4.out 4
  obtain ⟨c0, c1, c2, c3, c4, c5, c6⟩ := seven HX4.out
  obtain ⟨v0, v1, v2⟩ := trio HU4.out
  rw [k3] at b4
  have HK3 := Lib.hid k3
  have HY2 := Lib.hid ky
  go_upto_region 11 with (go_at_call 43; (with_reducible refine (yes_any ⟨vk, vn, vb⟩ _).mono ?_); rintro e w5 ⟨he5, hb5⟩; obtain rfl : e = Ending.returned (.bool false) := (by rw [he5]; exact congrArg (fun b => Ending.returned (Value.bool b)) HY2.out); have HB5 := Lib.hid hb5; clear he5 hb5)
  have HX5 : Hid (w5.heap[z]? = some (.cells #[.int .i64 f, .bool tn, .slice uo um uk, .int .i64 6, .string nm, .slice (some a) em ek, .slice tb tm tk] 70 (0, 0))) := Lib.hid ((HB5.out.block z (lt_of_heap HX4.out)).trans HX4.out)
  have HU5 : Hid (w5.heap[u]? = some (.cells #[.int .i64 vk, .int .i64 vn, .bool vb] 99 (0, 0))) := Lib.hid ((HB5.out.block u (lt_of_heap HU4.out)).trans HU4.out)
  have HO5 : Hid (Only [wb] w w5) := Lib.hid (HO4.out.trans (only_of HB5.out [wb]) (fun x hx => .inl hx))
  have HD5 : Hid (w5.heap[wb]? = some (.cells #[.int .i64 day, .slice fa F.length fc, pv, gv, .bool false] 67 (0, 0))) := Lib.hid (by have := (HB5.out.block wb (lt_of_heap HD4.out)).trans HD4.out; rw [HK3.out] at this; exact this)
  clear c0 c1 c2 c3 c4 c5 c6 v0 v1 v2 b4
  obtain ⟨c0, c1, c2, c3, c4, c5, c6⟩ := seven HX5.out
  obtain ⟨v0, v1, v2⟩ := trio HU5.out
  have hl := HW.out.leap HO5.out HD5.out
  have HW5 := Lib.hid hl.1
  clear hl
  have z0 := free_blk HX5.out 0
  go_upto_region 13 with (first
    | (go_at_call 54; (with_reducible refine (CM.out _).mono ?_); rintro e w6 ⟨n, ok, he, ha, hb⟩; obtain rfl : e = Ending.returned (.tuple #[.int .i64 0, .bool false]) := (by have := ha.2 HIN.out; rw [he, this.1, this.2]); have HB6 := Lib.hid hb; have CN := Lib.hid (number_any 0 false w6 (HW5.out.next hb)); have x6 := (hb.block z (lt_of_heap HX5.out)).trans HX5.out; have HX6 := Lib.hid x6; clear ha he hb x6)
    | (go_at_call 36; (with_reducible refine CN.out.mono ?_); rintro e w7 ⟨rfl, hw7⟩; have HX7 : Hid (w7.heap[z]? = some (.cells #[.int .i64 f, .bool tn, .slice uo um uk, .int .i64 6, .string nm, .slice (some a) em ek, .slice tb tm tk] 70 (0, 0))) := Lib.hid (by rw [← hw7]; exact (Below.heap_setCell _ _ _ _ (by have := HWZ.out; show z ≠ wb; omega)).trans HX6.out); have HW7 := Lib.hid hw7; clear hw7 z0 c0; have c0 : w7.cell? ⟨z, 0, none⟩ = some (.int .i64 f) := cell_blk HX7.out 0; have z0 : w7.frozen? ⟨z, 0, none⟩ = false := free_blk HX7.out 0))
  clear c0 c1 c2 c3 c4 c5 c6 v0 v1 v2 z0
  obtain ⟨W8, hW8⟩ : ∃ X, w7.setCell ⟨z, 0, none⟩ (.int .i64 0) = X := ⟨_, rfl⟩
  have x8 : W8.heap[z]? = some (.cells #[.int .i64 0, .bool tn, .slice uo um uk, .int .i64 6, .string nm, .slice (some a) em ek, .slice tb tm tk] 70 (0, 0)) := by rw [← hW8]; exact heap_set_at (i := 0) _ HX7.out
  have hz1 : w.heap.size ≤ z := by rw [HZ.out]; exact Nat.le_refl _
  have hne : wb ≠ z := by have := HWZ.out; omega
  have k8 : Only [wb] w W8 := by
    rw [← hW8, ← HW7.out]
    exact ((HO5.out.trans (only_of HB6.out [wb]) (fun x hx => .inl hx)).set (a := ⟨wb, 4, none⟩) (.inl (by simp)) _).set (a := ⟨z, 0, none⟩) (.inr hz1) _
  have y8 : W8.heap[wb]? = some (.cells #[.int .i64 day, .slice fa F.length fc, pv, gv, .bool true] 67 (0, 0)) := by
    rw [← hW8, ← HW7.out, Below.heap_setCell _ _ _ _ hne]
    exact heap_set_at (i := 4) _ (HW5.out.next HB6.out).hd
  rw [hW8]
  have hl := HW.out.leap k8 y8
  have CV := Lib.hid (CT.out W8 hl.2 hl.1)
  have HF8 := Lib.hid hl.2
  obtain ⟨c0, c1, c2, c3, c4, c5, c6⟩ := seven x8
  clear hW8 x8 hz1 hne k8 y8 hl
  go_wp2_with (go_at_call 38; (with_reducible refine CV.out.mono ?_); rintro e w9 ha; have HA9 := Lib.hid ha; obtain rfl : e = Ending.returned (.tuple #[]) := ha.1; clear ha)
  go_end0
  exact HA9.out.from HF8.out

set_option maxRecDepth 100000 in
set_option maxHeartbeats 8000000 in
theorem see_yes7 (f : Int) (tn : Bool) (uo : Option Addr) (um uk : Nat) (nm : ByteArray) (a : Addr) (em ek : Nat) (tb : Option Addr) (tm tk : Nat) (xo xn : Int) (xs : ByteArray) (bo : Option Addr) (xl xk : Nat) (vk vn : Int) (vb : Bool) (w : World) (h : Wk B wb day fa fc F l G false pv gv w) (he : 0 < em) (hx : ∀ V, Below w.heap.size w V → FourX V a (.int .i64 xo) (.int .i64 xn) (.string xs) (.slice bo xl xk))
    (hE : ∀ V, Below w.heap.size w V → Wk B wb day fa fc F l G false pv gv V → Calls Try.prog 44 #[.pointer (some ⟨wb, 0, none⟩), .agg #[.int .i64 xo, .int .i64 xn, .string xs, .slice bo xl xk]] V fun e w' => e = .returned (.agg #[.int .i64 vk, .int .i64 vn, .bool vb]) ∧ Wk B wb day fa fc F l G (vk == 3) pv gv w' ∧ Fr wb pv gv pv gv V w' ∧ Only [wb] V w') (k3 : (vk == 3) = false) (ky : (vk == 2 && vb) = true) (g : Got) (hT : ∀ V, Fr wb pv gv pv gv w V → Wk B wb day fa fc F l G false pv gv V → Calls Try.prog 38 #[.pointer (some ⟨wb, 0, none⟩), .agg #[.int .i64 f, .bool tn, .slice uo um uk, .int .i64 7, .string nm, .slice (some a) em ek, .slice tb tm tk], .int .i64 0] V (AcP B wb day fa fc F l G pv gv g V)) :
    Calls Try.prog 39 #[.pointer (some ⟨wb, 0, none⟩), .agg #[.int .i64 f, .bool tn, .slice uo um uk, .int .i64 7, .string nm, .slice (some a) em ek, .slice tb tm tk]] w (AcP B wb day fa fc F l G pv gv g w) := by
  have CT := Lib.hid hT
  clear hT
  have HW := Lib.hid h
  have CX := Lib.hid hx
  have CE := Lib.hid hE
  have e1 : (0 : Int) < (em : Int) := by omega
  clear h hx hE he
  go_enter Try.func39, Try.ntmps39
  go_upto_region 1 with fail
  obtain ⟨W, hW⟩ : ∃ X, w.alloc (.cells #[.int .i64 f, .bool tn, .slice uo um uk, .int .i64 7, .string nm, .slice (some a) em ek, .slice tb tm tk] 70) = X := ⟨_, rfl⟩
  obtain ⟨g1, b1, s1⟩ := seven_made (.int .i64 f) (.bool tn) (.slice uo um uk) (.int .i64 7) (.string nm) (.slice (some a) em ek) (.slice tb tm tk) 70 w W hW
  have GA := Lib.hid (box_four (v0 := .int .i64 xo) (v1 := .int .i64 xn) (v2 := .string xs) (v3 := .slice bo xl xk) (T := 53) g1 b1 s1)
  obtain ⟨z, hz⟩ : ∃ z, z = w.heap.size := ⟨_, rfl⟩
  rw [hW, ← hz]
  rw [← hz] at b1
  obtain ⟨c0, c1, c2, c3, c4, c5, c6⟩ := seven b1
  obtain ⟨y0, y1, y2, y3⟩ := CX.out W g1
  obtain ⟨⟨r0, r1, r2, r3⟩, p0, p1, p2, p3⟩ := new_zero W (.int .i64 0) (.int .i64 0) (.string ⟨#[]⟩) (.slice none 0 0) 53
  have HZ := Lib.hid hz
  have HS1 := Lib.hid s1
  clear hW b1 g1 s1 hz
  go_upto_region 2 with fail
  clear c0 c1 c2 c3 c4 c5 c6 y0 y1 y2 y3 r0 r1 r2 r3 p0 p1 p2 p3
  obtain ⟨W2, hW2⟩ : ∃ X, W.alloc (.cells #[.int .i64 xo, .int .i64 xn, .string xs, .slice bo xl xk] 53) = X := ⟨_, rfl⟩
  obtain ⟨g2, x2, q2⟩ := GA.out W2 hW2
  have s2 : W.heap.size = z + 1 := by rw [HZ.out]; exact HS1.out
  rw [← HZ.out] at x2 q2
  rw [hW2, s2]
  have HG := Lib.hid g2
  have HX := Lib.hid x2
  have HY := Lib.hid q2
  obtain ⟨d0, d1, d2, d3⟩ := quad q2
  clear hW2 g2 x2 q2 GA s2 HS1
  go_upto_region 4 with (go_at_call 44; (with_reducible refine (CE.out _ HG.out (HW.out.next HG.out)).mono ?_); rintro e w3 ⟨rfl, hw3, hf3, ho3⟩; have HW3 := Lib.hid hw3; have HO3 := Lib.hid ho3; clear hw3 hf3 ho3; obtain ⟨⟨r0, r1, r2⟩, p0, p1, p2⟩ := three_zero w3 (.int .i64 0) (.int .i64 0) (.bool false) 99)
  clear d0 d1 d2 d3 r0 r1 r2 p0 p1 p2
  obtain ⟨u, hu⟩ : ∃ u, u = w3.heap.size := ⟨_, rfl⟩
  obtain ⟨W4, hW4⟩ : ∃ X, w3.alloc (.cells #[.int .i64 vk, .int .i64 vn, .bool vb] 99) = X := ⟨_, rfl⟩
  obtain ⟨g4, x4, s4⟩ := three_made (.int .i64 vk) (.int .i64 vn) (.bool vb) 99 w3 W4 hW4
  rw [hW4, ← hu]
  rw [← hu] at x4
  have hwz : wb < z := by rw [HZ.out]; exact HW.out.lt
  have HX4 : Hid (W4.heap[z]? = some (.cells #[.int .i64 f, .bool tn, .slice uo um uk, .int .i64 7, .string nm, .slice (some a) em ek, .slice tb tm tk] 70 (0, 0))) := Lib.hid ((g4.block z (Nat.lt_of_lt_of_le (lt_of_heap HX.out) HO3.out.size)).trans ((HO3.out.block z (lt_of_heap HX.out) (fun hm => by have := List.mem_singleton.1 hm; omega)).trans HX.out))
  have HY4 : Hid (W4.heap[z + 1]? = some (.cells #[.int .i64 xo, .int .i64 xn, .string xs, .slice bo xl xk] 53 (0, 0))) := Lib.hid ((g4.block (z + 1) (Nat.lt_of_lt_of_le (lt_of_heap HY.out) HO3.out.size)).trans ((HO3.out.block (z + 1) (lt_of_heap HY.out) (fun hm => by have := List.mem_singleton.1 hm; omega)).trans HY.out))
  have HU4 := Lib.hid x4
  have HO4 : Hid (Only [wb] w W4) := Lib.hid (((only_of HG.out [wb]).trans HO3.out (fun x hx => .inl hx)).trans (only_of g4 [wb]) (fun x hx => .inl hx))
  have HD4 : Hid (W4.heap[wb]? = some (.cells #[.int .i64 day, .slice fa F.length fc, pv, gv, .bool (vk == 3)] 67 (0, 0))) := Lib.hid ((g4.block wb HW3.out.lt).trans HW3.out.hd)
  have HWZ := Lib.hid hwz
  clear hu hW4 g4 x4 s4 hwz HO3 HW3 HX HY HG
  have b4 : W4.cell? ⟨wb, 4, none⟩ = some (.bool (vk == 3)) := cell_blk HD4.out 4
  obtain ⟨c0, c1, c2, c3, c4, c5, c6⟩ := seven HX4.out
  obtain ⟨v0, v1, v2⟩ := trio HU4.out
  rw [k3] at b4
  have HK3 := Lib.hid k3
  have HY2 := Lib.hid ky
  go_upto_region 10 with (go_at_call 43; (with_reducible refine (yes_any ⟨vk, vn, vb⟩ _).mono ?_); rintro e w5 ⟨he5, hb5⟩; obtain rfl : e = Ending.returned (.bool true) := (by rw [he5]; exact congrArg (fun b => Ending.returned (Value.bool b)) HY2.out); have HB5 := Lib.hid hb5; clear he5 hb5)
  have HX5 : Hid (w5.heap[z]? = some (.cells #[.int .i64 f, .bool tn, .slice uo um uk, .int .i64 7, .string nm, .slice (some a) em ek, .slice tb tm tk] 70 (0, 0))) := Lib.hid ((HB5.out.block z (lt_of_heap HX4.out)).trans HX4.out)
  have HU5 : Hid (w5.heap[u]? = some (.cells #[.int .i64 vk, .int .i64 vn, .bool vb] 99 (0, 0))) := Lib.hid ((HB5.out.block u (lt_of_heap HU4.out)).trans HU4.out)
  have HO5 : Hid (Only [wb] w w5) := Lib.hid (HO4.out.trans (only_of HB5.out [wb]) (fun x hx => .inl hx))
  have HD5 : Hid (w5.heap[wb]? = some (.cells #[.int .i64 day, .slice fa F.length fc, pv, gv, .bool false] 67 (0, 0))) := Lib.hid (by have := (HB5.out.block wb (lt_of_heap HD4.out)).trans HD4.out; rw [HK3.out] at this; exact this)
  clear c0 c1 c2 c3 c4 c5 c6 v0 v1 v2 b4
  obtain ⟨c0, c1, c2, c3, c4, c5, c6⟩ := seven HX5.out
  obtain ⟨v0, v1, v2⟩ := trio HU5.out
  have hl := HW.out.leap HO5.out HD5.out
  have CV := Lib.hid (CT.out w5 hl.2 hl.1)
  have HF5 := Lib.hid hl.2
  clear hl
  go_wp2_with (go_at_call 38; (with_reducible refine CV.out.mono ?_); rintro e w9 ha; have HA9 := Lib.hid ha; obtain rfl : e = Ending.returned (.tuple #[]) := ha.1; clear ha)
  go_end0
  exact HA9.out.from HF5.out

set_option maxRecDepth 100000 in
set_option maxHeartbeats 8000000 in
theorem see_stay7 (f : Int) (tn : Bool) (uo : Option Addr) (um uk : Nat) (nm : ByteArray) (a : Addr) (em ek : Nat) (tb : Option Addr) (tm tk : Nat) (xo xn : Int) (xs : ByteArray) (bo : Option Addr) (xl xk : Nat) (vk vn : Int) (vb : Bool) (w : World) (h : Wk B wb day fa fc F l G false pv gv w) (he : 0 < em) (hx : ∀ V, Below w.heap.size w V → FourX V a (.int .i64 xo) (.int .i64 xn) (.string xs) (.slice bo xl xk))
    (hE : ∀ V, Below w.heap.size w V → Wk B wb day fa fc F l G false pv gv V → Calls Try.prog 44 #[.pointer (some ⟨wb, 0, none⟩), .agg #[.int .i64 xo, .int .i64 xn, .string xs, .slice bo xl xk]] V fun e w' => e = .returned (.agg #[.int .i64 vk, .int .i64 vn, .bool vb]) ∧ Wk B wb day fa fc F l G (vk == 3) pv gv w' ∧ Fr wb pv gv pv gv V w' ∧ Only [wb] V w') (k3 : (vk == 3) = false) (ky : (vk == 2 && vb) = false) (k1 : (vk == 1) = false) (g : Got) (hT : ∀ V, Fr wb pv gv pv gv w V → Wk B wb day fa fc F l G false pv gv V → Calls Try.prog 40 #[.pointer (some ⟨wb, 0, none⟩), .agg #[.int .i64 f, .bool tn, .slice uo um uk, .int .i64 7, .string nm, .slice (some a) em ek, .slice tb tm tk]] V (AcP B wb day fa fc F l G pv gv g V)) :
    Calls Try.prog 39 #[.pointer (some ⟨wb, 0, none⟩), .agg #[.int .i64 f, .bool tn, .slice uo um uk, .int .i64 7, .string nm, .slice (some a) em ek, .slice tb tm tk]] w (AcP B wb day fa fc F l G pv gv g w) := by
  have CT := Lib.hid hT
  clear hT
  have HW := Lib.hid h
  have CX := Lib.hid hx
  have CE := Lib.hid hE
  have e1 : (0 : Int) < (em : Int) := by omega
  clear h hx hE he
  go_enter Try.func39, Try.ntmps39
  go_upto_region 1 with fail
  obtain ⟨W, hW⟩ : ∃ X, w.alloc (.cells #[.int .i64 f, .bool tn, .slice uo um uk, .int .i64 7, .string nm, .slice (some a) em ek, .slice tb tm tk] 70) = X := ⟨_, rfl⟩
  obtain ⟨g1, b1, s1⟩ := seven_made (.int .i64 f) (.bool tn) (.slice uo um uk) (.int .i64 7) (.string nm) (.slice (some a) em ek) (.slice tb tm tk) 70 w W hW
  have GA := Lib.hid (box_four (v0 := .int .i64 xo) (v1 := .int .i64 xn) (v2 := .string xs) (v3 := .slice bo xl xk) (T := 53) g1 b1 s1)
  obtain ⟨z, hz⟩ : ∃ z, z = w.heap.size := ⟨_, rfl⟩
  rw [hW, ← hz]
  rw [← hz] at b1
  obtain ⟨c0, c1, c2, c3, c4, c5, c6⟩ := seven b1
  obtain ⟨y0, y1, y2, y3⟩ := CX.out W g1
  obtain ⟨⟨r0, r1, r2, r3⟩, p0, p1, p2, p3⟩ := new_zero W (.int .i64 0) (.int .i64 0) (.string ⟨#[]⟩) (.slice none 0 0) 53
  have HZ := Lib.hid hz
  have HS1 := Lib.hid s1
  clear hW b1 g1 s1 hz
  go_upto_region 2 with fail
  clear c0 c1 c2 c3 c4 c5 c6 y0 y1 y2 y3 r0 r1 r2 r3 p0 p1 p2 p3
  obtain ⟨W2, hW2⟩ : ∃ X, W.alloc (.cells #[.int .i64 xo, .int .i64 xn, .string xs, .slice bo xl xk] 53) = X := ⟨_, rfl⟩
  obtain ⟨g2, x2, q2⟩ := GA.out W2 hW2
  have s2 : W.heap.size = z + 1 := by rw [HZ.out]; exact HS1.out
  rw [← HZ.out] at x2 q2
  rw [hW2, s2]
  have HG := Lib.hid g2
  have HX := Lib.hid x2
  have HY := Lib.hid q2
  obtain ⟨d0, d1, d2, d3⟩ := quad q2
  clear hW2 g2 x2 q2 GA s2 HS1
  go_upto_region 4 with (go_at_call 44; (with_reducible refine (CE.out _ HG.out (HW.out.next HG.out)).mono ?_); rintro e w3 ⟨rfl, hw3, hf3, ho3⟩; have HW3 := Lib.hid hw3; have HO3 := Lib.hid ho3; clear hw3 hf3 ho3; obtain ⟨⟨r0, r1, r2⟩, p0, p1, p2⟩ := three_zero w3 (.int .i64 0) (.int .i64 0) (.bool false) 99)
  clear d0 d1 d2 d3 r0 r1 r2 p0 p1 p2
  obtain ⟨u, hu⟩ : ∃ u, u = w3.heap.size := ⟨_, rfl⟩
  obtain ⟨W4, hW4⟩ : ∃ X, w3.alloc (.cells #[.int .i64 vk, .int .i64 vn, .bool vb] 99) = X := ⟨_, rfl⟩
  obtain ⟨g4, x4, s4⟩ := three_made (.int .i64 vk) (.int .i64 vn) (.bool vb) 99 w3 W4 hW4
  rw [hW4, ← hu]
  rw [← hu] at x4
  have hwz : wb < z := by rw [HZ.out]; exact HW.out.lt
  have HX4 : Hid (W4.heap[z]? = some (.cells #[.int .i64 f, .bool tn, .slice uo um uk, .int .i64 7, .string nm, .slice (some a) em ek, .slice tb tm tk] 70 (0, 0))) := Lib.hid ((g4.block z (Nat.lt_of_lt_of_le (lt_of_heap HX.out) HO3.out.size)).trans ((HO3.out.block z (lt_of_heap HX.out) (fun hm => by have := List.mem_singleton.1 hm; omega)).trans HX.out))
  have HY4 : Hid (W4.heap[z + 1]? = some (.cells #[.int .i64 xo, .int .i64 xn, .string xs, .slice bo xl xk] 53 (0, 0))) := Lib.hid ((g4.block (z + 1) (Nat.lt_of_lt_of_le (lt_of_heap HY.out) HO3.out.size)).trans ((HO3.out.block (z + 1) (lt_of_heap HY.out) (fun hm => by have := List.mem_singleton.1 hm; omega)).trans HY.out))
  have HU4 := Lib.hid x4
  have HO4 : Hid (Only [wb] w W4) := Lib.hid (((only_of HG.out [wb]).trans HO3.out (fun x hx => .inl hx)).trans (only_of g4 [wb]) (fun x hx => .inl hx))
  have HD4 : Hid (W4.heap[wb]? = some (.cells #[.int .i64 day, .slice fa F.length fc, pv, gv, .bool (vk == 3)] 67 (0, 0))) := Lib.hid ((g4.block wb HW3.out.lt).trans HW3.out.hd)
  have HWZ := Lib.hid hwz
  clear hu hW4 g4 x4 s4 hwz HO3 HW3 HX HY HG
  have b4 : W4.cell? ⟨wb, 4, none⟩ = some (.bool (vk == 3)) := cell_blk HD4.out 4
  obtain ⟨c0, c1, c2, c3, c4, c5, c6⟩ := seven HX4.out
  obtain ⟨v0, v1, v2⟩ := trio HU4.out
  rw [k3] at b4
  have HK3 := Lib.hid k3
  have HY2 := Lib.hid ky
  go_upto_region 11 with (go_at_call 43; (with_reducible refine (yes_any ⟨vk, vn, vb⟩ _).mono ?_); rintro e w5 ⟨he5, hb5⟩; obtain rfl : e = Ending.returned (.bool false) := (by rw [he5]; exact congrArg (fun b => Ending.returned (Value.bool b)) HY2.out); have HB5 := Lib.hid hb5; clear he5 hb5)
  have HX5 : Hid (w5.heap[z]? = some (.cells #[.int .i64 f, .bool tn, .slice uo um uk, .int .i64 7, .string nm, .slice (some a) em ek, .slice tb tm tk] 70 (0, 0))) := Lib.hid ((HB5.out.block z (lt_of_heap HX4.out)).trans HX4.out)
  have HU5 : Hid (w5.heap[u]? = some (.cells #[.int .i64 vk, .int .i64 vn, .bool vb] 99 (0, 0))) := Lib.hid ((HB5.out.block u (lt_of_heap HU4.out)).trans HU4.out)
  have HO5 : Hid (Only [wb] w w5) := Lib.hid (HO4.out.trans (only_of HB5.out [wb]) (fun x hx => .inl hx))
  have HD5 : Hid (w5.heap[wb]? = some (.cells #[.int .i64 day, .slice fa F.length fc, pv, gv, .bool false] 67 (0, 0))) := Lib.hid (by have := (HB5.out.block wb (lt_of_heap HD4.out)).trans HD4.out; rw [HK3.out] at this; exact this)
  clear c0 c1 c2 c3 c4 c5 c6 v0 v1 v2 b4
  obtain ⟨c0, c1, c2, c3, c4, c5, c6⟩ := seven HX5.out
  obtain ⟨v0, v1, v2⟩ := trio HU5.out
  have hl := HW.out.leap HO5.out HD5.out
  have CV := Lib.hid (CT.out w5 hl.2 hl.1)
  have HF5 := Lib.hid hl.2
  clear hl
  go_wp2_with (go_at_call 40; (with_reducible refine CV.out.mono ?_); rintro e w9 ha; have HA9 := Lib.hid ha; obtain rfl : e = Ending.returned (.tuple #[]) := ha.1; clear ha)
  go_end0
  exact HA9.out.from HF5.out

set_option maxRecDepth 100000 in
set_option maxHeartbeats 8000000 in
theorem see_num7 (f : Int) (tn : Bool) (uo : Option Addr) (um uk : Nat) (nm : ByteArray) (a : Addr) (em ek : Nat) (tb : Option Addr) (tm tk : Nat) (xo xn : Int) (xs : ByteArray) (bo : Option Addr) (xl xk : Nat) (vk vn : Int) (vb : Bool) (w : World) (h : Wk B wb day fa fc F l G false pv gv w) (he : 0 < em) (hx : ∀ V, Below w.heap.size w V → FourX V a (.int .i64 xo) (.int .i64 xn) (.string xs) (.slice bo xl xk))
    (hE : ∀ V, Below w.heap.size w V → Wk B wb day fa fc F l G false pv gv V → Calls Try.prog 44 #[.pointer (some ⟨wb, 0, none⟩), .agg #[.int .i64 xo, .int .i64 xn, .string xs, .slice bo xl xk]] V fun e w' => e = .returned (.agg #[.int .i64 vk, .int .i64 vn, .bool vb]) ∧ Wk B wb day fa fc F l G (vk == 3) pv gv w' ∧ Fr wb pv gv pv gv V w' ∧ Only [wb] V w') (k3 : (vk == 3) = false) (ky : (vk == 2 && vb) = false) (k1 : (vk == 1) = true) (f0 : -9223372036854775808 ≤ f ∧ f ≤ 9223372036854775807) (n0 : -9223372036854775808 ≤ vn ∧ vn ≤ 9223372036854775807) (hin : -9223372036854775808 ≤ f * vn ∧ f * vn ≤ 9223372036854775807) (g : Got) (hT : ∀ V, Fr wb pv gv pv gv w V → Wk B wb day fa fc F l G false pv gv V → Calls Try.prog 38 #[.pointer (some ⟨wb, 0, none⟩), .agg #[.int .i64 (f * vn), .bool tn, .slice uo um uk, .int .i64 7, .string nm, .slice (some a) em ek, .slice tb tm tk], .int .i64 0] V (AcP B wb day fa fc F l G pv gv g V)) :
    Calls Try.prog 39 #[.pointer (some ⟨wb, 0, none⟩), .agg #[.int .i64 f, .bool tn, .slice uo um uk, .int .i64 7, .string nm, .slice (some a) em ek, .slice tb tm tk]] w (AcP B wb day fa fc F l G pv gv g w) := by
  have CT := Lib.hid hT
  have CM := Lib.hid fun V => Nu.mul_num f vn f0.1 f0.2 n0.1 n0.2 V
  have HIN := Lib.hid hin
  clear hT hin f0 n0
  have HW := Lib.hid h
  have CX := Lib.hid hx
  have CE := Lib.hid hE
  have e1 : (0 : Int) < (em : Int) := by omega
  clear h hx hE he
  go_enter Try.func39, Try.ntmps39
  go_upto_region 1 with fail
  obtain ⟨W, hW⟩ : ∃ X, w.alloc (.cells #[.int .i64 f, .bool tn, .slice uo um uk, .int .i64 7, .string nm, .slice (some a) em ek, .slice tb tm tk] 70) = X := ⟨_, rfl⟩
  obtain ⟨g1, b1, s1⟩ := seven_made (.int .i64 f) (.bool tn) (.slice uo um uk) (.int .i64 7) (.string nm) (.slice (some a) em ek) (.slice tb tm tk) 70 w W hW
  have GA := Lib.hid (box_four (v0 := .int .i64 xo) (v1 := .int .i64 xn) (v2 := .string xs) (v3 := .slice bo xl xk) (T := 53) g1 b1 s1)
  obtain ⟨z, hz⟩ : ∃ z, z = w.heap.size := ⟨_, rfl⟩
  rw [hW, ← hz]
  rw [← hz] at b1
  obtain ⟨c0, c1, c2, c3, c4, c5, c6⟩ := seven b1
  obtain ⟨y0, y1, y2, y3⟩ := CX.out W g1
  obtain ⟨⟨r0, r1, r2, r3⟩, p0, p1, p2, p3⟩ := new_zero W (.int .i64 0) (.int .i64 0) (.string ⟨#[]⟩) (.slice none 0 0) 53
  have HZ := Lib.hid hz
  have HS1 := Lib.hid s1
  clear hW b1 g1 s1 hz
  go_upto_region 2 with fail
  clear c0 c1 c2 c3 c4 c5 c6 y0 y1 y2 y3 r0 r1 r2 r3 p0 p1 p2 p3
  obtain ⟨W2, hW2⟩ : ∃ X, W.alloc (.cells #[.int .i64 xo, .int .i64 xn, .string xs, .slice bo xl xk] 53) = X := ⟨_, rfl⟩
  obtain ⟨g2, x2, q2⟩ := GA.out W2 hW2
  have s2 : W.heap.size = z + 1 := by rw [HZ.out]; exact HS1.out
  rw [← HZ.out] at x2 q2
  rw [hW2, s2]
  have HG := Lib.hid g2
  have HX := Lib.hid x2
  have HY := Lib.hid q2
  obtain ⟨d0, d1, d2, d3⟩ := quad q2
  clear hW2 g2 x2 q2 GA s2 HS1
  go_upto_region 4 with (go_at_call 44; (with_reducible refine (CE.out _ HG.out (HW.out.next HG.out)).mono ?_); rintro e w3 ⟨rfl, hw3, hf3, ho3⟩; have HW3 := Lib.hid hw3; have HO3 := Lib.hid ho3; clear hw3 hf3 ho3; obtain ⟨⟨r0, r1, r2⟩, p0, p1, p2⟩ := three_zero w3 (.int .i64 0) (.int .i64 0) (.bool false) 99)
  clear d0 d1 d2 d3 r0 r1 r2 p0 p1 p2
  obtain ⟨u, hu⟩ : ∃ u, u = w3.heap.size := ⟨_, rfl⟩
  obtain ⟨W4, hW4⟩ : ∃ X, w3.alloc (.cells #[.int .i64 vk, .int .i64 vn, .bool vb] 99) = X := ⟨_, rfl⟩
  obtain ⟨g4, x4, s4⟩ := three_made (.int .i64 vk) (.int .i64 vn) (.bool vb) 99 w3 W4 hW4
  rw [hW4, ← hu]
  rw [← hu] at x4
  have hwz : wb < z := by rw [HZ.out]; exact HW.out.lt
  have HX4 : Hid (W4.heap[z]? = some (.cells #[.int .i64 f, .bool tn, .slice uo um uk, .int .i64 7, .string nm, .slice (some a) em ek, .slice tb tm tk] 70 (0, 0))) := Lib.hid ((g4.block z (Nat.lt_of_lt_of_le (lt_of_heap HX.out) HO3.out.size)).trans ((HO3.out.block z (lt_of_heap HX.out) (fun hm => by have := List.mem_singleton.1 hm; omega)).trans HX.out))
  have HY4 : Hid (W4.heap[z + 1]? = some (.cells #[.int .i64 xo, .int .i64 xn, .string xs, .slice bo xl xk] 53 (0, 0))) := Lib.hid ((g4.block (z + 1) (Nat.lt_of_lt_of_le (lt_of_heap HY.out) HO3.out.size)).trans ((HO3.out.block (z + 1) (lt_of_heap HY.out) (fun hm => by have := List.mem_singleton.1 hm; omega)).trans HY.out))
  have HU4 := Lib.hid x4
  have HO4 : Hid (Only [wb] w W4) := Lib.hid (((only_of HG.out [wb]).trans HO3.out (fun x hx => .inl hx)).trans (only_of g4 [wb]) (fun x hx => .inl hx))
  have HD4 : Hid (W4.heap[wb]? = some (.cells #[.int .i64 day, .slice fa F.length fc, pv, gv, .bool (vk == 3)] 67 (0, 0))) := Lib.hid ((g4.block wb HW3.out.lt).trans HW3.out.hd)
  have HWZ := Lib.hid hwz
  clear hu hW4 g4 x4 s4 hwz HO3 HW3 HX HY HG
  have b4 : W4.cell? ⟨wb, 4, none⟩ = some (.bool (vk == 3)) := cell_blk HD4.out 4
  obtain ⟨c0, c1, c2, c3, c4, c5, c6⟩ := seven HX4.out
  obtain ⟨v0, v1, v2⟩ := trio HU4.out
  rw [k3] at b4
  have HK3 := Lib.hid k3
  have HY2 := Lib.hid ky
  go_upto_region 11 with (go_at_call 43; (with_reducible refine (yes_any ⟨vk, vn, vb⟩ _).mono ?_); rintro e w5 ⟨he5, hb5⟩; obtain rfl : e = Ending.returned (.bool false) := (by rw [he5]; exact congrArg (fun b => Ending.returned (Value.bool b)) HY2.out); have HB5 := Lib.hid hb5; clear he5 hb5)
  have HX5 : Hid (w5.heap[z]? = some (.cells #[.int .i64 f, .bool tn, .slice uo um uk, .int .i64 7, .string nm, .slice (some a) em ek, .slice tb tm tk] 70 (0, 0))) := Lib.hid ((HB5.out.block z (lt_of_heap HX4.out)).trans HX4.out)
  have HU5 : Hid (w5.heap[u]? = some (.cells #[.int .i64 vk, .int .i64 vn, .bool vb] 99 (0, 0))) := Lib.hid ((HB5.out.block u (lt_of_heap HU4.out)).trans HU4.out)
  have HO5 : Hid (Only [wb] w w5) := Lib.hid (HO4.out.trans (only_of HB5.out [wb]) (fun x hx => .inl hx))
  have HD5 : Hid (w5.heap[wb]? = some (.cells #[.int .i64 day, .slice fa F.length fc, pv, gv, .bool false] 67 (0, 0))) := Lib.hid (by have := (HB5.out.block wb (lt_of_heap HD4.out)).trans HD4.out; rw [HK3.out] at this; exact this)
  clear c0 c1 c2 c3 c4 c5 c6 v0 v1 v2 b4
  obtain ⟨c0, c1, c2, c3, c4, c5, c6⟩ := seven HX5.out
  obtain ⟨v0, v1, v2⟩ := trio HU5.out
  have hl := HW.out.leap HO5.out HD5.out
  have HW5 := Lib.hid hl.1
  clear hl
  have z0 := free_blk HX5.out 0
  go_upto_region 13 with (first
    | (go_at_call 54; (with_reducible refine (CM.out _).mono ?_); rintro e w6 ⟨n, ok, he, ha, hb⟩; obtain rfl : e = Ending.returned (.tuple #[.int .i64 (f * vn), .bool true]) := (by have := ha.1 HIN.out; rw [he, this.1, this.2]); have HB6 := Lib.hid hb; have CN := Lib.hid (number_any (f * vn) true w6 (HW5.out.next hb)); have x6 := (hb.block z (lt_of_heap HX5.out)).trans HX5.out; have HX6 := Lib.hid x6; clear ha he hb x6)
    | (go_at_call 36; (with_reducible refine CN.out.mono ?_); rintro e w7 ⟨rfl, hw7⟩; have HX7 : Hid (w7.heap[z]? = some (.cells #[.int .i64 f, .bool tn, .slice uo um uk, .int .i64 7, .string nm, .slice (some a) em ek, .slice tb tm tk] 70 (0, 0))) := Lib.hid (by rw [← hw7]; exact (Below.heap_setCell _ _ _ _ (by have := HWZ.out; show z ≠ wb; omega)).trans HX6.out); have HW7 := Lib.hid hw7; clear hw7 z0 c0; have c0 : w7.cell? ⟨z, 0, none⟩ = some (.int .i64 f) := cell_blk HX7.out 0; have z0 : w7.frozen? ⟨z, 0, none⟩ = false := free_blk HX7.out 0))
  clear c0 c1 c2 c3 c4 c5 c6 v0 v1 v2 z0
  obtain ⟨W8, hW8⟩ : ∃ X, w7.setCell ⟨z, 0, none⟩ (.int .i64 (f * vn)) = X := ⟨_, rfl⟩
  have x8 : W8.heap[z]? = some (.cells #[.int .i64 (f * vn), .bool tn, .slice uo um uk, .int .i64 7, .string nm, .slice (some a) em ek, .slice tb tm tk] 70 (0, 0)) := by rw [← hW8]; exact heap_set_at (i := 0) _ HX7.out
  have hz1 : w.heap.size ≤ z := by rw [HZ.out]; exact Nat.le_refl _
  have hne : wb ≠ z := by have := HWZ.out; omega
  have k8 : Only [wb] w W8 := by
    rw [← hW8, ← HW7.out]
    exact ((HO5.out.trans (only_of HB6.out [wb]) (fun x hx => .inl hx)).set (a := ⟨wb, 4, none⟩) (.inl (by simp)) _).set (a := ⟨z, 0, none⟩) (.inr hz1) _
  have y8 : W8.heap[wb]? = some (.cells #[.int .i64 day, .slice fa F.length fc, pv, gv, .bool false] 67 (0, 0)) := by
    rw [← hW8, ← HW7.out, Below.heap_setCell _ _ _ _ hne]
    exact heap_set_at (i := 4) _ (HW5.out.next HB6.out).hd
  rw [hW8]
  have hl := HW.out.leap k8 y8
  have CV := Lib.hid (CT.out W8 hl.2 hl.1)
  have HF8 := Lib.hid hl.2
  obtain ⟨c0, c1, c2, c3, c4, c5, c6⟩ := seven x8
  clear hW8 x8 hz1 hne k8 y8 hl
  go_wp2_with (go_at_call 38; (with_reducible refine CV.out.mono ?_); rintro e w9 ha; have HA9 := Lib.hid ha; obtain rfl : e = Ending.returned (.tuple #[]) := ha.1; clear ha)
  go_end0
  exact HA9.out.from HF8.out

set_option maxRecDepth 100000 in
set_option maxHeartbeats 8000000 in
theorem see_far7 (f : Int) (tn : Bool) (uo : Option Addr) (um uk : Nat) (nm : ByteArray) (a : Addr) (em ek : Nat) (tb : Option Addr) (tm tk : Nat) (xo xn : Int) (xs : ByteArray) (bo : Option Addr) (xl xk : Nat) (vk vn : Int) (vb : Bool) (w : World) (h : Wk B wb day fa fc F l G false pv gv w) (he : 0 < em) (hx : ∀ V, Below w.heap.size w V → FourX V a (.int .i64 xo) (.int .i64 xn) (.string xs) (.slice bo xl xk))
    (hE : ∀ V, Below w.heap.size w V → Wk B wb day fa fc F l G false pv gv V → Calls Try.prog 44 #[.pointer (some ⟨wb, 0, none⟩), .agg #[.int .i64 xo, .int .i64 xn, .string xs, .slice bo xl xk]] V fun e w' => e = .returned (.agg #[.int .i64 vk, .int .i64 vn, .bool vb]) ∧ Wk B wb day fa fc F l G (vk == 3) pv gv w' ∧ Fr wb pv gv pv gv V w' ∧ Only [wb] V w') (k3 : (vk == 3) = false) (ky : (vk == 2 && vb) = false) (k1 : (vk == 1) = true) (f0 : -9223372036854775808 ≤ f ∧ f ≤ 9223372036854775807) (n0 : -9223372036854775808 ≤ vn ∧ vn ≤ 9223372036854775807) (hin : ¬ (-9223372036854775808 ≤ f * vn ∧ f * vn ≤ 9223372036854775807)) (g : Got) (hT : ∀ V, Fr wb pv gv pv gv w V → Wk B wb day fa fc F l G true pv gv V → Calls Try.prog 38 #[.pointer (some ⟨wb, 0, none⟩), .agg #[.int .i64 0, .bool tn, .slice uo um uk, .int .i64 7, .string nm, .slice (some a) em ek, .slice tb tm tk], .int .i64 0] V (AcP B wb day fa fc F l G pv gv none V)) :
    Calls Try.prog 39 #[.pointer (some ⟨wb, 0, none⟩), .agg #[.int .i64 f, .bool tn, .slice uo um uk, .int .i64 7, .string nm, .slice (some a) em ek, .slice tb tm tk]] w (AcP B wb day fa fc F l G pv gv none w) := by
  have CT := Lib.hid hT
  have CM := Lib.hid fun V => Nu.mul_num f vn f0.1 f0.2 n0.1 n0.2 V
  have HIN := Lib.hid hin
  clear hT hin f0 n0
  have HW := Lib.hid h
  have CX := Lib.hid hx
  have CE := Lib.hid hE
  have e1 : (0 : Int) < (em : Int) := by omega
  clear h hx hE he
  go_enter Try.func39, Try.ntmps39
  go_upto_region 1 with fail
  obtain ⟨W, hW⟩ : ∃ X, w.alloc (.cells #[.int .i64 f, .bool tn, .slice uo um uk, .int .i64 7, .string nm, .slice (some a) em ek, .slice tb tm tk] 70) = X := ⟨_, rfl⟩
  obtain ⟨g1, b1, s1⟩ := seven_made (.int .i64 f) (.bool tn) (.slice uo um uk) (.int .i64 7) (.string nm) (.slice (some a) em ek) (.slice tb tm tk) 70 w W hW
  have GA := Lib.hid (box_four (v0 := .int .i64 xo) (v1 := .int .i64 xn) (v2 := .string xs) (v3 := .slice bo xl xk) (T := 53) g1 b1 s1)
  obtain ⟨z, hz⟩ : ∃ z, z = w.heap.size := ⟨_, rfl⟩
  rw [hW, ← hz]
  rw [← hz] at b1
  obtain ⟨c0, c1, c2, c3, c4, c5, c6⟩ := seven b1
  obtain ⟨y0, y1, y2, y3⟩ := CX.out W g1
  obtain ⟨⟨r0, r1, r2, r3⟩, p0, p1, p2, p3⟩ := new_zero W (.int .i64 0) (.int .i64 0) (.string ⟨#[]⟩) (.slice none 0 0) 53
  have HZ := Lib.hid hz
  have HS1 := Lib.hid s1
  clear hW b1 g1 s1 hz
  go_upto_region 2 with fail
  clear c0 c1 c2 c3 c4 c5 c6 y0 y1 y2 y3 r0 r1 r2 r3 p0 p1 p2 p3
  obtain ⟨W2, hW2⟩ : ∃ X, W.alloc (.cells #[.int .i64 xo, .int .i64 xn, .string xs, .slice bo xl xk] 53) = X := ⟨_, rfl⟩
  obtain ⟨g2, x2, q2⟩ := GA.out W2 hW2
  have s2 : W.heap.size = z + 1 := by rw [HZ.out]; exact HS1.out
  rw [← HZ.out] at x2 q2
  rw [hW2, s2]
  have HG := Lib.hid g2
  have HX := Lib.hid x2
  have HY := Lib.hid q2
  obtain ⟨d0, d1, d2, d3⟩ := quad q2
  clear hW2 g2 x2 q2 GA s2 HS1
  go_upto_region 4 with (go_at_call 44; (with_reducible refine (CE.out _ HG.out (HW.out.next HG.out)).mono ?_); rintro e w3 ⟨rfl, hw3, hf3, ho3⟩; have HW3 := Lib.hid hw3; have HO3 := Lib.hid ho3; clear hw3 hf3 ho3; obtain ⟨⟨r0, r1, r2⟩, p0, p1, p2⟩ := three_zero w3 (.int .i64 0) (.int .i64 0) (.bool false) 99)
  clear d0 d1 d2 d3 r0 r1 r2 p0 p1 p2
  obtain ⟨u, hu⟩ : ∃ u, u = w3.heap.size := ⟨_, rfl⟩
  obtain ⟨W4, hW4⟩ : ∃ X, w3.alloc (.cells #[.int .i64 vk, .int .i64 vn, .bool vb] 99) = X := ⟨_, rfl⟩
  obtain ⟨g4, x4, s4⟩ := three_made (.int .i64 vk) (.int .i64 vn) (.bool vb) 99 w3 W4 hW4
  rw [hW4, ← hu]
  rw [← hu] at x4
  have hwz : wb < z := by rw [HZ.out]; exact HW.out.lt
  have HX4 : Hid (W4.heap[z]? = some (.cells #[.int .i64 f, .bool tn, .slice uo um uk, .int .i64 7, .string nm, .slice (some a) em ek, .slice tb tm tk] 70 (0, 0))) := Lib.hid ((g4.block z (Nat.lt_of_lt_of_le (lt_of_heap HX.out) HO3.out.size)).trans ((HO3.out.block z (lt_of_heap HX.out) (fun hm => by have := List.mem_singleton.1 hm; omega)).trans HX.out))
  have HY4 : Hid (W4.heap[z + 1]? = some (.cells #[.int .i64 xo, .int .i64 xn, .string xs, .slice bo xl xk] 53 (0, 0))) := Lib.hid ((g4.block (z + 1) (Nat.lt_of_lt_of_le (lt_of_heap HY.out) HO3.out.size)).trans ((HO3.out.block (z + 1) (lt_of_heap HY.out) (fun hm => by have := List.mem_singleton.1 hm; omega)).trans HY.out))
  have HU4 := Lib.hid x4
  have HO4 : Hid (Only [wb] w W4) := Lib.hid (((only_of HG.out [wb]).trans HO3.out (fun x hx => .inl hx)).trans (only_of g4 [wb]) (fun x hx => .inl hx))
  have HD4 : Hid (W4.heap[wb]? = some (.cells #[.int .i64 day, .slice fa F.length fc, pv, gv, .bool (vk == 3)] 67 (0, 0))) := Lib.hid ((g4.block wb HW3.out.lt).trans HW3.out.hd)
  have HWZ := Lib.hid hwz
  clear hu hW4 g4 x4 s4 hwz HO3 HW3 HX HY HG
  have b4 : W4.cell? ⟨wb, 4, none⟩ = some (.bool (vk == 3)) := cell_blk HD4.out 4
  obtain ⟨c0, c1, c2, c3, c4, c5, c6⟩ := seven HX4.out
  obtain ⟨v0, v1, v2⟩ := trio HU4.out
  rw [k3] at b4
  have HK3 := Lib.hid k3
  have HY2 := Lib.hid ky
  go_upto_region 11 with (go_at_call 43; (with_reducible refine (yes_any ⟨vk, vn, vb⟩ _).mono ?_); rintro e w5 ⟨he5, hb5⟩; obtain rfl : e = Ending.returned (.bool false) := (by rw [he5]; exact congrArg (fun b => Ending.returned (Value.bool b)) HY2.out); have HB5 := Lib.hid hb5; clear he5 hb5)
  have HX5 : Hid (w5.heap[z]? = some (.cells #[.int .i64 f, .bool tn, .slice uo um uk, .int .i64 7, .string nm, .slice (some a) em ek, .slice tb tm tk] 70 (0, 0))) := Lib.hid ((HB5.out.block z (lt_of_heap HX4.out)).trans HX4.out)
  have HU5 : Hid (w5.heap[u]? = some (.cells #[.int .i64 vk, .int .i64 vn, .bool vb] 99 (0, 0))) := Lib.hid ((HB5.out.block u (lt_of_heap HU4.out)).trans HU4.out)
  have HO5 : Hid (Only [wb] w w5) := Lib.hid (HO4.out.trans (only_of HB5.out [wb]) (fun x hx => .inl hx))
  have HD5 : Hid (w5.heap[wb]? = some (.cells #[.int .i64 day, .slice fa F.length fc, pv, gv, .bool false] 67 (0, 0))) := Lib.hid (by have := (HB5.out.block wb (lt_of_heap HD4.out)).trans HD4.out; rw [HK3.out] at this; exact this)
  clear c0 c1 c2 c3 c4 c5 c6 v0 v1 v2 b4
  obtain ⟨c0, c1, c2, c3, c4, c5, c6⟩ := seven HX5.out
  obtain ⟨v0, v1, v2⟩ := trio HU5.out
  have hl := HW.out.leap HO5.out HD5.out
  have HW5 := Lib.hid hl.1
  clear hl
  have z0 := free_blk HX5.out 0
  go_upto_region 13 with (first
    | (go_at_call 54; (with_reducible refine (CM.out _).mono ?_); rintro e w6 ⟨n, ok, he, ha, hb⟩; obtain rfl : e = Ending.returned (.tuple #[.int .i64 0, .bool false]) := (by have := ha.2 HIN.out; rw [he, this.1, this.2]); have HB6 := Lib.hid hb; have CN := Lib.hid (number_any 0 false w6 (HW5.out.next hb)); have x6 := (hb.block z (lt_of_heap HX5.out)).trans HX5.out; have HX6 := Lib.hid x6; clear ha he hb x6)
    | (go_at_call 36; (with_reducible refine CN.out.mono ?_); rintro e w7 ⟨rfl, hw7⟩; have HX7 : Hid (w7.heap[z]? = some (.cells #[.int .i64 f, .bool tn, .slice uo um uk, .int .i64 7, .string nm, .slice (some a) em ek, .slice tb tm tk] 70 (0, 0))) := Lib.hid (by rw [← hw7]; exact (Below.heap_setCell _ _ _ _ (by have := HWZ.out; show z ≠ wb; omega)).trans HX6.out); have HW7 := Lib.hid hw7; clear hw7 z0 c0; have c0 : w7.cell? ⟨z, 0, none⟩ = some (.int .i64 f) := cell_blk HX7.out 0; have z0 : w7.frozen? ⟨z, 0, none⟩ = false := free_blk HX7.out 0))
  clear c0 c1 c2 c3 c4 c5 c6 v0 v1 v2 z0
  obtain ⟨W8, hW8⟩ : ∃ X, w7.setCell ⟨z, 0, none⟩ (.int .i64 0) = X := ⟨_, rfl⟩
  have x8 : W8.heap[z]? = some (.cells #[.int .i64 0, .bool tn, .slice uo um uk, .int .i64 7, .string nm, .slice (some a) em ek, .slice tb tm tk] 70 (0, 0)) := by rw [← hW8]; exact heap_set_at (i := 0) _ HX7.out
  have hz1 : w.heap.size ≤ z := by rw [HZ.out]; exact Nat.le_refl _
  have hne : wb ≠ z := by have := HWZ.out; omega
  have k8 : Only [wb] w W8 := by
    rw [← hW8, ← HW7.out]
    exact ((HO5.out.trans (only_of HB6.out [wb]) (fun x hx => .inl hx)).set (a := ⟨wb, 4, none⟩) (.inl (by simp)) _).set (a := ⟨z, 0, none⟩) (.inr hz1) _
  have y8 : W8.heap[wb]? = some (.cells #[.int .i64 day, .slice fa F.length fc, pv, gv, .bool true] 67 (0, 0)) := by
    rw [← hW8, ← HW7.out, Below.heap_setCell _ _ _ _ hne]
    exact heap_set_at (i := 4) _ (HW5.out.next HB6.out).hd
  rw [hW8]
  have hl := HW.out.leap k8 y8
  have CV := Lib.hid (CT.out W8 hl.2 hl.1)
  have HF8 := Lib.hid hl.2
  obtain ⟨c0, c1, c2, c3, c4, c5, c6⟩ := seven x8
  clear hW8 x8 hz1 hne k8 y8 hl
  go_wp2_with (go_at_call 38; (with_reducible refine CV.out.mono ?_); rintro e w9 ha; have HA9 := Lib.hid ha; obtain rfl : e = Ending.returned (.tuple #[]) := ha.1; clear ha)
  go_end0
  exact HA9.out.from HF8.out

set_option maxRecDepth 100000 in
set_option maxHeartbeats 8000000 in
theorem see_no8 (f : Int) (tn : Bool) (uo : Option Addr) (um uk : Nat) (nm : ByteArray) (a : Addr) (em ek : Nat) (tb : Option Addr) (tm tk : Nat) (xo xn : Int) (xs : ByteArray) (bo : Option Addr) (xl xk : Nat) (vk vn : Int) (vb : Bool) (w : World) (h : Wk B wb day fa fc F l G false pv gv w) (he : 0 < em) (hx : ∀ V, Below w.heap.size w V → FourX V a (.int .i64 xo) (.int .i64 xn) (.string xs) (.slice bo xl xk))
    (hE : ∀ V, Below w.heap.size w V → Wk B wb day fa fc F l G false pv gv V → Calls Try.prog 44 #[.pointer (some ⟨wb, 0, none⟩), .agg #[.int .i64 xo, .int .i64 xn, .string xs, .slice bo xl xk]] V fun e w' => e = .returned (.agg #[.int .i64 vk, .int .i64 vn, .bool vb]) ∧ Wk B wb day fa fc F l G (vk == 3) pv gv w' ∧ Fr wb pv gv pv gv V w' ∧ Only [wb] V w') (k3 : (vk == 3) = false) (ky : (vk == 2 && vb) = false) (un : List Xp) (x : Xp) (hum : um = un.length) (hul : um ≤ 900) (hq : ExL (Away wb pv gv w) w un uo) (hxx : xo = x.op ∧ xn = x.n ∧ xs = x.nm ∧ xl = x.args.length ∧ xl ≤ xk) (hxa : ExL (Away wb pv gv w) w x.args bo) (g : Got)
    (hT : ∀ va vc V, Fr wb pv gv pv gv w V → Wk B wb day fa fc F l G false pv gv V → um + 1 ≤ vc → ExL (Away wb pv gv V) V (un ++ [x]) va → Calls Try.prog 38 #[.pointer (some ⟨wb, 0, none⟩), .agg #[.int .i64 f, .bool tn, .slice va (um + 1) vc, .int .i64 8, .string nm, .slice (some a) em ek, .slice tb tm tk], .int .i64 0] V (AcP B wb day fa fc F l G pv gv g V)) :
    Calls Try.prog 39 #[.pointer (some ⟨wb, 0, none⟩), .agg #[.int .i64 f, .bool tn, .slice uo um uk, .int .i64 8, .string nm, .slice (some a) em ek, .slice tb tm tk]] w (AcP B wb day fa fc F l G pv gv g w) := by
  have CT := Lib.hid hT
  have HUM := Lib.hid hum
  have HUL := Lib.hid hul
  have HXX := Lib.hid (And.intro hxx hxa)
  have hS : ∀ b, Away wb pv gv w b → b < w.heap.size := fun b hb => hb.1
  have CC : Hid (∀ V, Only [wb] w V → Calls Try.prog 53 #[.slice uo um uk] V (ClX (Away wb pv gv w) un V)) := Lib.hid fun V hV => by
    rw [hum]
    exact clone_ex V (hq.stay (fun _ h => h) fun b hb => hV.block b (hS b hb) (fun hm => hb.2.1 (List.mem_singleton.1 hm))) (fun b hb => Nat.lt_of_lt_of_le (hS b hb) hV.size) (by omega)
  clear hT hum hul hq hxx hxa hS
  have HW := Lib.hid h
  have CX := Lib.hid hx
  have CE := Lib.hid hE
  have e1 : (0 : Int) < (em : Int) := by omega
  clear h hx hE he
  go_enter Try.func39, Try.ntmps39
  go_upto_region 1 with fail
  obtain ⟨W, hW⟩ : ∃ X, w.alloc (.cells #[.int .i64 f, .bool tn, .slice uo um uk, .int .i64 8, .string nm, .slice (some a) em ek, .slice tb tm tk] 70) = X := ⟨_, rfl⟩
  obtain ⟨g1, b1, s1⟩ := seven_made (.int .i64 f) (.bool tn) (.slice uo um uk) (.int .i64 8) (.string nm) (.slice (some a) em ek) (.slice tb tm tk) 70 w W hW
  have GA := Lib.hid (box_four (v0 := .int .i64 xo) (v1 := .int .i64 xn) (v2 := .string xs) (v3 := .slice bo xl xk) (T := 53) g1 b1 s1)
  obtain ⟨z, hz⟩ : ∃ z, z = w.heap.size := ⟨_, rfl⟩
  rw [hW, ← hz]
  rw [← hz] at b1
  obtain ⟨c0, c1, c2, c3, c4, c5, c6⟩ := seven b1
  obtain ⟨y0, y1, y2, y3⟩ := CX.out W g1
  obtain ⟨⟨r0, r1, r2, r3⟩, p0, p1, p2, p3⟩ := new_zero W (.int .i64 0) (.int .i64 0) (.string ⟨#[]⟩) (.slice none 0 0) 53
  have HZ := Lib.hid hz
  have HS1 := Lib.hid s1
  clear hW b1 g1 s1 hz
  go_upto_region 2 with fail
  clear c0 c1 c2 c3 c4 c5 c6 y0 y1 y2 y3 r0 r1 r2 r3 p0 p1 p2 p3
  obtain ⟨W2, hW2⟩ : ∃ X, W.alloc (.cells #[.int .i64 xo, .int .i64 xn, .string xs, .slice bo xl xk] 53) = X := ⟨_, rfl⟩
  obtain ⟨g2, x2, q2⟩ := GA.out W2 hW2
  have s2 : W.heap.size = z + 1 := by rw [HZ.out]; exact HS1.out
  rw [← HZ.out] at x2 q2
  rw [hW2, s2]
  have HG := Lib.hid g2
  have HX := Lib.hid x2
  have HY := Lib.hid q2
  obtain ⟨d0, d1, d2, d3⟩ := quad q2
  clear hW2 g2 x2 q2 GA s2 HS1
  go_upto_region 4 with (go_at_call 44; (with_reducible refine (CE.out _ HG.out (HW.out.next HG.out)).mono ?_); rintro e w3 ⟨rfl, hw3, hf3, ho3⟩; have HW3 := Lib.hid hw3; have HO3 := Lib.hid ho3; clear hw3 hf3 ho3; obtain ⟨⟨r0, r1, r2⟩, p0, p1, p2⟩ := three_zero w3 (.int .i64 0) (.int .i64 0) (.bool false) 99)
  clear d0 d1 d2 d3 r0 r1 r2 p0 p1 p2
  obtain ⟨u, hu⟩ : ∃ u, u = w3.heap.size := ⟨_, rfl⟩
  obtain ⟨W4, hW4⟩ : ∃ X, w3.alloc (.cells #[.int .i64 vk, .int .i64 vn, .bool vb] 99) = X := ⟨_, rfl⟩
  obtain ⟨g4, x4, s4⟩ := three_made (.int .i64 vk) (.int .i64 vn) (.bool vb) 99 w3 W4 hW4
  rw [hW4, ← hu]
  rw [← hu] at x4
  have hwz : wb < z := by rw [HZ.out]; exact HW.out.lt
  have HX4 : Hid (W4.heap[z]? = some (.cells #[.int .i64 f, .bool tn, .slice uo um uk, .int .i64 8, .string nm, .slice (some a) em ek, .slice tb tm tk] 70 (0, 0))) := Lib.hid ((g4.block z (Nat.lt_of_lt_of_le (lt_of_heap HX.out) HO3.out.size)).trans ((HO3.out.block z (lt_of_heap HX.out) (fun hm => by have := List.mem_singleton.1 hm; omega)).trans HX.out))
  have HY4 : Hid (W4.heap[z + 1]? = some (.cells #[.int .i64 xo, .int .i64 xn, .string xs, .slice bo xl xk] 53 (0, 0))) := Lib.hid ((g4.block (z + 1) (Nat.lt_of_lt_of_le (lt_of_heap HY.out) HO3.out.size)).trans ((HO3.out.block (z + 1) (lt_of_heap HY.out) (fun hm => by have := List.mem_singleton.1 hm; omega)).trans HY.out))
  have HU4 := Lib.hid x4
  have HO4 : Hid (Only [wb] w W4) := Lib.hid (((only_of HG.out [wb]).trans HO3.out (fun x hx => .inl hx)).trans (only_of g4 [wb]) (fun x hx => .inl hx))
  have HD4 : Hid (W4.heap[wb]? = some (.cells #[.int .i64 day, .slice fa F.length fc, pv, gv, .bool (vk == 3)] 67 (0, 0))) := Lib.hid ((g4.block wb HW3.out.lt).trans HW3.out.hd)
  have HWZ := Lib.hid hwz
  clear hu hW4 g4 x4 s4 hwz HO3 HW3 HX HY HG
  have b4 : W4.cell? ⟨wb, 4, none⟩ = some (.bool (vk == 3)) := cell_blk HD4.out 4
  obtain ⟨c0, c1, c2, c3, c4, c5, c6⟩ := seven HX4.out
  obtain ⟨v0, v1, v2⟩ := trio HU4.out
  rw [k3] at b4
  have HK3 := Lib.hid k3
  have HY2 := Lib.hid ky
  go_upto_region 7 with (go_at_call 43; (with_reducible refine (yes_any ⟨vk, vn, vb⟩ _).mono ?_); rintro e w5 ⟨he5, hb5⟩; obtain rfl : e = Ending.returned (.bool false) := (by rw [he5]; exact congrArg (fun b => Ending.returned (Value.bool b)) HY2.out); have HB5 := Lib.hid hb5; clear he5 hb5)
  have HX5 : Hid (w5.heap[z]? = some (.cells #[.int .i64 f, .bool tn, .slice uo um uk, .int .i64 8, .string nm, .slice (some a) em ek, .slice tb tm tk] 70 (0, 0))) := Lib.hid ((HB5.out.block z (lt_of_heap HX4.out)).trans HX4.out)
  have HU5 : Hid (w5.heap[u]? = some (.cells #[.int .i64 vk, .int .i64 vn, .bool vb] 99 (0, 0))) := Lib.hid ((HB5.out.block u (lt_of_heap HU4.out)).trans HU4.out)
  have HO5 : Hid (Only [wb] w w5) := Lib.hid (HO4.out.trans (only_of HB5.out [wb]) (fun x hx => .inl hx))
  have HD5 : Hid (w5.heap[wb]? = some (.cells #[.int .i64 day, .slice fa F.length fc, pv, gv, .bool false] 67 (0, 0))) := Lib.hid (by have := (HB5.out.block wb (lt_of_heap HD4.out)).trans HD4.out; rw [HK3.out] at this; exact this)
  clear c0 c1 c2 c3 c4 c5 c6 v0 v1 v2 b4
  obtain ⟨c0, c1, c2, c3, c4, c5, c6⟩ := seven HX5.out
  obtain ⟨v0, v1, v2⟩ := trio HU5.out
  have HY5 : Hid (w5.heap[z + 1]? = some (.cells #[.int .i64 xo, .int .i64 xn, .string xs, .slice bo xl xk] 53 (0, 0))) := Lib.hid ((HB5.out.block (z + 1) (lt_of_heap HY4.out)).trans HY4.out)
  obtain ⟨d0, d1, d2, d3⟩ := quad HY5.out
  clear v0 v1 v2
  go_cut [] (fun wx => ∃ (va : Option Addr) (vc : Nat) (qs : List Q4), Hid (Only [z] w5 wx ∧ wx.heap[z]? = some (.cells #[.int .i64 f, .bool tn, .slice va (um + 1) vc, .int .i64 8, .string nm, .slice (some a) em ek, .slice tb tm tk] 70 (0, 0)) ∧ Row4 wx w5.heap.size 53 (.slice va (um + 1) vc) qs ∧ Fits (QX (Away wb pv gv w) wx) (un ++ [x]) qs))
  case first =>
    have KD : Hid (Only [wb] w w5.drew) := Lib.hid ⟨HO5.out.os, HO5.out.tape, HO5.out.output, HO5.out.size, HO5.out.block⟩
    have HBD : Hid (Below w5.heap.size w5 w5.drew) := Lib.hid (Below.refl _ _).drew
    have HBA : Hid (Below w5.heap.size w5 (w5.alloc (.cells #[.int .i64 xo, .int .i64 xn, .string xs, .slice bo xl xk] 53)).drew ∧ (w5.alloc (.cells #[.int .i64 xo, .int .i64 xn, .string xs, .slice bo xl xk] 53)).drew.heap[w5.heap.size]? = some (.cells #[.int .i64 xo, .int .i64 xn, .string xs, .slice bo xl xk] 53 (0, 0))) := Lib.hid ⟨((Below.refl _ _).alloc (Nat.le_refl _) _).drew, heap_alloc_new _ _⟩
    have KA : Hid (Only [wb] w (w5.alloc (.cells #[.int .i64 xo, .int .i64 xn, .string xs, .slice bo xl xk] 53)).drew) := Lib.hid (HO5.out.trans (only_of HBA.out.1 [wb]) (fun x hx => .inl hx))
    have c2a : (w5.alloc (.cells #[.int .i64 xo, .int .i64 xn, .string xs, .slice bo xl xk] 53)).cell? ⟨z, 2, none⟩ = some (.slice uo um uk) := cell_blk ((((Below.refl w5.heap.size w5).alloc (Nat.le_refl _) (.cells #[.int .i64 xo, .int .i64 xn, .string xs, .slice bo xl xk] 53)).block z (lt_of_heap HX5.out)).trans HX5.out) 2
    go_region_law (first
      | (refine step_appX rfl _ _ rfl w5.heap.size (.slice va um vc) qs rfl HR6.out w5.heap.size xo xn xs bo xl xk rfl HXA.out (by rw [HQL.out]; have := HUL.out; omega) HB6.out.size ?_; rw [HQL.out]; intro g' cap w8 hown hgr hor hgl; have HO8 := Lib.hid hown; have HR8 := Lib.hid hor; have HB8 : Hid (Below w5.heap.size w5 w8) := Lib.hid (HB6.out.grown hgr HB6.out.size (fun g hg => (HR6.out.lt hg).2)); have HX8 := Lib.hid ((HB8.out.block z (lt_of_heap HX5.out)).trans HX5.out); have e8 : w8.cell? ⟨z, 2, none⟩ = some (.slice uo um uk) := cell_blk HX8.out 2; have f8 : w8.frozen? ⟨z, 2, none⟩ = false := free_blk HX8.out 2; clear hown hgr hor hgl)
      | (refine step_appX rfl _ _ rfl w5.heap.size (.slice va um vc) qs rfl HRB.out w6.heap.size xo xn xs bo xl xk rfl HXB.out (by rw [HQL.out]; have := HUL.out; omega) HKB.out.size ?_; rw [HQL.out]; intro g' cap w8 hown hgr hor hgl; have HO8 := Lib.hid hown; have HR8 := Lib.hid hor; have HB8 : Hid (Below w5.heap.size w5 w8) := Lib.hid (HKB.out.grown hgr HKB.out.size (fun g hg => (HR6.out.lt hg).2)); have HX8 := Lib.hid ((HB8.out.block z (lt_of_heap HX5.out)).trans HX5.out); have e8 : w8.cell? ⟨z, 2, none⟩ = some (.slice uo um uk) := cell_blk HX8.out 2; have f8 : w8.frozen? ⟨z, 2, none⟩ = false := free_blk HX8.out 2; clear hown hgr hor hgl)
      | (go_simp; go_wp2_with (first | (go_at_call 53; (with_reducible refine (CC.out _ KD.out).mono ?_); rintro e w6 ⟨va, vc, qs, he, hr, hf, hb⟩; obtain rfl : e = Ending.returned (.slice va um vc) := (by rw [he, HUM.out]); have HB6 : Hid (Below w5.heap.size w5 w6) := Lib.hid (HBD.out.trans hb); have HR6 : Hid (Row4 w6 w5.heap.size 53 (.slice va um vc) qs) := Lib.hid (by rw [HUM.out]; exact hr.mono (by simp)); have HF6 := Lib.hid hf; have HQL : Hid (qs.length = um) := Lib.hid (by rw [HUM.out, HF6.out.1]); have HX6 := Lib.hid ((HB6.out.block z (lt_of_heap HX5.out)).trans HX5.out); have HY6 := Lib.hid ((HB6.out.block (z + 1) (lt_of_heap HY5.out)).trans HY5.out); obtain ⟨d0', d1', d2', d3'⟩ := quad HY6.out; have c2' : w6.cell? ⟨z, 2, none⟩ = some (.slice uo um uk) := cell_blk HX6.out 2;  have HKB : Hid (Below w5.heap.size w5 (w6.alloc (.cells #[.int .i64 xo, .int .i64 xn, .string xs, .slice bo xl xk] 53))) := Lib.hid (below_mono HB6.out ((Below.refl _ _).alloc (Nat.le_refl _) _) (Nat.le_refl _)); have HRB : Hid (Row4 (w6.alloc (.cells #[.int .i64 xo, .int .i64 xn, .string xs, .slice bo xl xk] 53)) w5.heap.size 53 (.slice va um vc) qs) := Lib.hid (HR6.out.stay fun g hg => Below.heap_alloc _ _ _ (HR6.out.lt hg).1); have HXB : Hid ((w6.alloc (.cells #[.int .i64 xo, .int .i64 xn, .string xs, .slice bo xl xk] 53)).heap[w6.heap.size]? = some (.cells #[.int .i64 xo, .int .i64 xn, .string xs, .slice bo xl xk] 53 (0, 0))) := Lib.hid (heap_alloc_new _ _); clear he hr hf hb) | (go_at_call 53; (with_reducible refine (CC.out _ KA.out).mono ?_); rintro e w6 ⟨va, vc, qs, he, hr, hf, hb⟩; obtain rfl : e = Ending.returned (.slice va um vc) := (by rw [he, HUM.out]); have HB6 : Hid (Below w5.heap.size w5 w6) := Lib.hid (HBA.out.1.trans (hb.mono (by simp))); have HR6 : Hid (Row4 w6 w5.heap.size 53 (.slice va um vc) qs) := Lib.hid (by rw [HUM.out]; exact hr.mono (by simp)); have HF6 := Lib.hid hf; have HQL : Hid (qs.length = um) := Lib.hid (by rw [HUM.out, HF6.out.1]); have HX6 := Lib.hid ((HB6.out.block z (lt_of_heap HX5.out)).trans HX5.out); have HY6 := Lib.hid ((HB6.out.block (z + 1) (lt_of_heap HY5.out)).trans HY5.out); obtain ⟨d0', d1', d2', d3'⟩ := quad HY6.out; have c2' : w6.cell? ⟨z, 2, none⟩ = some (.slice uo um uk) := cell_blk HX6.out 2;  have HXA : Hid (w6.heap[w5.heap.size]? = some (.cells #[.int .i64 xo, .int .i64 xn, .string xs, .slice bo xl xk] 53 (0, 0))) := Lib.hid ((hb.block _ (by simp)).trans HBA.out.2); clear he hr hf hb))))
    all_goals
      go_wp2_with fail
      go_meet
      have hgz : g' ≠ z := by
        have h5 := lt_of_heap HX5.out
        rcases HR8.out with e | e
        · have := (HR6.out.lt e).2; omega
        · have := HB6.out.size; (try simp at e); omega
      have hst : ∀ b, b ≠ z → (w8.setCell ⟨z, 2, none⟩ (.slice (some ⟨g', 0, none⟩) (um + 1) cap)).heap[b]? = w8.heap[b]? := fun b hb => Below.heap_setCell _ _ _ _ hb
      have hzw : w.heap.size ≤ z := by rw [HZ.out]; exact Nat.le_refl _
      have hS8 : ∀ b, Away wb pv gv w b → (w8.setCell ⟨z, 2, none⟩ (.slice (some ⟨g', 0, none⟩) (um + 1) cap)).heap[b]? = w5.heap[b]? := fun b hb => (hst b (by have := hb.1; omega)).trans (HB8.out.block b (Nat.lt_of_lt_of_le hb.1 HO5.out.size))
      refine ⟨some ⟨g', 0, none⟩, cap, qs ++ [(Value.int .i64 xo, Value.int .i64 xn, Value.string xs, Value.slice bo xl xk)], Lib.hid ⟨(only_of HB8.out [z]).set (a := ⟨z, 2, none⟩) (.inl (by simp)) _, heap_set_at (i := 2) _ HX8.out, HO8.out.stay (fun g hg => by cases hg; exact hst _ hgz), (HF6.out.imp fun y q hy => hy.stay (fun _ h => h) fun b hb => (hS8 b hb).trans (HB6.out.block b (Nat.lt_of_lt_of_le hb.1 HO5.out.size)).symm).snoc ?_⟩⟩
      obtain ⟨⟨h1, h2, h3, h4, h5⟩, h6⟩ := HXX.out
      exact ⟨bo, xk, by rw [h1, h2, h3, h4], by rw [← h4]; exact h5, h6.stay (fun _ h => h) fun b hb => (hS8 b hb).trans (HO5.out.block b hb.1 (fun hm => hb.2.1 (List.mem_singleton.1 hm)))⟩
  case rest =>
    obtain ⟨va, vc, qs, HC⟩ := hcut
    obtain ⟨hc1, hc2, hc3, hc4⟩ := HC.out
    have hzw : w.heap.size ≤ z := by rw [HZ.out]; exact Nat.le_refl _
    have k9 : Only [wb] w wc := ⟨hc1.os.trans HO5.out.os, hc1.tape.trans HO5.out.tape, hc1.output.trans HO5.out.output, Nat.le_trans HO5.out.size hc1.size, fun b hb hn => (hc1.block b (Nat.lt_of_lt_of_le hb HO5.out.size) (fun hm => by have := List.mem_singleton.1 hm; omega)).trans (HO5.out.block b hb hn)⟩
    have y9 := (hc1.block wb (lt_of_heap HD5.out) (fun hm => by have := List.mem_singleton.1 hm; have := HWZ.out; omega)).trans HD5.out
    have hl := HW.out.leap k9 y9
    have hform : um + 1 ≤ vc := by
      obtain ⟨a', c', e', h'⟩ := hc3.form
      injection e' with _ e2 e3
      omega
    have hx9 := (hc3.toX hc4).stay (T := Away wb pv gv wc) (w' := wc) (fun b hb => by
      rcases hb with hb | hb
      · exact hl.2.away hb
      · have := hc3.lt hb
        exact Away.new HW.out (Nat.le_trans HO5.out.size this.2) this.1) (fun _ _ => rfl)
    have CV := Lib.hid (CT.out va vc wc hl.2 hl.1 hform hx9)
    have HF9 := Lib.hid hl.2
    clear c0 c1 c2 c3 c4 c5 c6 d0 d1 d2 d3
    obtain ⟨c0, c1, c2, c3, c4, c5, c6⟩ := seven hc2
    clear hc1 hc2 hc3 hc4 hzw k9 y9 hl hform hx9
    go_wp2_with (go_at_call 38; (with_reducible refine CV.out.mono ?_); rintro e w9 ha; have HA9 := Lib.hid ha; obtain rfl : e = Ending.returned (.tuple #[]) := ha.1; clear ha)
    go_end0
    exact HA9.out.from HF9.out

end
end Go.Proofs.Ythhimllddgfddaa
namespace Go.Proofs.Ythhimllddgfddaa
open Go.ChangeShapes Go.WideShapes Go.RowKit Go.Deep Go.WideElems Go.Maps
set_option linter.unusedVariables false
set_option linter.unusedSimpArgs false
/-- What an op has within, and what is asked of its expressions. -/
def shp (op : Int) (e t : Nat) : Prop := (op = 3 → 1 ≤ t) ∧ (op = 4 → 2 ≤ t) ∧ (op = 6 ∨ op = 7 ∨ op = 8 → 1 ≤ e ∧ 1 ≤ t) ∧ 1 ≤ op ∧ op ≤ 9
def Tr.fine (PE : Xp → Prop) : Tr → Prop
  | .mk op _ es l => shp op es.length l.length ∧ (∀ x ∈ es, PE x) ∧ fines PE l
where fines (PE : Xp → Prop) : List Tr → Prop
  | [] => True
  | x :: t => Tr.fine PE x ∧ fines PE t
theorem fines_all (PE : Xp → Prop) (l : List Tr) : Tr.fine.fines PE l ↔ ∀ y ∈ l, y.fine PE := by
  induction l with
  | nil => simp [Tr.fine.fines]
  | cons x t ih => simp [Tr.fine.fines, ih]
theorem Tr.fine_eq (PE : Xp → Prop) (t : Tr) : t.fine PE ↔ shp t.op t.exprs.length t.terms.length ∧ (∀ x ∈ t.exprs, PE x) ∧ ∀ y ∈ t.terms, y.fine PE := by
  cases t
  simp [Tr.fine, fines_all, Tr.op, Tr.exprs, Tr.terms]
theorem head_acq (ev : Xp → Vl) {l : List Tr} {x : Tr} (h : l[0]? = some x) : (l.map (Tr.acq ev)).headD noA = x.acq ev := by
  cases l with
  | nil => simp at h
  | cons a t => simp at h; subst h; rfl
theorem next_acq (ev : Xp → Vl) {l : List Tr} {x : Tr} (h : l[1]? = some x) : (l.map (Tr.acq ev)).getD 1 noA = x.acq ev := by
  simp [List.getD, h]
theorem head_x0 {l : List Xp} {x : Xp} (h : l[0]? = some x) : l.headD x0 = x := by
  cases l with
  | nil => simp at h
  | cons a t => simp at h; subst h; rfl
theorem cnts_two {l : List Tr} {x y : Tr} (hx : l[0]? = some x) (hy : l[1]? = some y) : x.cnt + y.cnt ≤ Tr.cnt.cnts l := by
  match l, hx, hy with
  | a :: b :: t, hx, hy =>
    simp at hx hy
    subst hx hy
    simp only [Tr.cnt.cnts]
    omega
theorem get_of {α : Type} {l : List α} {i : Nat} (h : i < l.length) : ∃ x, l[i]? = some x ∧ x ∈ l := ⟨_, List.getElem?_eq_getElem h, List.getElem_mem h⟩
theorem head_len (ev : Xp → Vl) {l : List Tr} (ih : ∀ y ∈ l, ∀ f tn un p g, y.acq ev f tn un = some (p, g) → p.length ≤ y.cnt ∧ g.length ≤ y.cnt) {f : Int} {tn : Bool} {un : List Xp} {p : List Pt} {g : List Fw} (h : (l.map (Tr.acq ev)).headD noA f tn un = some (p, g)) : p.length ≤ Tr.cnt.cnts l ∧ g.length ≤ Tr.cnt.cnts l := by
  cases l with
  | nil =>
    simp [noA] at h
    obtain ⟨rfl, rfl⟩ := h
    simp
  | cons a t =>
    have := ih a (by simp) f tn un p g h
    simp [Tr.cnt.cnts]
    omega
theorem next_len (ev : Xp → Vl) {l : List Tr} (ih : ∀ y ∈ l, ∀ f tn un p g, y.acq ev f tn un = some (p, g) → p.length ≤ y.cnt ∧ g.length ≤ y.cnt) {f : Int} {tn : Bool} {un : List Xp} {p p2 : List Pt} {g g2 : List Fw} (h : (l.map (Tr.acq ev)).headD noA f tn un = some (p, g)) (h2 : (l.map (Tr.acq ev)).getD 1 noA f tn un = some (p2, g2)) : p.length + p2.length ≤ Tr.cnt.cnts l ∧ g.length + g2.length ≤ Tr.cnt.cnts l := by
  match l, ih, h, h2 with
  | [], ih, h, h2 =>
    simp [noA] at h h2
    obtain ⟨rfl, rfl⟩ := h
    obtain ⟨rfl, rfl⟩ := h2
    simp
  | [a], ih, h, h2 =>
    have h1 := ih a (by simp) f tn un p g h
    simp [noA] at h2
    obtain ⟨rfl, rfl⟩ := h2
    simp [Tr.cnt.cnts]
    omega
  | a :: b :: t, ih, h, h2 =>
    have h1 := ih a (by simp) f tn un p g h
    have h3 := ih b (by simp) f tn un p2 g2 (by simpa [List.getD] using h2)
    simp [Tr.cnt.cnts]
    omega
/-- No more parts and flows come of a term than it has nodes. -/
theorem acq_len (ev : Xp → Vl) (t : Tr) : ∀ f tn un p g, t.acq ev f tn un = some (p, g) → p.length ≤ t.cnt ∧ g.length ≤ t.cnt := by
  induction t using Tr.ind with
  | h t IH =>
  intro f tn un p g h
  rw [Tr.acq_eq] at h
  have hc := t.cnt_eq
  unfold acqN at h
  split at h
  · simp only [Option.some.injEq, Prod.mk.injEq] at h
    obtain ⟨rfl, rfl⟩ := h
    split <;> simp <;> omega
  split at h
  · split at h
    · have := head_len ev IH h; omega
    · cases h
  split at h
  · unfold both at h
    split at h
    · cases h
    · rename_i p1 g1 h1
      split at h
      · cases h
      · rename_i p2 g2 h2
        simp only [Option.some.injEq, Prod.mk.injEq] at h
        obtain ⟨rfl, rfl⟩ := h
        have := next_len ev IH h1 h2
        simp only [List.length_append]
        omega
  split at h
  · simp only [Option.some.injEq, Prod.mk.injEq] at h
    obtain ⟨rfl, rfl⟩ := h
    simp
    omega
  split at h
  · dsimp only at h
    split at h
    · cases h
    split at h
    · split at h
      · simp only [Option.some.injEq, Prod.mk.injEq] at h
        obtain ⟨rfl, rfl⟩ := h
        simp
      · have := head_len ev IH h; omega
    split at h
    · have := head_len ev IH h; omega
    split at h
    · split at h
      · have := head_len ev IH h; omega
      · cases h
    · simp only [Option.some.injEq, Prod.mk.injEq] at h
      obtain ⟨rfl, rfl⟩ := h
      simp
      omega
  · simp only [Option.some.injEq, Prod.mk.injEq] at h
    obtain ⟨rfl, rfl⟩ := h
    simp
theorem ptV_op {f : Int} {tn : Bool} {un : List Xp} {t : Tr} {uo : Option Addr} {uk : Nat} {eo : Option Addr} {ek : Nat} {tb : Option Addr} {tk : Nat} {o : Int} (h : t.op = o) : ptV ⟨⟨f, tn, un, t⟩, uo, uk, eo, ek, tb, tk⟩ = .agg #[.int .i64 f, .bool tn, .slice uo un.length uk, .int .i64 o, .string t.nm, .slice eo t.exprs.length ek, .slice tb t.terms.length tk] := by rw [← h]
section
variable {B wb : Nat} {day : Int} {fa : Option Addr} {fc : Nat} {F : List Fx}
/-- What acquiring a term means, at any state. -/
def AcqT (B wb : Nat) (day : Int) (fa : Option Addr) (fc : Nat) (F : List Fx) (ev : Xp → Vl) (t : Tr) : Prop := ∀ (f : Int) (tn : Bool) (un : List Xp) (uo : Option Addr) (uk : Nat) (eo : Option Addr) (ek : Nat) (tb : Option Addr) (tk : Nat) (l : List Pp) (G : List Fw) (pv gv : Value) (w : World), in64 f = true → Wk B wb day fa fc F l G false pv gv w → QP (Away wb pv gv w) w ⟨⟨f, tn, un, t⟩, uo, uk, eo, ek, tb, tk⟩ → l.length + t.cnt ≤ 900 → G.length + t.cnt ≤ 900 → un.length + t.dep ≤ 900 →
    Calls Try.prog 21 #[.pointer (some ⟨wb, 0, none⟩), ptV ⟨⟨f, tn, un, t⟩, uo, uk, eo, ek, tb, tk⟩] w (AcP B wb day fa fc F l G pv gv (t.acq ev f tn un) w)
theorem within_acq {ev : Xp → Vl} {i : Nat} {t x : Tr} (hx : t.terms[i]? = some x) (IH : AcqT B wb day fa fc F ev x) {f : Int} {tn : Bool} {un : List Xp} {uo : Option Addr} {uk : Nat} {eo : Option Addr} {ek : Nat} {tb : Option Addr} {tk : Nat} {l : List Pp} {G : List Fw} {pv gv : Value} {w : World} (hf : in64 f = true) (h : Wk B wb day fa fc F l G false pv gv w) (hq : QP (Away wb pv gv w) w ⟨⟨f, tn, un, t⟩, uo, uk, eo, ek, tb, tk⟩) (hl : l.length + x.cnt ≤ 900) (hg : G.length + x.cnt ≤ 900) (hu : un.length + x.dep ≤ 900) :
    Calls Try.prog 38 #[.pointer (some ⟨wb, 0, none⟩), ptV ⟨⟨f, tn, un, t⟩, uo, uk, eo, ek, tb, tk⟩, .int .i64 (i : Int)] w (AcP B wb day fa fc F l G pv gv (x.acq ev f tn un) w) :=
  within_go _ x (x.acq ev f tn un) w h hq hx (fun r V hr hV hqr => by
    obtain ⟨rp, ruo, ruk, reo, rek, rtb, rtk⟩ := r
    have hr : rp = ⟨f, tn, un, x⟩ := hr
    subst hr
    exact IH f tn un ruo ruk reo rek rtb rtk l G pv gv V hf (h.next hV) hqr hl hg hu)
theorem QP.fr {wb : Nat} {pv gv pv' gv' : Value} {w w' : World} {q : Pp} (h : QP (Away wb pv gv w) w q) (k : Fr wb pv gv pv' gv' w w') : QP (Away wb pv' gv' w') w' q := h.stay (fun b hb => k.away hb) (fun b hb => k.keep hb)
theorem QP.as {S : Nat → Prop} {w : World} {f f' : Int} {tn tn' : Bool} {un : List Xp} {t : Tr} {uo : Option Addr} {uk : Nat} {eo : Option Addr} {ek : Nat} {tb : Option Addr} {tk : Nat} (h : QP S w ⟨⟨f, tn, un, t⟩, uo, uk, eo, ek, tb, tk⟩) : QP S w ⟨⟨f', tn', un, t⟩, uo, uk, eo, ek, tb, tk⟩ := ⟨h.uc, h.un, h.tr⟩
theorem in64_iff (n : Int) : in64 n = true ↔ -9223372036854775808 ≤ n ∧ n ≤ 9223372036854775807 := by unfold in64; simp
theorem stay_acp {f : Int} {tn : Bool} {un : List Xp} {t : Tr} {uo : Option Addr} {uk : Nat} {eo : Option Addr} {ek : Nat} {tb : Option Addr} {tk : Nat} {l : List Pp} {G : List Fw} {pv gv : Value} {w : World} (h : Wk B wb day fa fc F l G false pv gv w) (hq : QP (Away wb pv gv w) w ⟨⟨f, tn, un, t⟩, uo, uk, eo, ek, tb, tk⟩) (hl : l.length ≤ 900) (hu : un.length ≤ 900) :
    Calls Try.prog 40 #[.pointer (some ⟨wb, 0, none⟩), ptV ⟨⟨f, tn, un, t⟩, uo, uk, eo, ek, tb, tk⟩] w (AcP B wb day fa fc F l G pv gv (some ([⟨f, tn, un, t⟩], [])) w) := by
  refine (stay_any _ w h hq hl hu).mono ?_
  rintro e w' ⟨he, l', pv', h1, h2, h3⟩
  exact ⟨he, l', G, false, pv', gv, h2, h3, rfl, h1, by simp⟩
end
end Go.Proofs.Ythhimllddgfddaa
namespace Go.Proofs.Ythhimllddgfddaa
open Go.ChangeShapes Go.WideShapes Go.RowKit Go.Deep Go.WideElems Go.Maps
set_option linter.unusedVariables false
set_option linter.unusedSimpArgs false
set_option maxHeartbeats 4000000 in
theorem acquire_any {B wb : Nat} {day : Int} {fa : Option Addr} {fc : Nat} {F : List Fx} {PE : Xp → Prop} {ev : Xp → Vl}
    (hE : ∀ x, PE x → ∀ (S : Nat → Prop) (bo : Option Addr) (k : Nat) (V : World), (∀ b, S b → b < V.heap.size) → ExL S V x.args bo → x.args.length ≤ k → FxA S fa F V → Calls Try.prog 57 #[exV x bo k, .agg #[.int .i64 day, .slice fa F.length fc]] V fun e w' => e = .returned (vlV (ev x)) ∧ Below V.heap.size V w')
    (hN : ∀ x, PE x → in64 (ev x).n = true) (t : Tr) : t.fine PE → AcqT B wb day fa fc F ev t := by
  induction t using Tr.ind with
  | h t IH =>
  intro hfi f tn un uo uk eo ek tb tk l G pv gv w hf h hq hl hg hu
  obtain ⟨⟨s3, s4, s6, o1, o9⟩, hpe, hch⟩ := (t.fine_eq PE).1 hfi
  have hcn := t.cnt_eq
  have hde := t.dep_eq
  have hT : t.acq ev = acqN ev t (t.terms.map (Tr.acq ev)) := t.acq_eq ev
  have hkid : ∀ {i : Nat} {x : Tr}, t.terms[i]? = some x → x.cnt + 1 ≤ t.cnt ∧ x.dep + 1 ≤ t.dep := fun {i x} hx => by
    have := tcnts_in hx
    omega
  have hop : t.op = 1 ∨ t.op = 2 ∨ t.op = 3 ∨ t.op = 4 ∨ t.op = 5 ∨ t.op = 6 ∨ t.op = 7 ∨ t.op = 8 ∨ t.op = 9 := by omega
  have hu0 : un.length ≤ 900 := by omega
  rcases hop with ho | ho | ho | ho | ho | ho | ho | ho | ho
  · rw [ptV_op ho, show t.acq ev f tn un = some ([], []) from by rw [hT]; unfold acqN; simp [ho]]
    exact acq_zero f tn uo un.length uk t.nm eo t.exprs.length ek tb t.terms.length tk w h
  · rw [ptV_op ho]
    exact acq_one f tn uo un.length uk t.nm eo t.exprs.length ek tb t.terms.length tk w h (by omega) _ (fun e => by rw [hT]; unfold acqN; simp [ho, e]) (fun e => by rw [hT]; unfold acqN; simp [ho, e])
  · obtain ⟨x, hx, hm⟩ := get_of (show 0 < t.terms.length by have := s3 ho; omega)
    have hk := hkid hx
    rw [ptV_op ho]
    have hlt : 0 < t.terms.length := by have := s3 ho; omega
    refine acq_give f tn uo un.length uk t.nm eo t.exprs.length ek tb t.terms.length tk w h ((in64_iff f).1 hf) (x.acq ev (-f) (!tn) un) _ (fun e => by rw [hT]; unfold acqN; rw [if_neg (by omega), if_pos ho, if_pos e, head_acq ev hx]) (fun e => by rw [hT]; unfold acqN; rw [if_neg (by omega), if_pos ho, if_neg e]) (fun hok V k hW => ?_) (fun V k hW => ?_)
    · have := within_acq (i := 0) hx (IH x hm (hch x hm)) (f := -f) (tn := !tn) ((in64_iff _).2 (by have := (in64_iff f).1 hf; omega)) hW ((hq.fr k).as) (by omega) (by omega) (by omega)
      rw [ptV_op ho] at this
      exact this
    · have := within_no (i := 0) ⟨⟨0, !tn, un, t⟩, uo, uk, eo, ek, tb, tk⟩ V hW ((hq.fr k).as) hlt
      rw [ptV_op ho] at this
      exact this
  · have hlt := s4 ho
    obtain ⟨x, hx, hm⟩ := get_of (show 0 < t.terms.length by omega)
    obtain ⟨y, hy, hm2⟩ := get_of (show 1 < t.terms.length by omega)
    have hk := hkid hx
    have hk2 := hkid hy
    have hc2 := cnts_two hx hy
    rw [ptV_op ho, show t.acq ev f tn un = both (x.acq ev f tn un) (y.acq ev f tn un) from by rw [hT]; unfold acqN; rw [if_neg (by omega), if_neg (by omega), if_pos ho, head_acq ev hx, next_acq ev hy]]
    refine acq_and f tn uo un.length uk t.nm eo t.exprs.length ek tb t.terms.length tk w h _ _ (fun V hV => ?_) (fun l' G' pv' gv' V k hW hr => ?_) (fun l' G' pv' gv' V k hW => ?_)
    · have := within_acq (i := 0) hx (IH x hm (hch x hm)) hf (h.next hV) (hq.fr (Fr.of hV)) (by omega) (by omega) (by omega)
      rw [ptV_op ho] at this
      exact this
    · obtain ⟨p, g, hp, hl', hg'⟩ := hr
      have hlen := acq_len ev x f tn un p g hp
      have h1 : l'.length = l.length + p.length := by have := congrArg List.length hl'; simpa using this
      have h2 : G'.length = G.length + g.length := by rw [hg']; simp
      have := within_acq (i := 1) hy (IH y hm2 (hch y hm2)) hf hW (hq.fr k) (by omega) (by omega) (by omega)
      rw [ptV_op ho] at this
      exact this
    · have := within_no (i := 1) ⟨⟨f, tn, un, t⟩, uo, uk, eo, ek, tb, tk⟩ V hW (hq.fr k) (by show 1 < t.terms.length; omega)
      rw [ptV_op ho] at this
      exact this
  · rw [ptV_op ho, show t.acq ev f tn un = some ([⟨f, tn, un, t⟩], []) from by rw [hT]; unfold acqN; simp [ho]]
    refine acq_stay5 f tn uo un.length uk t.nm eo t.exprs.length ek tb t.terms.length tk w h _ (fun V hV => ?_)
    have := stay_acp (h.next hV) (hq.fr (Fr.of hV)) (by omega) hu0
    rw [ptV_op ho] at this
    exact this
  · obtain ⟨he, hlt⟩ := s6 (by omega)
    obtain ⟨c, hc, hm⟩ := get_of (show 0 < t.terms.length by omega)
    obtain ⟨x, hx, hxm⟩ := get_of (show 0 < t.exprs.length by omega)
    have hk := hkid hc
    rw [ptV_op ho]
    refine acq_see6 f tn uo un.length uk t.nm eo t.exprs.length ek tb t.terms.length tk w h _ (fun V hV => ?_)
    have hw := h.next hV
    have hqV := hq.fr (Fr.of (wb := wb) (pv := pv) (gv := gv) hV)
    obtain ⟨a, bo, k, rfl, hsa, hxk, hfx, hxa⟩ := hqV.tr.ex.get hx
    have hx4 : ∀ U, Below V.heap.size V U → FourX U a (.int .i64 x.op) (.int .i64 x.n) (.string x.nm) (.slice bo x.args.length k) := fun U hU => by
      have h4 := hfx.stay (w' := U) (by rw [add_block]; exact hU.block _ hsa.1)
      simpa [Addr.add] using h4
    have hEv : ∀ U, Below V.heap.size V U → Wk B wb day fa fc F l G false pv gv U → Calls Try.prog 44 #[.pointer (some ⟨wb, 0, none⟩), .agg #[.int .i64 x.op, .int .i64 x.n, .string x.nm, .slice bo x.args.length k]] U fun e w' => e = .returned (.agg #[.int .i64 (ev x).kind, .int .i64 (ev x).n, .bool (ev x).b]) ∧ Wk B wb day fa fc F l G ((ev x).kind == 3) pv gv w' ∧ Fr wb pv gv pv gv U w' ∧ Only [wb] U w' := fun U hU hWU =>
      weval_any x bo k (ev x) U hWU (fun U2 h2 => hE x (hpe x hxm) (Away wb pv gv V) bo k U2 (fun b hb => Nat.lt_of_lt_of_le hb.1 (Nat.le_trans hU.size h2.size)) (hxa.stay (fun _ h => h) fun b hb => (h2.block b (Nat.lt_of_lt_of_le hb.1 hU.size)).trans (hU.block b hb.1)) hxk (hw.fx.stay (fun _ h => h) fun b hb => (h2.block b (Nat.lt_of_lt_of_le hb.1 hU.size)).trans (hU.block b hb.1)))
    have hX0 : t.exprs.headD x0 = x := head_x0 hx
    have hA : t.acq ev f tn un = acqN ev t (t.terms.map (Tr.acq ev)) f tn un := by rw [hT]
    unfold acqN at hA
    rw [if_neg (by omega), if_neg (by omega), if_neg (by omega), if_neg (by omega), if_pos (by omega), hX0] at hA
    dsimp only at hA
    by_cases k3 : (ev x).kind = 3
    · rw [if_pos k3] at hA
      rw [hA]
      exact see_brk6 f tn uo un.length uk t.nm a t.exprs.length ek tb t.terms.length tk x.op x.n x.nm bo x.args.length k (ev x).kind (ev x).n (ev x).b V hw he hx4 hEv (by rw [k3]; rfl)
    have k3b : ((ev x).kind == 3) = false := beq_eq_false_iff_ne.2 k3
    rw [if_neg k3] at hA
    rw [if_neg (by omega)] at hA
    by_cases ky : (ev x).kind = 2 ∧ (ev x).b = true
    · rw [if_pos ky, head_acq ev hc] at hA
      rw [hA]
      refine see_yes6 f tn uo un.length uk t.nm a t.exprs.length ek tb t.terms.length tk x.op x.n x.nm bo x.args.length k (ev x).kind (ev x).n (ev x).b V hw he hx4 hEv k3b (by rw [ky.1, ky.2]; rfl) _ (fun U kU hU => ?_)
      have := within_acq (i := 0) hc (IH c hm (hch c hm)) hf hU (hqV.fr kU) (by omega) (by omega) (by omega)
      rw [ptV_op ho] at this
      exact this
    have kyb : ((ev x).kind == 2 && (ev x).b) = false := by
      cases hb : ((ev x).kind == 2 && (ev x).b) with
      | false => rfl
      | true =>
        simp only [Bool.and_eq_true, beq_iff_eq] at hb
        exact absurd hb ky
    rw [if_neg ky] at hA
    by_cases k1 : (ev x).kind = 1
    · rw [if_pos k1] at hA
      by_cases hin : in64 (f * (ev x).n) = true
      · rw [if_pos hin, head_acq ev hc] at hA
        rw [hA]
        refine see_num6 f tn uo un.length uk t.nm a t.exprs.length ek tb t.terms.length tk x.op x.n x.nm bo x.args.length k (ev x).kind (ev x).n (ev x).b V hw he hx4 hEv k3b kyb (by rw [k1]; rfl) ((in64_iff f).1 hf) ((in64_iff _).1 (hN x (hpe x hxm))) ((in64_iff _).1 hin) _ (fun U kU hU => ?_)
        have := within_acq (i := 0) hc (IH c hm (hch c hm)) (tn := tn) hin hU ((hqV.fr kU).as) (by omega) (by omega) (by omega)
        rw [ptV_op ho] at this
        exact this
      · rw [if_neg hin] at hA
        rw [hA]
        refine see_far6 f tn uo un.length uk t.nm a t.exprs.length ek tb t.terms.length tk x.op x.n x.nm bo x.args.length k (ev x).kind (ev x).n (ev x).b V hw he hx4 hEv k3b kyb (by rw [k1]; rfl) ((in64_iff f).1 hf) ((in64_iff _).1 (hN x (hpe x hxm))) (fun h => hin ((in64_iff _).2 h)) none (fun U kU hU => ?_)
        have := within_no (i := 0) ⟨⟨0, tn, un, t⟩, uo, uk, some a, ek, tb, tk⟩ U hU ((hqV.fr kU).as) hlt
        rw [ptV_op ho] at this
        exact this
    · rw [if_neg k1] at hA
      rw [hA]
      refine see_stay6 f tn uo un.length uk t.nm a t.exprs.length ek tb t.terms.length tk x.op x.n x.nm bo x.args.length k (ev x).kind (ev x).n (ev x).b V hw he hx4 hEv k3b kyb (beq_eq_false_iff_ne.2 k1) _ (fun U kU hU => ?_)
      have := stay_acp hU (hqV.fr kU) (by omega) hu0
      rw [ptV_op ho] at this
      exact this
  · obtain ⟨he, hlt⟩ := s6 (by omega)
    obtain ⟨c, hc, hm⟩ := get_of (show 0 < t.terms.length by omega)
    obtain ⟨x, hx, hxm⟩ := get_of (show 0 < t.exprs.length by omega)
    have hk := hkid hc
    rw [ptV_op ho]
    refine acq_see7 f tn uo un.length uk t.nm eo t.exprs.length ek tb t.terms.length tk w h _ (fun V hV => ?_)
    have hw := h.next hV
    have hqV := hq.fr (Fr.of (wb := wb) (pv := pv) (gv := gv) hV)
    obtain ⟨a, bo, k, rfl, hsa, hxk, hfx, hxa⟩ := hqV.tr.ex.get hx
    have hx4 : ∀ U, Below V.heap.size V U → FourX U a (.int .i64 x.op) (.int .i64 x.n) (.string x.nm) (.slice bo x.args.length k) := fun U hU => by
      have h4 := hfx.stay (w' := U) (by rw [add_block]; exact hU.block _ hsa.1)
      simpa [Addr.add] using h4
    have hEv : ∀ U, Below V.heap.size V U → Wk B wb day fa fc F l G false pv gv U → Calls Try.prog 44 #[.pointer (some ⟨wb, 0, none⟩), .agg #[.int .i64 x.op, .int .i64 x.n, .string x.nm, .slice bo x.args.length k]] U fun e w' => e = .returned (.agg #[.int .i64 (ev x).kind, .int .i64 (ev x).n, .bool (ev x).b]) ∧ Wk B wb day fa fc F l G ((ev x).kind == 3) pv gv w' ∧ Fr wb pv gv pv gv U w' ∧ Only [wb] U w' := fun U hU hWU =>
      weval_any x bo k (ev x) U hWU (fun U2 h2 => hE x (hpe x hxm) (Away wb pv gv V) bo k U2 (fun b hb => Nat.lt_of_lt_of_le hb.1 (Nat.le_trans hU.size h2.size)) (hxa.stay (fun _ h => h) fun b hb => (h2.block b (Nat.lt_of_lt_of_le hb.1 hU.size)).trans (hU.block b hb.1)) hxk (hw.fx.stay (fun _ h => h) fun b hb => (h2.block b (Nat.lt_of_lt_of_le hb.1 hU.size)).trans (hU.block b hb.1)))
    have hX0 : t.exprs.headD x0 = x := head_x0 hx
    have hA : t.acq ev f tn un = acqN ev t (t.terms.map (Tr.acq ev)) f tn un := by rw [hT]
    unfold acqN at hA
    rw [if_neg (by omega), if_neg (by omega), if_neg (by omega), if_neg (by omega), if_pos (by omega), hX0] at hA
    dsimp only at hA
    by_cases k3 : (ev x).kind = 3
    · rw [if_pos k3] at hA
      rw [hA]
      exact see_brk7 f tn uo un.length uk t.nm a t.exprs.length ek tb t.terms.length tk x.op x.n x.nm bo x.args.length k (ev x).kind (ev x).n (ev x).b V hw he hx4 hEv (by rw [k3]; rfl)
    have k3b : ((ev x).kind == 3) = false := beq_eq_false_iff_ne.2 k3
    rw [if_neg k3] at hA
    rw [if_neg (by omega)] at hA
    by_cases ky : (ev x).kind = 2 ∧ (ev x).b = true
    · rw [if_pos ky, head_acq ev hc] at hA
      rw [hA]
      refine see_yes7 f tn uo un.length uk t.nm a t.exprs.length ek tb t.terms.length tk x.op x.n x.nm bo x.args.length k (ev x).kind (ev x).n (ev x).b V hw he hx4 hEv k3b (by rw [ky.1, ky.2]; rfl) _ (fun U kU hU => ?_)
      have := within_acq (i := 0) hc (IH c hm (hch c hm)) hf hU (hqV.fr kU) (by omega) (by omega) (by omega)
      rw [ptV_op ho] at this
      exact this
    have kyb : ((ev x).kind == 2 && (ev x).b) = false := by
      cases hb : ((ev x).kind == 2 && (ev x).b) with
      | false => rfl
      | true =>
        simp only [Bool.and_eq_true, beq_iff_eq] at hb
        exact absurd hb ky
    rw [if_neg ky] at hA
    by_cases k1 : (ev x).kind = 1
    · rw [if_pos k1] at hA
      by_cases hin : in64 (f * (ev x).n) = true
      · rw [if_pos hin, head_acq ev hc] at hA
        rw [hA]
        refine see_num7 f tn uo un.length uk t.nm a t.exprs.length ek tb t.terms.length tk x.op x.n x.nm bo x.args.length k (ev x).kind (ev x).n (ev x).b V hw he hx4 hEv k3b kyb (by rw [k1]; rfl) ((in64_iff f).1 hf) ((in64_iff _).1 (hN x (hpe x hxm))) ((in64_iff _).1 hin) _ (fun U kU hU => ?_)
        have := within_acq (i := 0) hc (IH c hm (hch c hm)) (tn := tn) hin hU ((hqV.fr kU).as) (by omega) (by omega) (by omega)
        rw [ptV_op ho] at this
        exact this
      · rw [if_neg hin] at hA
        rw [hA]
        refine see_far7 f tn uo un.length uk t.nm a t.exprs.length ek tb t.terms.length tk x.op x.n x.nm bo x.args.length k (ev x).kind (ev x).n (ev x).b V hw he hx4 hEv k3b kyb (by rw [k1]; rfl) ((in64_iff f).1 hf) ((in64_iff _).1 (hN x (hpe x hxm))) (fun h => hin ((in64_iff _).2 h)) none (fun U kU hU => ?_)
        have := within_no (i := 0) ⟨⟨0, tn, un, t⟩, uo, uk, some a, ek, tb, tk⟩ U hU ((hqV.fr kU).as) hlt
        rw [ptV_op ho] at this
        exact this
    · rw [if_neg k1] at hA
      rw [hA]
      refine see_stay7 f tn uo un.length uk t.nm a t.exprs.length ek tb t.terms.length tk x.op x.n x.nm bo x.args.length k (ev x).kind (ev x).n (ev x).b V hw he hx4 hEv k3b kyb (beq_eq_false_iff_ne.2 k1) _ (fun U kU hU => ?_)
      have := stay_acp hU (hqV.fr kU) (by omega) hu0
      rw [ptV_op ho] at this
      exact this
  · obtain ⟨he, hlt⟩ := s6 (by omega)
    obtain ⟨c, hc, hm⟩ := get_of (show 0 < t.terms.length by omega)
    obtain ⟨x, hx, hxm⟩ := get_of (show 0 < t.exprs.length by omega)
    have hk := hkid hc
    rw [ptV_op ho]
    refine acq_see8 f tn uo un.length uk t.nm eo t.exprs.length ek tb t.terms.length tk w h _ (fun V hV => ?_)
    have hw := h.next hV
    have hqV := hq.fr (Fr.of (wb := wb) (pv := pv) (gv := gv) hV)
    obtain ⟨a, bo, k, rfl, hsa, hxk, hfx, hxa⟩ := hqV.tr.ex.get hx
    have hx4 : ∀ U, Below V.heap.size V U → FourX U a (.int .i64 x.op) (.int .i64 x.n) (.string x.nm) (.slice bo x.args.length k) := fun U hU => by
      have h4 := hfx.stay (w' := U) (by rw [add_block]; exact hU.block _ hsa.1)
      simpa [Addr.add] using h4
    have hEv : ∀ U, Below V.heap.size V U → Wk B wb day fa fc F l G false pv gv U → Calls Try.prog 44 #[.pointer (some ⟨wb, 0, none⟩), .agg #[.int .i64 x.op, .int .i64 x.n, .string x.nm, .slice bo x.args.length k]] U fun e w' => e = .returned (.agg #[.int .i64 (ev x).kind, .int .i64 (ev x).n, .bool (ev x).b]) ∧ Wk B wb day fa fc F l G ((ev x).kind == 3) pv gv w' ∧ Fr wb pv gv pv gv U w' ∧ Only [wb] U w' := fun U hU hWU =>
      weval_any x bo k (ev x) U hWU (fun U2 h2 => hE x (hpe x hxm) (Away wb pv gv V) bo k U2 (fun b hb => Nat.lt_of_lt_of_le hb.1 (Nat.le_trans hU.size h2.size)) (hxa.stay (fun _ h => h) fun b hb => (h2.block b (Nat.lt_of_lt_of_le hb.1 hU.size)).trans (hU.block b hb.1)) hxk (hw.fx.stay (fun _ h => h) fun b hb => (h2.block b (Nat.lt_of_lt_of_le hb.1 hU.size)).trans (hU.block b hb.1)))
    have hX0 : t.exprs.headD x0 = x := head_x0 hx
    have hA : t.acq ev f tn un = acqN ev t (t.terms.map (Tr.acq ev)) f tn un := by rw [hT]
    unfold acqN at hA
    rw [if_neg (by omega), if_neg (by omega), if_neg (by omega), if_neg (by omega), if_pos (by omega), hX0] at hA
    dsimp only at hA
    by_cases k3 : (ev x).kind = 3
    · rw [if_pos k3] at hA
      rw [hA]
      exact see_brk8 f tn uo un.length uk t.nm a t.exprs.length ek tb t.terms.length tk x.op x.n x.nm bo x.args.length k (ev x).kind (ev x).n (ev x).b V hw he hx4 hEv (by rw [k3]; rfl)
    have k3b : ((ev x).kind == 3) = false := beq_eq_false_iff_ne.2 k3
    rw [if_neg k3] at hA
    rw [if_pos ho] at hA
    by_cases ky : (ev x).kind = 2 ∧ (ev x).b = true
    · rw [if_pos ky] at hA
      rw [hA]
      exact see_end8 f tn uo un.length uk t.nm a t.exprs.length ek tb t.terms.length tk x.op x.n x.nm bo x.args.length k (ev x).kind (ev x).n (ev x).b V hw he hx4 hEv k3b (by rw [ky.1, ky.2]; rfl)
    · rw [if_neg ky, head_acq ev hc] at hA
      rw [hA]
      have kyb : ((ev x).kind == 2 && (ev x).b) = false := by
        cases hb : ((ev x).kind == 2 && (ev x).b) with
        | false => rfl
        | true =>
          simp only [Bool.and_eq_true, beq_iff_eq] at hb
          exact absurd hb ky
      refine see_no8 f tn uo un.length uk t.nm a t.exprs.length ek tb t.terms.length tk x.op x.n x.nm bo x.args.length k (ev x).kind (ev x).n (ev x).b V hw he hx4 hEv k3b kyb un x rfl hu0 hqV.un ⟨rfl, rfl, rfl, rfl, hxk⟩ hxa _ (fun va vc U kU hU hvc hxl => ?_)
      have hq2 : QP (Away wb pv gv U) U ⟨⟨f, tn, un ++ [x], t⟩, va, vc, some a, ek, tb, tk⟩ := ⟨by simpa using hvc, hxl, (hqV.fr kU).tr⟩
      have := within_acq (i := 0) hc (IH c hm (hch c hm)) hf hU hq2 (by omega) (by omega) (by simp; omega)
      rw [ptV_op ho, show (un ++ [x]).length = un.length + 1 from by simp] at this
      exact this
  · rw [ptV_op ho, show t.acq ev f tn un = some ([⟨f, tn, un, t⟩], []) from by rw [hT]; unfold acqN; simp [ho]]
    refine acq_stay9 f tn uo un.length uk t.nm eo t.exprs.length ek tb t.terms.length tk w h _ (fun V hV => ?_)
    have := stay_acp (h.next hV) (hq.fr (Fr.of hV)) (by omega) hu0
    rw [ptV_op ho] at this
    exact this
end Go.Proofs.Ythhimllddgfddaa
namespace Go.Proofs.Ythhimllddgfddaa
open Go.ChangeShapes Go.WideShapes Go.RowKit Go.Deep Go.WideElems Go.Maps
set_option linter.unusedVariables false
set_option linter.unusedSimpArgs false
/-- The blocks that hold neither of two rows. -/
def Off (pv gv : Value) (w : World) (b : Nat) : Prop := b < w.heap.size ∧ pv.ownBlock ≠ some b ∧ gv.ownBlock ≠ some b
/-- What comes of it all, as rows. -/
def Came (B : Nat) (g : Got) (e : Ending) (w' : World) : Prop := match g with
  | none => e = .returned (.tuple #[.slice none 0 0, .slice none 0 0, .int .i64 2])
  | some (p, h) => ∃ l pv gv, e = .returned (.tuple #[pv, gv, .int .i64 0]) ∧ l.map (·.p) = p ∧ w'.ownsRow B 70 7 pv l.length (flat7 l) ∧ w'.ownsRow B 55 2 gv h.length (flatG h) ∧ (∀ b c, pv.ownBlock = some b → gv.ownBlock = some c → b ≠ c) ∧ ∀ q ∈ l, QP (Off pv gv w') w' q
theorem works_new {day : Int} {fa : Option Addr} {fc : Nat} {F : List Fx} {S : Nat → Prop} (B : Nat) (w : World) (hB : B ≤ w.heap.size) (hS : ∀ b, S b → b < w.heap.size) (hfx : FxA S fa F w) : ∀ W, w.alloc (.cells #[.int .i64 day, .slice fa F.length fc, .slice none 0 0, .slice none 0 0, .bool false] 67) = W → Below w.heap.size w W ∧ Wk B w.heap.size day fa fc F [] [] false (.slice none 0 0) (.slice none 0 0) W ∧ (∀ b, S b → Away w.heap.size (.slice none 0 0) (.slice none 0 0) W b) := by
  rintro W rfl
  have k := (Below.refl w.heap.size w).alloc (Nat.le_refl _) (.cells #[.int .i64 day, .slice fa F.length fc, .slice none 0 0, .slice none 0 0, .bool false] 67)
  have ha : ∀ b, S b → Away w.heap.size (.slice none 0 0) (.slice none 0 0) (w.alloc (.cells #[.int .i64 day, .slice fa F.length fc, .slice none 0 0, .slice none 0 0, .bool false] 67)) b := fun b hb => ⟨Nat.lt_of_lt_of_le (hS b hb) k.size, fun e => by have := hS b hb; omega, by simp [Value.ownBlock], by simp [Value.ownBlock]⟩
  exact ⟨k, ⟨heap_alloc_new w _, hB, World.ownsRow_nil _ B _ 7, World.ownsRow_nil _ B _ 2, fun q hq => (by cases hq), hfx.stay ha fun b hb => k.block b (hS b hb)⟩, ha⟩
section
variable {day : Int} {fa : Option Addr} {fc : Nat} {F : List Fx} {PE : Xp → Prop} {ev : Xp → Vl}
set_option maxRecDepth 100000 in
set_option maxHeartbeats 8000000 in
theorem start_good {S : Nat → Prop}
    (hE : ∀ x, PE x → ∀ (S : Nat → Prop) (bo : Option Addr) (k : Nat) (V : World), (∀ b, S b → b < V.heap.size) → ExL S V x.args bo → x.args.length ≤ k → FxA S fa F V → Calls Try.prog 57 #[exV x bo k, .agg #[.int .i64 day, .slice fa F.length fc]] V fun e w' => e = .returned (vlV (ev x)) ∧ Below V.heap.size V w')
    (hN : ∀ x, PE x → in64 (ev x).n = true) (t : Tr) (eo : Option Addr) (ek : Nat) (tb : Option Addr) (tk : Nat) (w : World) (hS : ∀ b, S b → b < w.heap.size) (ht : TrOk S w t eo ek tb tk) (hfx : FxA S fa F w)
    (hF : ∀ V, Below w.heap.size w V → Calls Try.prog 20 #[trV t eo ek tb tk] V fun e w' => e = .returned (.int .i64 0) ∧ Below V.heap.size V w') (hfi : t.fine PE) (hc : t.cnt ≤ 800) (hd : t.dep ≤ 800) :
    Calls Try.prog 9 #[trV t eo ek tb tk, .agg #[.int .i64 day, .slice fa F.length fc]] w fun e w' => Came w.heap.size (t.acq ev 1 false []) e w' ∧ Below w.heap.size w w' := by
  have HS := Lib.hid hS
  have HT := Lib.hid ht
  have HFX := Lib.hid hfx
  have CA : Hid (∀ wb V, Below w.heap.size w V → Wk w.heap.size wb day fa fc F [] [] false (.slice none 0 0) (.slice none 0 0) V → (∀ b, S b → Away wb (.slice none 0 0) (.slice none 0 0) V b) → Calls Try.prog 21 #[.pointer (some ⟨wb, 0, none⟩), ptV ⟨⟨1, false, [], t⟩, none, 0, eo, ek, tb, tk⟩] V (AcP w.heap.size wb day fa fc F [] [] (.slice none 0 0) (.slice none 0 0) (t.acq ev 1 false []) V)) := Lib.hid fun wb V hV hW ha =>
    acquire_any hE hN t hfi 1 false [] none 0 eo ek tb tk [] [] _ _ V (by decide) hW ⟨Nat.le_refl _, fun h => absurd rfl h, ht.stay ha fun b hb => hV.block b (hS b hb)⟩ (by simp; omega) (by simp; omega) (by simp; omega)
  obtain ⟨got, hgot⟩ : ∃ r, r = t.acq ev 1 false [] := ⟨_, rfl⟩
  rw [← hgot] at CA ⊢
  obtain ⟨op, hop⟩ : ∃ r, r = t.op := ⟨_, rfl⟩
  obtain ⟨nm, hnm⟩ : ∃ r, r = t.nm := ⟨_, rfl⟩
  obtain ⟨em, hem⟩ : ∃ r, r = t.exprs.length := ⟨_, rfl⟩
  obtain ⟨tm, htm⟩ : ∃ r, r = t.terms.length := ⟨_, rfl⟩
  obtain ⟨fm, hfm⟩ : ∃ r, r = F.length := ⟨_, rfl⟩
  have CF := Lib.hid hF
  rw [show trV t eo ek tb tk = .agg #[.int .i64 op, .string nm, .slice eo em ek, .slice tb tm tk] from by rw [hop, hnm, hem, htm]] at CF ⊢
  rw [show ptV ⟨⟨1, false, [], t⟩, none, 0, eo, ek, tb, tk⟩ = .agg #[.int .i64 1, .bool false, .slice none 0 0, .int .i64 op, .string nm, .slice eo em ek, .slice tb tm tk] from by rw [hop, hnm, hem, htm]; rfl] at CA
  rw [← hfm]
  have HFM := Lib.hid hfm
  obtain ⟨k1, b1, s1⟩ := four_boxed (.int .i64 op) (.string nm) (.slice eo em ek) (.slice tb tm tk) 32 w _ rfl
  obtain ⟨k2, b2, s2⟩ := two_made (.int .i64 day) (.slice fa fm fc) 44 (w.alloc (.cells #[.int .i64 op, .string nm, .slice eo em ek, .slice tb tm tk] 32)) _ rfl
  have HG := Lib.hid (below_mono k1 k2 (Nat.le_refl _))
  have HB := Lib.hid ((k2.block _ (by omega)).trans b1)
  rw [s1] at b2
  have HB2 := Lib.hid b2
  clear hF hop hnm hem htm hfm k1 b1 s1 k2 b2 s2 hS ht hfx hfi hc hd hgot hE hN
  go_enter Try.func9, Try.ntmps9
  go_upto_region 1 with fail
  have s1 : (w.alloc (.cells #[.int .i64 op, .string nm, .slice eo em ek, .slice tb tm tk] 32)).heap.size = w.heap.size + 1 := by simp
  obtain ⟨W, hW⟩ : ∃ X, (w.alloc (.cells #[.int .i64 op, .string nm, .slice eo em ek, .slice tb tm tk] 32)).alloc (.cells #[.int .i64 day, .slice fa fm fc] 44) = X := ⟨_, rfl⟩
  obtain ⟨z, hz⟩ : ∃ z, z = w.heap.size := ⟨_, rfl⟩
  rw [hW] at HG HB HB2
  rw [hW]
  try rw [s1]
  rw [← hz] at HB HB2 ⊢
  obtain ⟨c0, c1, c2, c3⟩ := quad HB.out
  have HZ := Lib.hid hz
  clear hW hz s1
  go_upto_region 4 with (go_at_call 20; (with_reducible refine (CF.out _ HG.out).mono ?_); rintro e w4 ⟨rfl, hb⟩; have HB4 := Lib.hid hb; clear hb c0 c1 c2 c3)
  have x4 := (HB4.out.block z (lt_of_heap HB.out)).trans HB.out
  have y4 := (HB4.out.block (z + 1) (lt_of_heap HB2.out)).trans HB2.out
  have HX4 := Lib.hid x4
  have HK4 := Lib.hid (below_mono HG.out HB4.out (Nat.le_refl _))
  obtain ⟨d0, d1⟩ := duo y4
  clear x4 y4
  go_upto_region 5 with fail
  clear d0 d1
  obtain ⟨W5, hW5⟩ : ∃ X, w4.alloc (.cells #[.int .i64 day, .slice fa fm fc, .slice none 0 0, .slice none 0 0, .bool false] 67) = X := ⟨_, rfl⟩
  have hw5 := hW5
  rw [HFM.out] at hw5
  obtain ⟨k5, h5, a5⟩ := works_new (S := S) w.heap.size w4 HK4.out.size (fun b hb => Nat.lt_of_lt_of_le (HS.out b hb) HK4.out.size) (HFX.out.stay (fun _ h => h) fun b hb => HK4.out.block b (HS.out b hb)) W5 hw5
  obtain ⟨wb, hwb⟩ : ∃ v, v = w4.heap.size := ⟨_, rfl⟩
  rw [hW5, ← hwb]
  rw [← hwb] at h5 a5
  have HK5 := Lib.hid (below_mono HK4.out k5 (Nat.le_refl _))
  have HW5 := Lib.hid h5
  have CAA := Lib.hid (CA.out wb W5 HK5.out h5 a5)
  have x5 := (k5.block z (lt_of_heap HX4.out)).trans HX4.out
  obtain ⟨c0, c1, c2, c3⟩ := quad x5
  clear hW5 hw5 k5 h5 a5 hwb x5
  go_upto_region 6 with (go_at_call 21; (with_reducible refine CAA.out.mono ?_); rintro e w6 ha; have HA6 := Lib.hid ha; obtain rfl : e = Ending.returned (.tuple #[]) := ha.1; clear ha c0 c1 c2 c3)
  obtain ⟨_, l', G', br', pv', gv', h6, f6, r6⟩ := HA6.out
  have k6 := HK5.out.trans (f6.below HW5.out HK5.out.size)
  have r6s : ∀ p g, got = some (p, g) → br' = false ∧ l'.map (·.p) = p ∧ G' = g := fun p g e => by
    rw [e] at r6
    exact ⟨r6.1, by simpa using r6.2.1, by simpa using r6.2.2⟩
  have r6n : got = none → br' = true := fun e => by
    rw [e] at r6
    exact r6
  clear r6
  obtain hgo | ⟨p, g, hgo⟩ : got = none ∨ ∃ p g, got = some (p, g) := by
    cases got with
    | none => exact .inl rfl
    | some pg => exact .inr ⟨pg.1, pg.2, rfl⟩
  · have hb : br' = true := r6n hgo
    subst hgo
    subst hb
    have CE := Lib.hid (end_yes w6 h6)
    have HK6 := Lib.hid k6
    clear h6 f6 r6s r6n k6
    go_wp2_with (go_at_call 22; (with_reducible refine CE.out.mono ?_); rintro e w7 ⟨rfl, hb⟩; have HB7 := Lib.hid (below_mono HK6.out hb (Nat.le_refl _)); clear hb)
    exact bodyPost_ret (v := .tuple #[.slice none 0 0, .slice none 0 0, .int .i64 2]) (by simp [results, Try.results9, go_sem]) rfl ⟨rfl, HB7.out⟩
  · obtain ⟨hb, hl, hg⟩ := r6s p g hgo
    subst hb hg hgo
    have CE := Lib.hid (end_no w6 h6)
    have HK6 := Lib.hid k6
    have H6 := Lib.hid h6
    have HL := Lib.hid hl
    clear h6 f6 r6s r6n k6 hl
    go_wp2_with (go_at_call 22; (with_reducible refine CE.out.mono ?_); rintro e w7 ⟨rfl, hb⟩; have HB7 := Lib.hid hb; clear hb)
    have h7 := H6.out.next HB7.out
    exact bodyPost_ret (v := .tuple #[pv', gv', .int .i64 0]) (by simp [results, Try.results9, go_sem]) rfl ⟨⟨l', pv', gv', rfl, HL.out, h7.pr, h7.gr, fun b c hb hc => h7.pg hb hc, fun q hq => (h7.ql q hq).stay (fun b hb => ⟨hb.1, hb.2.2.1, hb.2.2.2⟩) (fun _ _ => rfl)⟩, below_mono HK6.out HB7.out (Nat.le_refl _)⟩
end
end Go.Proofs.Ythhimllddgfddaa
namespace Go.Proofs.Ythhimllddgfddaa
open Go.RowKit Go.PlainAid Go.Sort
set_option linter.unusedVariables false
set_option linter.unusedSimpArgs false
/-- Is it a constant, and which. -/
def Xp.cB (x : Xp) : Bool := if x.op = 1 ∨ x.op = 2 then true else match x.args with | [] => false | y :: _ => decide (x.op = 20 ∧ y.op = 1)
def Xp.cV (x : Xp) : Int := if x.op = 1 ∨ x.op = 2 then x.n else match x.args with | [] => 0 | y :: _ => if x.op = 20 ∧ y.op = 1 then IntKind.i64.wrap (-y.n) else 0
/-- The blocks in which the trees of a row stand, beside rows that grow. -/
def RK (S : Nat → Prop) (B : Nat) (P : Nat → Prop) (w : World) : Nat → Prop := fun b => S b ∨ (B ≤ b ∧ b < w.heap.size ∧ ¬ P b)
theorem rk_lt {S P : Nat → Prop} {B : Nat} {w : World} (hS : ∀ b, S b → b < B) (hB : B ≤ w.heap.size) : ∀ b, RK S B P w b → b < w.heap.size := fun b hb => by
  rcases hb with h | ⟨_, h, _⟩
  · exact Nat.lt_of_lt_of_le (hS b h) hB
  · exact h
theorem rk_push {S P P' : Nat → Prop} {B : Nat} {w w' : World} (hP : ∀ b, P' b → P b ∨ w.heap.size ≤ b) (hs : w.heap.size ≤ w'.heap.size) : ∀ b, RK S B P w b → RK S B P' w' b := fun b hb => by
  rcases hb with h | ⟨h1, h2, h3⟩
  · exact .inl h
  · exact .inr ⟨h1, Nat.lt_of_lt_of_le h2 hs, fun h => (hP b h).elim h3 fun h => by omega⟩
theorem rk_keep {S P : Nat → Prop} {B : Nat} {w w' : World} {own : Option Nat} (hS : ∀ b, S b → b < B) (hB : B ≤ w.heap.size) (hg : w.grownBy w' own) (hP : ∀ g, own = some g → P g ∧ B ≤ g) : ∀ b, RK S B P w b → w'.heap[b]? = w.heap[b]? := fun b hb => by
  refine hg.block b (rk_lt hS hB b hb) fun e => ?_
  have h := hP b e.symm
  rcases hb with h1 | ⟨_, _, h3⟩
  · have := hS b h1; omega
  · exact h3 h.1
/-- The folded operands, and those of their values that are known, in two rows. -/
structure FoB (S : Nat → Prop) (B : Nat) (v u : Value) (ls : List Xp) (vs : List Int) (qs : List Q4) (w : World) : Prop where
  len : qs.length = ls.length
  row : Row4 w B 53 v qs
  ints : w.ownsRow B 2 1 u vs.length (vs.map (Value.int .i64))
  fits : Fits (QX (RK S B (fun b => v.ownBlock = some b ∨ u.ownBlock = some b) w) w) ls qs
theorem ints_lt {w : World} {B n : Nat} {T : TypeId} {u : Value} {vs : List Value} (h : w.ownsRow B T 1 u n vs) {g : Nat} (hg : u.ownBlock = some g) : g < w.heap.size ∧ B ≤ g := by
  rcases h.2 with ⟨rfl, h0⟩ | ⟨g', cap, cur, rfl, hb, hgg, _⟩
  · cases hg
  · cases hg
    exact ⟨lt_of_heap hgg, hb⟩
theorem two_apart {w : World} {B n : Nat} {v u : Value} {qs : List Q4} {vs : List Value} (h : Row4 w B 53 v qs) (k : w.ownsRow B 2 1 u n vs) {g : Nat} (hg : v.ownBlock = some g) : u.ownBlock ≠ some g := by
  intro hu
  rcases h.2 with ⟨rfl, h0⟩ | ⟨g', cap, cur, rfl, hb, hgg, _⟩
  · cases hg
  · rcases k.2 with ⟨rfl, k0⟩ | ⟨g2, cap2, cur2, rfl, kb, kgg, _⟩
    · cases hu
    · cases hg
      cases hu
      rw [hgg] at kgg
      injection kgg with e
      injection e with _ e2
      exact absurd e2 (by decide)
theorem FoB.stay {S : Nat → Prop} {B : Nat} {v u : Value} {ls : List Xp} {vs : List Int} {qs : List Q4} {w w' : World} (h : FoB S B v u ls vs qs w) (hS : ∀ b, S b → b < B) (hB : B ≤ w.heap.size) (hs : w.heap.size ≤ w'.heap.size) (hh : ∀ b, b < w.heap.size → (S b ∨ B ≤ b) → w'.heap[b]? = w.heap[b]?) : FoB S B v u ls vs qs w' :=
  ⟨h.len, h.row.stay fun g hg => hh g (h.row.lt hg).1 (.inr (h.row.lt hg).2), row_stay h.ints fun g hg => hh g (ints_lt h.ints hg).1 (.inr (ints_lt h.ints hg).2), h.fits.imp fun x q hq => hq.stay (rk_push (fun b hb => .inl hb) hs) fun b hb => hh b (rk_lt hS hB b hb) (hb.imp id fun h => h.1)⟩
/-- One more value. -/
theorem FoB.put {S : Nat → Prop} {B g' cap : Nat} {v u : Value} {ls : List Xp} {vs : List Int} {qs : List Q4} {w w' : World} {f : Int} (h : FoB S B v u ls vs qs w) (hS : ∀ b, S b → b < B) (hB : B ≤ w.heap.size)
    (hown : w'.ownsRow B 2 1 (.slice (some ⟨g', 0, none⟩) (vs.length + 1) cap) (vs.length + 1) (vs.map (Value.int .i64) ++ [.int .i64 f])) (hg : w.grownBy w' u.ownBlock) (hor : u.ownBlock = some g' ∨ g' = w.heap.size) :
    FoB S B v (.slice (some ⟨g', 0, none⟩) (vs.length + 1) cap) ls (vs ++ [f]) qs w' := by
  have hP : ∀ b, (v.ownBlock = some b ∨ (Value.slice (some ⟨g', 0, none⟩) (vs.length + 1) cap).ownBlock = some b) → (v.ownBlock = some b ∨ u.ownBlock = some b) ∨ w.heap.size ≤ b := by
    rintro b (e | e)
    · exact .inl (.inl e)
    · have e2 : g' = b := by injection e
      rcases hor with e | e
      · exact .inl (.inr (by rw [← e2]; exact e))
      · exact .inr (by omega)
  have hK := rk_keep (S := S) (P := fun b => v.ownBlock = some b ∨ u.ownBlock = some b) hS hB hg fun g e => ⟨.inr e, (ints_lt h.ints e).2⟩
  refine ⟨h.len, h.row.stay fun g e => hg.block g (h.row.lt e).1 fun e2 => two_apart h.row h.ints e e2.symm, ?_, h.fits.imp fun x q hq => hq.stay (rk_push hP hg.size) hK⟩
  rw [List.length_append, List.map_append]
  exact hown
/-- The operands as a list in memory. -/
theorem FoB.list {S : Nat → Prop} {B n c : Nat} {va : Option Addr} {u : Value} {ls : List Xp} {vs : List Int} {qs : List Q4} {w : World} (h : FoB S B (.slice va n c) u ls vs qs w) : ExL (fun b => S b ∨ (B ≤ b ∧ b < w.heap.size)) w ls va :=
  (h.row.toX h.fits).stay (fun b hb => by
    rcases hb with (hb | ⟨h1, h2, _⟩) | hb
    · exact .inl hb
    · exact .inr ⟨h1, h2⟩
    · exact .inr ⟨(h.row.lt hb).2, (h.row.lt hb).1⟩) fun _ _ => rfl
end Go.Proofs.Ythhimllddgfddaa
namespace Go.Proofs.Ythhimllddgfddaa
open Go.RowKit Go.PlainAid Go.Sort
set_option linter.unusedVariables false
set_option linter.unusedSimpArgs false
/-- The values of the constants among them. -/
def fvs (l : List Xp) : List Int := (l.filter Xp.cB).map Xp.cV
def okI (z : Int) : Option Int := if -9223372036854775808 ≤ z ∧ z ≤ 9223372036854775807 then some z else none
/-- What an op makes of constants. -/
def wkO (o : Int) (vs : List Int) : Option Int :=
  match vs with
  | [a] => if o = 20 then okI (-a) else none
  | [a, b] => if o = 5 then okI (a + b) else if o = 6 then okI (a - b) else if o = 7 then okI (a * b) else if o = 8 then (if b = 0 then none else okI (a.fdiv b)) else if o = 9 then some (min a b) else if o = 10 then some (max a b) else none
  | _ => none
/-- A node whose operands are constants, by its value. -/
def foV (o n : Int) (s : ByteArray) (l : List Xp) : Option Int → Xp
  | none => .mk o n s l
  | some v => if v = -9223372036854775808 then .mk o n s l else if v < 0 then .mk 20 0 ⟨#[]⟩ [.mk 1 (IntKind.i64.wrap (-v)) ⟨#[]⟩ []] else .mk 1 v ⟨#[]⟩ []
/-- A node whose operands are folded. -/
def foN (o n : Int) (s : ByteArray) (l : List Xp) : Xp := if (fvs l).length < l.length ∨ l = [] then .mk o n s l else foV o n s l (wkO o (fvs l))
def Xp.fo : Xp → Xp
  | .mk o n s l => foN o n s (fos l)
where fos : List Xp → List Xp
  | [] => []
  | x :: t => x.fo :: fos t
theorem four_set (w : World) (z : Nat) (v0 v1 v2 v3 : Value) (cs : Array Value) (T : TypeId) (hsz : ∃ c0 c1 c2 c3, cs = #[c0, c1, c2, c3]) (h : w.heap[z]? = some (.cells cs T (0, 0))) : ∀ W, ((((w.setCell ⟨z, 0, none⟩ v0).setCell ⟨z, 1, none⟩ v1).setCell ⟨z, 2, none⟩ v2).setCell ⟨z, 3, none⟩ v3) = W → (∀ B, B ≤ z → Below B w W) ∧ (∀ b, b ≠ z → W.heap[b]? = w.heap[b]?) ∧ W.heap.size = w.heap.size ∧ W.heap[z]? = some (.cells #[v0, v1, v2, v3] T (0, 0)) := by
  rintro W rfl
  obtain ⟨c0, c1, c2, c3, rfl⟩ := hsz
  refine ⟨fun B hB => ((((Below.refl B w).setCell (p := ⟨z, 0, none⟩) hB _).setCell (p := ⟨z, 1, none⟩) hB _).setCell (p := ⟨z, 2, none⟩) hB _).setCell (p := ⟨z, 3, none⟩) hB _, fun b hb => ?_, by simp, ?_⟩
  · exact (Below.heap_setCell _ _ _ _ hb).trans ((Below.heap_setCell _ _ _ _ hb).trans ((Below.heap_setCell _ _ _ _ hb).trans (Below.heap_setCell _ _ _ _ hb)))
  · exact heap_set_at (i := 3) _ (heap_set_at (i := 2) _ (heap_set_at (i := 1) _ (heap_set_at (i := 0) v0 h)))
end Go.Proofs.Ythhimllddgfddaa
namespace Go.Proofs.Ythhimllddgfddaa
open Go.RowKit Go.PlainAid Go.Sort
set_option linter.unusedVariables false
set_option linter.unusedSimpArgs false
theorem ans_okI {z n : Int} {ok : Bool} (h : Nu.Ans z n ok) : n = (okI z).getD 0 ∧ ok = (okI z).isSome := by
  unfold okI
  by_cases hz : -9223372036854775808 ≤ z ∧ z ≤ 9223372036854775807
  · rw [if_pos hz]; exact h.1 hz
  · rw [if_neg hz]; exact h.2 hz
theorem given {z : Int} {w w' : World} {e : Ending} (h : Nu.GivesAns z w e w') : e = .returned (.tuple #[.int .i64 ((okI z).getD 0), .bool (okI z).isSome]) ∧ Below w.heap.size w w' := by
  obtain ⟨n, ok, h1, h2, h3⟩ := h
  rw [(ans_okI h2).1, (ans_okI h2).2] at h1
  exact ⟨h1, h3⟩
end Go.Proofs.Ythhimllddgfddaa
namespace Go.Proofs.Ythhimllddgfddaa
open Go.RowKit Go.PlainAid Go.Sort
set_option linter.unusedVariables false
set_option linter.unusedSimpArgs false
end Go.Proofs.Ythhimllddgfddaa
namespace Go.Proofs.Ythhimllddgfddaa
open Go.RowKit Go.PlainAid Go.Sort
set_option linter.unusedVariables false
set_option linter.unusedSimpArgs false
theorem term_box (v0 v1 v2 v3 : Value) (w : World) : ∀ W, w.alloc (.cells #[v0, v1, v2, v3] 32) = W → Below w.heap.size w W ∧ W.heap[w.heap.size]? = some (.cells #[v0, v1, v2, v3] 32 (0, 0)) ∧ w.heap.size < W.heap.size := by
  rintro W rfl
  exact ⟨(Below.refl w.heap.size w).alloc (Nat.le_refl _) _, heap_alloc_new w _, by simp⟩
end Go.Proofs.Ythhimllddgfddaa
namespace Go.Proofs.Ythhimllddgfddaa
open Go.RowKit Go.PlainAid Go.Sort
set_option linter.unusedVariables false
set_option linter.unusedSimpArgs false
end Go.Proofs.Ythhimllddgfddaa
namespace Go.Proofs.Ythhimllddgfddaa
open Go.RowKit Go.PlainAid Go.Sort
set_option linter.unusedVariables false
set_option linter.unusedSimpArgs false
theorem cells_made (cs : Array Value) (T : TypeId) (w : World) : ∀ W, w.alloc (.cells cs T) = W → Below w.heap.size w W ∧ W.heap[w.heap.size]? = some (.cells cs T (0, 0)) ∧ W.heap.size = w.heap.size + 1 := by
  rintro W rfl
  exact ⟨(Below.refl w.heap.size w).alloc (Nat.le_refl _) _, heap_alloc_new w _, by simp⟩
end Go.Proofs.Ythhimllddgfddaa
namespace Go.Proofs.Ythhimllddgfddaa
open Go.RowKit Go.PlainAid
set_option linter.unusedVariables false
set_option linter.unusedSimpArgs false
/-- The Tree in a box of the law's. -/
structure LawT (R : Nat → Prop) (xs : List Xp) (ts : List Tr) (a0 a1 a2 a3 a4 a5 : Option Addr) (c0 c1 c2 c3 c4 c5 L L2 tb : Nat) (w W0 : World) : Prop where
  bt : BuiltAt R xs ts a0 a1 a2 a3 a4 a5 W0
  below : ∀ b, R b → b < W0.heap.size
  box : W0.heap[tb]? = some (.cells #[.slice a0 L c0, .slice a1 L c1, .slice a2 L c2, .slice a3 L2 c3, .slice a4 L2 c4, .slice a5 L2 c5] 58 (0, 0))
  bel : Below w.heap.size w W0
  len : xs.length = L ∧ ts.length = L2
theorem LawT.next {R : Nat → Prop} {xs : List Xp} {ts : List Tr} {a0 a1 a2 a3 a4 a5 : Option Addr} {c0 c1 c2 c3 c4 c5 L L2 tb : Nat} {w W0 W : World} (h : LawT R xs ts a0 a1 a2 a3 a4 a5 c0 c1 c2 c3 c4 c5 L L2 tb w W0) (k : Below W0.heap.size W0 W) : LawT R xs ts a0 a1 a2 a3 a4 a5 c0 c1 c2 c3 c4 c5 L L2 tb w W :=
  ⟨h.bt.stay (fun _ h => h) fun b hb => k.block b (h.below b hb), fun b hb => Nat.lt_of_lt_of_le (h.below b hb) k.size, (k.block tb (lt_of_heap h.box)).trans h.box, below_mono h.bel k (Nat.le_refl _), h.len⟩
theorem LawT.cells {R : Nat → Prop} {xs : List Xp} {ts : List Tr} {a0 a1 a2 a3 a4 a5 : Option Addr} {c0 c1 c2 c3 c4 c5 L L2 tb : Nat} {w W0 : World} (h : LawT R xs ts a0 a1 a2 a3 a4 a5 c0 c1 c2 c3 c4 c5 L L2 tb w W0) : W0.cell? ⟨tb, 0, none⟩ = some (.slice a0 L c0) ∧ W0.cell? ⟨tb, 1, none⟩ = some (.slice a1 L c1) ∧ W0.cell? ⟨tb, 2, none⟩ = some (.slice a2 L c2) ∧ W0.cell? ⟨tb, 3, none⟩ = some (.slice a3 L2 c3) ∧ W0.cell? ⟨tb, 4, none⟩ = some (.slice a4 L2 c4) ∧ W0.cell? ⟨tb, 5, none⟩ = some (.slice a5 L2 c5) :=
  ⟨cell_blk h.box 0, cell_blk h.box 1, cell_blk h.box 2, cell_blk h.box 3, cell_blk h.box 4, cell_blk h.box 5⟩
end Go.Proofs.Ythhimllddgfddaa
namespace Go.Proofs.Ythhimllddgfddaa
open Go.RowKit Go.PlainAid Go.Sort
set_option linter.unusedVariables false
set_option linter.unusedSimpArgs false
end Go.Proofs.Ythhimllddgfddaa
