/- Layer 1: num.Print, the document's Print. Conditions: those written at each theorem. -/
import Derived.Test.YtdkjjpfidkaagaaDoorHelp
import Derived.BigQuiet
import Derived.Deep.QuietTactic
import Derived.RegionTactic
import Derived.ChangeAlike
import Derived.Lib.QuietBelow
import Derived.Test.YtdkjjpfidkaagaaDoorShelf
import Derived.Shelf.Spec.BitsCarry
import Derived.WalkLawsBesides
import Derived.WalkSpells
import Derived.Lib.ItoaNum
import Derived.Deep.RegionWith
import Derived.LoopTactic
import Derived.ProofKit
import Derived.Lib.ItoaMem
import Derived.Lib.SmallJoins
import Derived.Lib.OwnBridge
import Derived.Deep.CutBlock
import Derived.Deep.DeepCutAuto
import Derived.Deep.LoopGhost
import Derived.BigGuard
namespace Go.Proofs.YtdkjjpfidkaagaaDoor.Nu
set_option linter.unusedVariables false

/-- The value of digits. -/
def dval : List Nat → Nat
  | [] => 0
  | d :: l => d + 65536 * dval l
/-- The digits of a number, none above it nought. -/
def dgF : Nat → Nat → List Nat
  | 0, _ => []
  | f + 1, n => if n = 0 then [] else n % 65536 :: dgF f (n / 65536)
def dg (n : Nat) : List Nat := dgF n n
def Low (l : List Nat) : Prop := ∀ d ∈ l, d < 65536
theorem dgF_any : ∀ (f g n : Nat), n ≤ f → n ≤ g → dgF f n = dgF g n
  | 0, g, n, h, _ => by
    obtain rfl : n = 0 := by omega
    cases g <;> simp [dgF]
  | f + 1, 0, n, _, h => by
    obtain rfl : n = 0 := by omega
    simp [dgF]
  | f + 1, g + 1, n, h, h' => by
    unfold dgF
    split
    · rfl
    · rw [dgF_any f g (n / 65536) (by omega) (by omega)]
theorem dg_zero : dg 0 = [] := rfl
theorem dg_step {n : Nat} (h : n ≠ 0) : dg n = n % 65536 :: dg (n / 65536) := by
  unfold dg
  obtain ⟨k, rfl⟩ : ∃ k, n = k + 1 := ⟨n - 1, by omega⟩
  rw [dgF, if_neg h, dgF_any k ((k + 1) / 65536) _ (by omega) (by omega)]
theorem dg_val (n : Nat) : dval (dg n) = n := by
  induction n using Nat.strongRecOn with
  | _ n ih =>
    by_cases h : n = 0
    · subst h; rfl
    · rw [dg_step h, dval, ih (n / 65536) (by omega)]; omega
theorem dg_low (n : Nat) : Low (dg n) := by
  induction n using Nat.strongRecOn with
  | _ n ih =>
    by_cases h : n = 0
    · subst h; intro d hd; simp [dg_zero] at hd
    · rw [dg_step h]
      intro d hd
      rcases List.mem_cons.1 hd with rfl | hd
      · omega
      · exact ih (n / 65536) (by omega) d hd
theorem dg_nil_iff {n : Nat} : dg n = [] ↔ n = 0 := by
  constructor
  · intro h; have := dg_val n; rw [h] at this; simpa [dval] using this.symm
  · rintro rfl; rfl
theorem dval_pos {l : List Nat} (hl : Low l) (h : l ≠ []) (h' : l.getLast h ≠ 0) : 0 < dval l := by
  induction l with
  | nil => exact absurd rfl h
  | cons d l ih =>
    cases l with
    | nil => simp at h'; simp [dval]; omega
    | cons e l =>
      have := ih (fun x hx => hl x (List.mem_cons_of_mem _ hx)) (by simp) (by simpa using h')
      rw [dval]; omega
/-- Digits without noughts above are the digits of their value. -/
theorem dg_of {l : List Nat} (hl : Low l) (h : ∀ h : l ≠ [], l.getLast h ≠ 0) : dg (dval l) = l := by
  induction l with
  | nil => rfl
  | cons d l ih =>
    have hd : d < 65536 := hl d (by simp)
    have hlow : Low l := fun x hx => hl x (List.mem_cons_of_mem _ hx)
    have hp := dval_pos hl (by simp) (h (by simp))
    rw [dg_step (by omega), dval]
    have e1 : (d + 65536 * dval l) % 65536 = d := by omega
    have e2 : (d + 65536 * dval l) / 65536 = dval l := by omega
    rw [e1, e2, ih hlow]
    intro hne
    have := h (by simp)
    rwa [List.getLast_cons hne] at this
theorem dval_append (a b : List Nat) : dval (a ++ b) = dval a + 65536 ^ a.length * dval b := by
  induction a with
  | nil => simp [dval]
  | cons d a ih => simp only [List.cons_append, dval, ih, List.length_cons, Nat.pow_succ]; rw [Nat.mul_add, ← Nat.mul_assoc, Nat.mul_comm 65536 (65536 ^ a.length)]; omega
theorem dval_lt {l : List Nat} (hl : Low l) : dval l < 65536 ^ l.length := by
  induction l with
  | nil => simp [dval]
  | cons d l ih =>
    have hd : d < 65536 := hl d (by simp)
    have := ih (fun x hx => hl x (List.mem_cons_of_mem _ hx))
    rw [dval, List.length_cons, Nat.pow_succ]; omega
theorem dval_take_succ {l : List Nat} {i : Nat} (h : i < l.length) : dval (l.take (i + 1)) = dval (l.take i) + 65536 ^ i * l[i] := by
  rw [List.take_succ_eq_append_getElem h, dval_append]
  simp [dval, List.length_take, Nat.min_eq_left (Nat.le_of_lt h)]
theorem Low.take {l : List Nat} (h : Low l) (k : Nat) : Low (l.take k) := fun d hd => h d (List.mem_of_mem_take hd)
theorem Low.get {l : List Nat} (h : Low l) {i : Nat} (hi : i < l.length) : l[i] < 65536 := h _ (List.getElem_mem hi)
theorem dg_length_le {n k : Nat} (h : n < 65536 ^ k) : (dg n).length ≤ k := by
  induction k generalizing n with
  | zero => simp at h; subst h; simp [dg_zero]
  | succ k ih =>
    by_cases hn : n = 0
    · subst hn; simp [dg_zero]
    · rw [dg_step hn, List.length_cons]
      have : n / 65536 < 65536 ^ k := by rw [Nat.pow_succ] at h; omega
      have := ih this
      omega
theorem dg_last (n : Nat) (h : dg n ≠ []) : (dg n).getLast h ≠ 0 := by
  induction n using Nat.strongRecOn with
  | _ n ih =>
    have hn : n ≠ 0 := fun e => h (by rw [e, dg_zero])
    by_cases hq : n / 65536 = 0
    · have e : dg n = [n % 65536] := by rw [dg_step hn, hq, dg_zero]
      simp only [e, List.getLast_singleton]; omega
    · have e := dg_step hn
      have hne : dg (n / 65536) ≠ [] := fun e => hq (dg_nil_iff.1 e)
      have := ih (n / 65536) (by omega) hne
      simp only [e, List.getLast_cons hne]; exact this
theorem dg_pow_le {n : Nat} (h : n ≠ 0) : 65536 ^ ((dg n).length - 1) ≤ n := by
  induction n using Nat.strongRecOn with
  | _ n ih =>
    by_cases hq : n / 65536 = 0
    · rw [dg_step h, hq, dg_zero]; simp; omega
    · have h1 := ih (n / 65536) (by omega) hq
      rw [dg_step h, List.length_cons]
      have hl : (dg (n / 65536)).length ≠ 0 := by
        intro e; exact hq (dg_nil_iff.1 (List.length_eq_zero_iff.1 e))
      obtain ⟨k, hk⟩ : ∃ k, (dg (n / 65536)).length = k + 1 := ⟨_, (Nat.succ_pred hl).symm⟩
      rw [hk] at h1 ⊢
      simp only [Nat.add_sub_cancel] at h1 ⊢
      rw [Nat.pow_succ]; omega
/-- Fewer digits, the less number. -/
theorem lt_of_len {x y : Nat} (h : (dg x).length < (dg y).length) : x < y := by
  have hy : y ≠ 0 := by rintro rfl; simp [dg_zero] at h
  have h1 := dval_lt (dg_low x)
  rw [dg_val] at h1
  have h2 := dg_pow_le hy
  have h3 : 65536 ^ (dg x).length ≤ 65536 ^ ((dg y).length - 1) := Nat.pow_le_pow_right (by omega) (by omega)
  omega
theorem dval_split (l : List Nat) (i : Nat) (h : i ≤ l.length) : dval l = dval (l.take i) + 65536 ^ i * dval (l.drop i) := by
  conv => lhs; rw [← List.take_append_drop i l]
  rw [dval_append, List.length_take, Nat.min_eq_left h]
theorem lt_of_digit {a b : List Nat} {i : Nat} (ha : Low a) (hb : Low b) (hia : i < a.length) (hib : i < b.length) (hd : a.drop (i + 1) = b.drop (i + 1)) (h : a[i] < b[i]) : dval a < dval b := by
  have e1 := dval_split a (i + 1) hia
  have e2 := dval_split b (i + 1) hib
  rw [dval_take_succ hia] at e1
  rw [dval_take_succ hib, ← hd] at e2
  have l1 := dval_lt (ha.take i)
  rw [List.length_take, Nat.min_eq_left (Nat.le_of_lt hia)] at l1
  have l2 : 65536 ^ i * a[i] + 65536 ^ i ≤ 65536 ^ i * b[i] := by
    rw [← Nat.mul_succ]; exact Nat.mul_le_mul_left _ h
  omega
/-- Which of two numbers is less. -/
def cmpI (x y : Nat) : Int := if x < y then -1 else if y < x then 1 else 0
end Go.Proofs.YtdkjjpfidkaagaaDoor.Nu
namespace Go.Proofs.YtdkjjpfidkaagaaDoor.Nu
open Go.RowKit Go.Sort
set_option linter.unusedSimpArgs false
set_option linter.unusedVariables false

/-- A slice whose cells, below block B, hold these values. -/
def SAt (B : Nat) (ao : Option Addr) (vs : List Value) (w : World) : Prop :=
  (0 < vs.length → ∃ a, ao = some a) ∧ ∀ a, ao = some a → 0 < vs.length → a.block < B ∧ ∀ i u, vs[i]? = some u → w.cell? (a.add i) = some u
theorem SAt.under {B : Nat} {ao : Option Addr} {vs : List Value} {w w' : World} (h : SAt B ao vs w) (k : Below B w w') : SAt B ao vs w' :=
  ⟨h.1, fun a e hp => ⟨(h.2 a e hp).1, fun i u hu => (k.cell (p := a.add i) (by have := (h.2 a e hp).1; unfold Addr.add; split <;> exact this)).trans ((h.2 a e hp).2 i u hu)⟩⟩
theorem SAt.mono {B B' : Nat} {ao : Option Addr} {vs : List Value} {w : World} (h : SAt B ao vs w) (hb : B ≤ B') : SAt B' ao vs w :=
  ⟨h.1, fun a e hp => ⟨Nat.lt_of_lt_of_le (h.2 a e hp).1 hb, (h.2 a e hp).2⟩⟩
theorem SAt.next {ao : Option Addr} {vs : List Value} {w w' : World} (h : SAt w.heap.size ao vs w) (k : Below w.heap.size w w') : SAt w'.heap.size ao vs w' :=
  (h.under k).mono k.size
theorem add_none (b off j : Nat) : (⟨b, off, none⟩ : Addr).add j = ⟨b, off + j, none⟩ := by
  unfold Addr.add
  split
  · rename_i h; subst h; rfl
  · rfl
/-- Digits as values. -/
def us (l : List Nat) : List Value := l.map fun (d : Nat) => Value.int .u64 (d : Int)
theorem us_length (l : List Nat) : (us l).length = l.length := by simp [us]
theorem SAt.nil (B : Nat) (ao : Option Addr) (w : World) : SAt B ao (us []) w := ⟨fun h => by simp [us] at h, fun _ _ h => by simp [us] at h⟩
theorem SAt.cells {B : Nat} {ao : Option Addr} {xs : List Nat} {w : World} (h : SAt B ao (us xs) w) (hp : 0 < xs.length) :
    ∃ b off, ao = some ⟨b, off, none⟩ ∧ b < B ∧ ∀ j, (hj : j < xs.length) → w.cell? ⟨b, off + j, none⟩ = some (.int .u64 (xs[j] : Int)) := by
  have hp' : 0 < (us xs).length := by rw [us_length]; exact hp
  obtain ⟨a, rfl⟩ := h.1 hp'
  obtain ⟨hb, hc⟩ := h.2 a rfl hp'
  have hc' : ∀ j, (hj : j < xs.length) → w.cell? (a.add j) = some (.int .u64 (xs[j] : Int)) := by
    intro j hj
    apply hc
    unfold us
    rw [List.getElem?_map, List.getElem?_eq_getElem hj]
    simp
  obtain ⟨b, off, spot⟩ := a
  cases spot with
  | some s =>
    have := hc' 0 hp
    simp [World.cell?, Addr.add] at this
    split at this <;> cases this
  | none => exact ⟨b, off, rfl, hb, fun j hj => by rw [← add_none]; exact hc' j hj⟩
theorem SAt.take {B : Nat} {ao : Option Addr} {xs : List Nat} {w : World} (h : SAt B ao (us xs) w) (k : Nat) : SAt B ao (us (xs.take k)) w := by
  have hl : 0 < (us (xs.take k)).length → 0 < (us xs).length := by
    rw [us_length, us_length, List.length_take]; omega
  refine ⟨fun hp => h.1 (hl hp), fun a e hp => ⟨(h.2 a e (hl hp)).1, fun i u hu => (h.2 a e (hl hp)).2 i u ?_⟩⟩
  unfold us at hu ⊢
  rw [List.map_take, List.getElem?_take] at hu
  split at hu
  · exact hu
  · cases hu

/-- A slice of the digits of n. -/
def MagIs (n : Nat) (v : Value) (w : World) : Prop := ∃ ao cap, v = .slice ao (dg n).length cap ∧ (dg n).length ≤ cap ∧ SAt w.heap.size ao (us (dg n)) w
theorem MagIs.next {n : Nat} {v : Value} {w w' : World} (h : MagIs n v w) (k : Below w.heap.size w w') : MagIs n v w' := by
  obtain ⟨ao, cap, h1, h2, h3⟩ := h
  exact ⟨ao, cap, h1, h2, h3.next k⟩

theorem take_zero {l : List Nat} {j : Nat} (hj : j < l.length) (h0 : l[j] = 0) (e : dval (l.take (j + 1)) = dval l) : dval (l.take j) = dval l := by
  rw [dval_take_succ hj, h0] at e
  omega
theorem take_done {l : List Nat} {j : Nat} (hl : Low l) (hj : j < l.length) (h0 : l[j] ≠ 0) (e : dval (l.take (j + 1)) = dval l) : l.take (j + 1) = dg (dval l) := by
  rw [← e, dg_of (hl.take _)]
  intro hne
  rw [List.getLast_eq_getElem]
  simp only [List.getElem_take, List.length_take]
  have e2 : min (j + 1) l.length - 1 = j := by omega
  simp only [e2]
  exact h0
theorem take_none {l : List Nat} (e : dval (l.take 0) = dval l) : dg (dval l) = [] := by
  rw [← e]; rfl

theorem SAt.set {B : Nat} {ao : Option Addr} {vs : List Value} {w : World} (h : SAt B ao vs w) (p : Addr) (u : Value) (hp : ∀ a, ao = some a → a.block ≠ p.block) : SAt B ao vs (w.setCell p u) :=
  ⟨h.1, fun a e hl => ⟨(h.2 a e hl).1, fun i x hx => by
    rw [World.cell?_setCell_other (a := p) (b := a.add i) _ _ (fun e' => hp a e (by rw [e']; unfold Addr.add; split <;> rfl))]
    exact (h.2 a e hl).2 i x hx⟩⟩
theorem MagIs.set {n : Nat} {v : Value} {w : World} (h : MagIs n v w) (p : Addr) (u : Value) (hp : ∀ a k c, v = .slice (some a) k c → a.block ≠ p.block) : MagIs n v (w.setCell p u) := by
  obtain ⟨ao, cap, rfl, h2, h3⟩ := h
  refine ⟨ao, cap, rfl, h2, ?_⟩
  have := h3.set p u (fun a e => hp a _ _ (by rw [e]))
  simpa using this
def Trimmed (B : Nat) (ao : Option Addr) (cap : Nat) (l : List Nat) (w : World) (e : Ending) (w' : World) : Prop :=
  ∃ k, k ≤ l.length ∧ l.take k = dg (dval l) ∧ e = .returned (.slice ao k cap) ∧ w = w'
theorem Trimmed.mag {B : Nat} {ao : Option Addr} {cap : Nat} {l : List Nat} {w w' : World} {e : Ending} (h : SAt w.heap.size ao (us l) w) (hc : l.length ≤ cap) (ht : Trimmed B ao cap l w e w') : w = w' ∧ ∃ k, e = .returned (.slice ao k cap) ∧ MagIs (dval l) (.slice ao k cap) w := by
  obtain ⟨k, hk, hd, rfl, rfl⟩ := ht
  have hlen : (dg (dval l)).length = k := by rw [← hd, List.length_take]; omega
  refine ⟨rfl, _, rfl, ao, cap, by rw [hlen], by omega, ?_⟩
  rw [← hd]
  exact h.take k

theorem cmp_len {x y : Nat} (h : (dg x).length < (dg y).length) : cmpI x y = -1 ∧ cmpI y x = 1 := by
  have := lt_of_len h
  unfold cmpI
  constructor
  · rw [if_pos this]
  · rw [if_neg (by omega), if_pos this]
theorem cmp_less {x y i : Nat} (hx : i < (dg x).length) (hy : i < (dg y).length) (hd : (dg x).drop (i + 1) = (dg y).drop (i + 1)) (h : (dg x)[i] < (dg y)[i]) : cmpI x y = -1 ∧ cmpI y x = 1 := by
  have := lt_of_digit (dg_low x) (dg_low y) hx hy hd h
  rw [dg_val, dg_val] at this
  unfold cmpI
  constructor
  · rw [if_pos this]
  · rw [if_neg (by omega), if_pos this]
theorem cmp_same {x y : Nat} (h : dg x = dg y) : cmpI x y = 0 := by
  have : x = y := by rw [← dg_val x, h, dg_val]
  subst this; simp [cmpI]
theorem drop_same {x y i : Nat} (hx : i < (dg x).length) (hy : i < (dg y).length) (hd : (dg x).drop (i + 1) = (dg y).drop (i + 1)) (h : (dg x)[i] = (dg y)[i]) : (dg x).drop i = (dg y).drop i := by
  rw [List.drop_eq_getElem_cons hx, List.drop_eq_getElem_cons hy, hd, h]

theorem size_nat (n : Nat) (h : n ≤ 9223372036854775807) (w : World) :
    Calls Tryd.prog 123 #[.int .i64 n] w fun e w' => e = .returned (.int .u64 n) ∧ w = w' := by
  have h0 : ¬ (n : Int) < 0 := by omega
  go_enter Tryd.func123, Tryd.ntmps123
  go_wp2
  go_ret
  exact ⟨rfl, rfl⟩
theorem size_neg (n : Nat) (h1 : 1 ≤ n) (h : n ≤ 9223372036854775808) (w : World) :
    Calls Tryd.prog 123 #[.int .i64 (-(n : Int))] w fun e w' => e = .returned (.int .u64 n) ∧ w = w' := by
  obtain ⟨m, hm⟩ : ∃ m : Int, m = -(n : Int) := ⟨_, rfl⟩
  have h0 : m < 0 := by omega
  have y1 : IntKind.u64.wrap m = m + 18446744073709551616 := by rw [IntKind.wrap_u64]; omega
  have y2 : IntKind.u64.wrap (-(m + 18446744073709551616)) = (n : Int) := by rw [IntKind.wrap_u64]; omega
  have hm1 : -9223372036854775808 ≤ m := by omega
  rw [← hm]
  clear hm
  go_enter Tryd.func123, Tryd.ntmps123
  go_wp2
  go_ret
  exact ⟨rfl, rfl⟩
theorem size_any (a : Int) (h0 : -9223372036854775808 ≤ a) (h1 : a ≤ 9223372036854775807) (w : World) :
    Calls Tryd.prog 123 #[.int .i64 a] w fun e w' => e = .returned (.int .u64 a.natAbs) ∧ w = w' := by
  rcases Int.lt_or_le a 0 with h | h
  · have := size_neg a.natAbs (by omega) (by omega) w
    rwa [show -(a.natAbs : Int) = a by omega] at this
  · have := size_nat a.natAbs (by omega) w
    rw [show (a.natAbs : Int) = a by omega] at this ⊢
    exact this
theorem mul64_any (x y : Nat) (hx : x < 18446744073709551616) (hy : y < 18446744073709551616) (w : World) :
    Calls Tryd.prog 110 #[.int .u64 x, .int .u64 y] w fun e w' => e = .returned (.tuple #[.int .u64 (x * y / 18446744073709551616 : Nat), .int .u64 (x * y % 18446744073709551616 : Nat)]) ∧ Below w.heap.size w w' :=
  (Tryd.bits_Mul64 x y hx hy w).mono fun e w' h => ⟨h.1, by rw [h.2]; exact Below.refl _ _⟩

theorem below_of_eq {B : Nat} {w w' : World} (h : w = w') : Below B w w' := h ▸ Below.refl _ _
theorem size7 (w : World) : Calls Tryd.prog 123 #[.int .i64 7] w fun e w' => e = .returned (.int .u64 7) ∧ w = w' := size_nat 7 (by omega) w
theorem size10 (w : World) : Calls Tryd.prog 123 #[.int .i64 10] w fun e w' => e = .returned (.int .u64 10) ∧ w = w' := size_nat 10 (by omega) w
theorem size1 (w : World) : Calls Tryd.prog 123 #[.int .i64 1] w fun e w' => e = .returned (.int .u64 1) ∧ w = w' := size_nat 1 (by omega) w
theorem size2 (w : World) : Calls Tryd.prog 123 #[.int .i64 2] w fun e w' => e = .returned (.int .u64 2) ∧ w = w' := size_nat 2 (by omega) w
theorem size3 (w : World) : Calls Tryd.prog 123 #[.int .i64 3] w fun e w' => e = .returned (.int .u64 3) ∧ w = w' := size_nat 3 (by omega) w
theorem mul7 (w : World) : Calls Tryd.prog 110 #[.int .u64 7, .int .u64 1] w fun e w' => e = .returned (.tuple #[.int .u64 0, .int .u64 7]) ∧ w' = w := Tryd.bits_Mul64 7 1 (by omega) (by omega) w
theorem mul10 (w : World) : Calls Tryd.prog 110 #[.int .u64 10, .int .u64 1] w fun e w' => e = .returned (.tuple #[.int .u64 0, .int .u64 10]) ∧ w' = w := Tryd.bits_Mul64 10 1 (by omega) (by omega) w
/-- The last i digits of m. -/
def rt : Nat → Nat → List UInt8
  | 0, _ => []
  | i + 1, m => Lib.dg m i :: rt i m
theorem rt_len : ∀ i m, (rt i m).length = i
  | 0, _ => rfl
  | i + 1, m => by simp [rt, rt_len i m]
theorem dg_add (m d i : Nat) : Lib.dg m (i + d) = Lib.dg (m / 10 ^ d) i := by
  unfold Lib.dg
  rw [Nat.div_div_eq_div_mul, ← Nat.pow_add, Nat.add_comm d i]
theorem rt_div (d m : Nat) : ∀ i, rt (i + d) m = rt i (m / 10 ^ d) ++ rt d m
  | 0 => by simp [rt]
  | i + 1 => by rw [show i + 1 + d = (i + d) + 1 by omega, rt, rt_div d m i, rt, dg_add]; rfl
theorem rt_eq (m : Nat) : ∀ i, rt i m = (List.range i).map fun t => Lib.dg m (i - 1 - t)
  | 0 => rfl
  | i + 1 => by
    rw [rt, rt_eq m i, List.range_succ_eq_map, List.map_cons, List.map_map]
    congr 1
    refine List.map_congr_left fun t ht => ?_
    simp only [Function.comp]
    congr 1
    omega
theorem dec_rt (u : Nat) : Lib.decDigits u = rt (Lib.nDigits u) u := by rw [Lib.decDigits_eq, rt_eq]
theorem dg_toNat (m i : Nat) : (Lib.dg m i).toNat = 48 + m / 10 ^ i % 10 := by
  unfold Lib.dg
  have := Nat.mod_lt (m / 10 ^ i) (show 0 < 10 by omega)
  simp only [UInt8.toNat_ofNat']
  omega
theorem rt_dig : ∀ i m, ∀ c ∈ rt i m, 48 ≤ c.toNat ∧ c.toNat ≤ 57
  | 0, _, c, h => by simp [rt] at h
  | i + 1, m, c, h => by
    rcases List.mem_cons.1 h with rfl | h
    · have := Nat.mod_lt (m / 10 ^ i) (show 0 < 10 by omega)
      rw [dg_toNat]; omega
    · exact rt_dig i m c h
theorem rt_low {m i : Nat} (h : m < 10 ^ i) : ∀ j, rt (j + i) m = List.replicate j 48 ++ rt i m
  | 0 => by simp
  | j + 1 => by
    rw [show j + 1 + i = (j + i) + 1 by omega, rt, rt_low h j, List.replicate_succ, List.cons_append]
    congr 1
    apply UInt8.toNat_inj.1
    rw [dg_toNat, Nat.div_eq_of_lt (Nat.lt_of_lt_of_le h (Nat.pow_le_pow_right (by omega) (by omega)))]
    rfl

/-- How many digits there are, with d behind the point. -/
def wide (m d : Nat) : Nat := max (d + 1) (Lib.nDigits m)
theorem wide_lt (m d : Nat) : m < 10 ^ wide m d := Nat.lt_of_lt_of_le (Lib.lt_pow_nDigits m) (Nat.pow_le_pow_right (by omega) (Nat.le_max_right _ _))
theorem wide_le (m d : Nat) : d + 1 ≤ wide m d := Nat.le_max_left _ _
theorem nDigits_le {m k : Nat} (hk : 1 ≤ k) (h : m < 10 ^ k) : Lib.nDigits m ≤ k := by
  rcases Nat.lt_or_ge k (Lib.nDigits m) with hl | hg
  · have hp : 10 ^ (Lib.nDigits m - 1) ≤ m := by
      rcases Nat.eq_zero_or_pos m with h0 | h0
      · subst h0; rw [Lib.nDigits_small (by omega)] at hl; omega
      · exact Classical.byContradiction fun hn => by
          have hm := Lib.nDigits_pos m
          have : ∀ j, 1 ≤ j → m < 10 ^ j → Lib.nDigits m ≤ j := by
            intro j
            induction j generalizing m with
            | zero => intro h; omega
            | succ j ih =>
              intro _ hj
              rcases Nat.eq_zero_or_pos j with hj0 | hj0
              · subst hj0; rw [Lib.nDigits_small (by omega)]; omega
              · rcases Nat.lt_or_ge m (10 ^ j) with hl' | hg'
                · exact Nat.le_succ_of_le (Classical.byContradiction fun hc => by
                    have : ∀ (j m : Nat), 1 ≤ j → m < 10 ^ j → Lib.nDigits m ≤ j := by
                      intro j
                      induction j with
                      | zero => intro m h; omega
                      | succ j ih2 =>
                        intro m _ hm
                        rcases Nat.lt_or_ge m 10 with h10 | h10
                        · rw [Lib.nDigits_small h10]; omega
                        · rw [Lib.nDigits_big (by omega)]
                          have : m / 10 < 10 ^ j := by rw [Nat.pow_succ] at hm; omega
                          have hj1 : 1 ≤ j := by
                            rcases Nat.eq_zero_or_pos j with hz | hz
                            · subst hz; simp at this; omega
                            · exact hz
                          have := ih2 (m / 10) hj1 this
                          omega
                    exact hc (this j m hj0 hl'))
                · exact Nat.le_of_eq (Lib.nDigits_unique j m hg' hj)
          have := this (Lib.nDigits m - 1) (by omega) (by omega)
          omega
    have : 10 ^ k ≤ 10 ^ (Lib.nDigits m - 1) := Nat.pow_le_pow_right (by omega) (by omega)
    omega
  · exact hg
theorem nDigits_ge {m : Nat} (h : m ≠ 0) : 10 ^ (Lib.nDigits m - 1) ≤ m := by
  rcases Nat.lt_or_ge m (10 ^ (Lib.nDigits m - 1)) with hl | hg
  · rcases Nat.lt_or_ge 1 (Lib.nDigits m) with h1 | h1
    · have := nDigits_le (k := Lib.nDigits m - 1) (by omega) hl
      omega
    · have : Lib.nDigits m - 1 = 0 := by omega
      rw [this] at hl; simp at hl; omega
  · exact hg
/-- The text of a size. -/
def body (m d : Nat) : List UInt8 := rt (wide m d - d) (m / 10 ^ d) ++ if d = 0 then [] else 46 :: rt d m
/-- The text of a number. -/
def txt (x : Int) (d : Nat) : List UInt8 := (if x < 0 then [45] else []) ++ body x.natAbs d
theorem body_len (m d : Nat) (hm : m ≤ 9223372036854775808) (hd : d ≤ 9) : (body m d).length ≤ 20 := by
  have : Lib.nDigits m ≤ 19 := nDigits_le (by omega) (by omega)
  have hw : wide m d ≤ 19 := by unfold wide; omega
  unfold body
  rw [List.length_append, rt_len]
  split
  · simp; omega
  · simp [rt_len]; omega
theorem txt_len (x : Int) (d : Nat) (hx : -9223372036854775808 ≤ x ∧ x ≤ 9223372036854775807) (hd : d ≤ 9) : (txt x d).length ≤ 21 := by
  have := body_len x.natAbs d (by omega) hd
  unfold txt
  rw [List.length_append]
  split <;> simp <;> omega

/-- What a row of digits is read as behind a number; none, if it isn't one, or beyond. -/
def readL : List UInt8 → Nat → Option Nat
  | [], n => some n
  | c :: l, n => if c.toNat < 48 ∨ 57 < c.toNat ∨ (9223372036854775808 - (c.toNat - 48)) / 10 < n then none else readL l (10 * n + (c.toNat - 48))
theorem readL_some : ∀ (l : List UInt8) (n0 n : Nat), readL l n0 = some n → n / 10 ^ l.length = n0 ∧ l = rt l.length n ∧ (n0 ≤ 9223372036854775808 → n ≤ 9223372036854775808)
  | [], n0, n, h => by simp [readL] at h; subst h; simp [rt]
  | c :: l, n0, n, h => by
    unfold readL at h
    split at h
    · cases h
    · rename_i hc
      obtain ⟨a, b, d⟩ := readL_some l _ n h
      have e : n / 10 ^ (l.length + 1) = n0 := by
        rw [Nat.pow_succ, ← Nat.div_div_eq_div_mul, a]
        omega
      refine ⟨by simpa using e, ?_, fun _ => d (by omega)⟩
      rw [List.length_cons, rt, ← b]
      congr 1
      apply UInt8.toNat_inj.1
      rw [dg_toNat, a]
      omega
theorem readL_rt (a : Nat) : ∀ (k n0 : Nat), n0 * 10 ^ k + a % 10 ^ k ≤ 9223372036854775808 → readL (rt k a) n0 = some (n0 * 10 ^ k + a % 10 ^ k)
  | 0, n0, h => by simp [rt, readL, Nat.mod_one]
  | k + 1, n0, h => by
    have hd := Nat.mod_lt (a / 10 ^ k) (show 0 < 10 by omega)
    have hp : 0 < 10 ^ k := Nat.pow_pos (by omega)
    have e : a % 10 ^ (k + 1) = a / 10 ^ k % 10 * 10 ^ k + a % 10 ^ k := by
      rw [Nat.pow_succ, Nat.mod_mul, Nat.mul_comm, Nat.add_comm]
    have e2 : n0 * 10 ^ (k + 1) + a % 10 ^ (k + 1) = (10 * n0 + a / 10 ^ k % 10) * 10 ^ k + a % 10 ^ k := by
      rw [e, Nat.pow_succ, Nat.add_mul, ← Nat.mul_assoc, Nat.mul_comm 10 n0, Nat.mul_assoc n0 (10 ^ k) 10, Nat.mul_comm (10 ^ k) 10, ← Nat.mul_assoc]
      omega
    rw [e2] at h ⊢
    unfold rt readL
    rw [dg_toNat]
    have h1 : (10 * n0 + a / 10 ^ k % 10) * 1 ≤ (10 * n0 + a / 10 ^ k % 10) * 10 ^ k := Nat.mul_le_mul_left _ hp
    rw [if_neg (by omega), show 48 + a / 10 ^ k % 10 - 48 = a / 10 ^ k % 10 by omega]
    exact readL_rt a k _ h
/-- What is collected of a text: its digits, whatever stands between. -/
def cvL : List UInt8 → Nat → Nat
  | [], n => n
  | c :: l, n => cvL l (if 48 ≤ c.toNat ∧ c.toNat ≤ 57 then 10 * n + (c.toNat - 48) else n)
theorem cvL_append : ∀ (l r : List UInt8) (n : Nat), cvL (l ++ r) n = cvL r (cvL l n)
  | [], _, _ => rfl
  | c :: l, r, n => by simp only [List.cons_append, cvL]; exact cvL_append l r _
theorem cvL_rt (a : Nat) : ∀ (k n0 : Nat), cvL (rt k a) n0 = n0 * 10 ^ k + a % 10 ^ k
  | 0, n0 => by simp [rt, cvL, Nat.mod_one]
  | k + 1, n0 => by
    have hd := Nat.mod_lt (a / 10 ^ k) (show 0 < 10 by omega)
    have e : a % 10 ^ (k + 1) = a / 10 ^ k % 10 * 10 ^ k + a % 10 ^ k := by
      rw [Nat.pow_succ, Nat.mod_mul, Nat.mul_comm, Nat.add_comm]
    have e2 : n0 * 10 ^ (k + 1) + a % 10 ^ (k + 1) = (10 * n0 + a / 10 ^ k % 10) * 10 ^ k + a % 10 ^ k := by
      rw [e, Nat.pow_succ, Nat.add_mul, ← Nat.mul_assoc, Nat.mul_comm 10 n0, Nat.mul_assoc n0 (10 ^ k) 10, Nat.mul_comm (10 ^ k) 10, ← Nat.mul_assoc]
      omega
    rw [e2]
    unfold rt cvL
    rw [dg_toNat, if_pos (by omega), show 48 + a / 10 ^ k % 10 - 48 = a / 10 ^ k % 10 by omega]
    exact cvL_rt a k _
theorem cvL_body (m d : Nat) : cvL (body m d) 0 = m := by
  have hw := wide_le m d
  have hl := wide_lt m d
  have hq : m / 10 ^ d < 10 ^ (wide m d - d) := by
    rw [Nat.div_lt_iff_lt_mul (Nat.pow_pos (by omega)), ← Nat.pow_add, show wide m d - d + d = wide m d by omega]
    exact hl
  unfold body
  rw [cvL_append, cvL_rt, Nat.mod_eq_of_lt hq]
  split
  · rename_i h0; subst h0; simp [cvL]
  · unfold cvL
    rw [if_neg (by decide), cvL_rt]
    have := Nat.div_add_mod m (10 ^ d)
    rw [Nat.mul_comm] at this
    rw [Nat.zero_mul, Nat.zero_add]
    exact this
theorem cvL_txt (x : Int) (d : Nat) : cvL (txt x d) 0 = x.natAbs := by
  unfold txt
  rw [cvL_append]
  split
  · rw [show cvL [45] 0 = 0 from rfl]; exact cvL_body _ _
  · exact cvL_body _ _
end Go.Proofs.YtdkjjpfidkaagaaDoor.Nu
namespace Go.Proofs.YtdkjjpfidkaagaaDoor.Nu
open Go.RowKit Go.Sort
set_option linter.unusedSimpArgs false
set_option linter.unusedVariables false

/-- The table of the powers of ten, in memory. -/
abbrev PowAt (w : World) : Prop := Lib.TabIs Tryd.prog w "internal/strconv.uint64pow10" .u64 Lib.pow10Tab
theorem gPow : Tryd.prog.globalNamed "internal/strconv.uint64pow10" = some 3 := by kernel_rfl
theorem pow_next {w w' : World} (h : PowAt w) (hb : Below w.heap.size w w') : PowAt w' := Joins.tab_stays gPow h hb (Nat.le_refl _)
theorem holds_zero0 (w : World) (T : TypeId) (nd : Nat) (hs : nd ≤ 24) : Holds (fun (b : UInt8) => Value.int .u8 (b.toNat : Int)) (w.alloc (.cells Lib.zeros24 T)) w.heap.size 0 (Array.replicate nd (0 : UInt8)) := fun j hj => by
  have hj' : j < nd := by simpa using hj
  refine ⟨?_, World.frozen?_alloc_new _ _ _ _⟩
  rw [World.cell?_alloc_new, Lib.zeros24_at _ (by omega), getElem!_pos _ j hj]
  simp
set_option maxHeartbeats 1600000 in
set_option maxRecDepth 100000 in
theorem fmt_small (u : Nat) (h : u < 100) (w : World) :
    Calls Tryd.prog 139 #[.int .u64 u, .int .i64 10] w fun e w' => e = .returned (.string ⟨(Lib.decDigits u).toArray⟩) ∧ w = w' := by
  have h1 : (u : Int) < 100 := by omega
  go_enter Tryd.func139, Tryd.ntmps139
  go_wp2_with fail
  refine (Tryd.internal_strconv_small u h _).mono ?_
  rintro e w1 ⟨rfl, rfl⟩
  go_wp2_with fail
  go_ret
  exact ⟨rfl, rfl⟩
set_option maxHeartbeats 6400000 in
set_option maxRecDepth 100000 in
theorem fmt_great (u : Nat) (h : 100 ≤ u) (hu64 : u < 18446744073709551616) (w : World) (hT : PowAt w) :
    Calls Tryd.prog 139 #[.int .u64 u, .int .i64 10] w fun e w' => e = .returned (.string ⟨(Lib.decDigits u).toArray⟩) ∧ Below w.heap.size w w' := by
  have h1 : ¬ (u : Int) < 100 := by omega
  have hu1 : 1 ≤ u := by omega
  have hnd20 : Lib.nDigits u ≤ 20 := by have := Lib.numDigits_eq u hu1 hu64; split at this <;> omega
  have hb3 : Lib.nDigits u ≤ 24 := by omega
  have hal : Tryd.prog.arrayLen 163 = 24 := by kernel_rfl
  have hsl1 : ∀ W, (Instr.sliceAt 163 (.pointer (some ⟨w.heap.size, 0, none⟩)) none (some (.int .i64 (Lib.nDigits u : Int))) none).run Tryd.prog W = .ok (.slice (some ⟨w.heap.size, 0, none⟩) (Lib.nDigits u) 24) W := fun W => by
    rw [run_sliceAt_array_h W 163 ⟨w.heap.size, 0, none⟩ (by kernel_rfl) .i64 (Lib.nDigits u : Int) (by omega) (by rw [hal]; omega)]
    go_simp
    try omega
  have hH0 := holds_zero0 w 163 (Lib.nDigits u) (by omega)
  have hfmt := Tryd.internal_strconv_formatBase10 w.heap.size 0 24 u (Array.replicate (Lib.nDigits u) 0) (w.alloc (.cells Lib.zeros24 163)) hH0 (by rw [Array.size_replicate]; exact Lib.lt_pow_nDigits u) hu64 (by rw [Array.size_replicate]; omega)
  rw [Array.size_replicate] at hfmt
  have HH0 := Lib.hid hH0
  have HN := Lib.hid (Tryd.internal_strconv_numDigits u hu1 hu64 (w.alloc (.cells Lib.zeros24 163)) (Lib.tabIs_alloc hT _))
  have HF := Lib.hid hfmt
  clear hH0 hal hfmt hT
  go_enter Tryd.func139, Tryd.ntmps139
  go_wp2_with fail
  refine HN.out.mono ?_
  rintro e w1 ⟨rfl, rfl⟩
  go_wp2_with fail
  refine HF.out.mono ?_
  rintro e w1 ⟨rfl, k, v', dk, hw1, hF⟩
  have hB : Below w.heap.size w w1 := by
    rw [hw1]
    exact below_drewN (Lib.below_putRow (q := 0) ((Below.refl _ _).alloc (Nat.le_refl _) _) (Nat.le_refl _)) k
  have hcv : ∀ T, T = w1 → (convert 77 9 (.slice (some ⟨w.heap.size, 0, none⟩) (Lib.nDigits u) 24)).run Tryd.prog T = .ok (.string ⟨(Lib.decDigits u).toArray⟩) T := by
    intro T hT
    rw [hT]
    have h := run_convert_bytes_back (P := Tryd.prog) w1 77 9 5 ⟨w.heap.size, 0, none⟩ 24 (Lib.decDigits u) Tryd.underlying77 Tryd.underlying5 Tryd.underlying9 (fun j hj => by
      rw [hw1, Lib.row_is_numeral hF j hj, Lib.add_plain, World.cell?_drewN]
      exact cell?_putRow (fun (b : UInt8) => Value.int .u8 (b.toNat : Int)) _ w.heap.size 0 _ dk HH0.out (by rw [hF.size, Array.size_replicate]) j (by rw [hF.size]; rw [Lib.decDigits_length] at hj; exact hj))
    rw [Lib.decDigits_length] at h
    exact h
  have hcv1 := hcv w1 rfl
  have HB := Lib.hid hB
  clear hcv hB hF hw1 HN HF HH0
  go_wp2_with fail
  go_ret
  exact ⟨rfl, HB.out⟩
theorem fmt_any (u : Nat) (hu64 : u < 18446744073709551616) (w : World) (hT : PowAt w) :
    Calls Tryd.prog 122 #[.int .u64 u, .int .i64 10] w fun e w' => e = .returned (.string ⟨(Lib.decDigits u).toArray⟩) ∧ Below w.heap.size w w' := by
  have C : Hid (Calls Tryd.prog 139 #[.int .u64 u, .int .i64 10] w fun e w' => e = .returned (.string ⟨(Lib.decDigits u).toArray⟩) ∧ Below w.heap.size w w') := by
    rcases Nat.lt_or_ge u 100 with h | h
    · exact Lib.hid ((fmt_small u h w).mono fun e w' ⟨he, hw⟩ => ⟨he, by rw [← hw]; exact Below.refl _ _⟩)
    · exact Lib.hid (fmt_great u h hu64 w hT)
  clear hT
  go_enter Tryd.func122, Tryd.ntmps122
  go_wp2_with fail
  refine C.out.mono ?_
  rintro e w1 ⟨rfl, hB⟩
  have HB := Lib.hid hB
  clear hB
  go_wp2_with fail
  go_ret
  exact ⟨rfl, HB.out⟩

theorem repeatL_one (c : Nat) : Lib.repeatL (⟨#[48]⟩ : ByteArray).data.toList c = List.replicate c 48 := by
  induction c with
  | zero => rfl
  | succ c ih => simp only [Lib.repeatL, ih, List.replicate_succ]; rfl
theorem ret_text {x : ByteArray} {l : List UInt8} (h : x.data.toList = l) : Ending.returned (.string x) = .returned (.string ⟨l.toArray⟩) := by
  subst h; rfl
/-- A text in memory's form. -/
abbrev bs (l : List UInt8) : ByteArray := ⟨l.toArray⟩
set_option maxHeartbeats 1600000 in
set_option maxRecDepth 100000 in
theorem print_any (n : Int) (d : Nat) (h0 : -9223372036854775808 ≤ n) (h1 : n ≤ 9223372036854775807) (hd : d ≤ 9) (w : World) (hT : PowAt w) :
    Calls Tryd.prog 101 #[.int .i64 n, .int .i64 d] w fun e w' => e = .returned (.string (bs (txt n d))) ∧ Below w.heap.size w w' := by
  obtain ⟨m, hm⟩ : ∃ m, m = n.natAbs := ⟨_, rfl⟩
  have C1 : Hid (Calls Tryd.prog 123 #[.int .i64 n] w fun e w' => e = .returned (.int .u64 m) ∧ w = w') := Lib.hid (by rw [hm]; exact size_any n h0 h1 w)
  have C2 := Lib.hid (fmt_any m (by omega) w hT)
  have d0 : ¬ (d : Int) < 0 := by omega
  have d9 : ¬ 9 < (d : Int) := by omega
  obtain ⟨s, hs⟩ : ∃ s : ByteArray, s = ⟨(Lib.decDigits m).toArray⟩ := ⟨_, rfl⟩
  have hsl : s.size = Lib.nDigits m := by rw [hs]; show (Lib.decDigits m).toArray.size = _; simp [Lib.decDigits_length]
  have hl1 := Lib.nDigits_pos m
  have hl20 : Lib.nDigits m ≤ 20 := nDigits_le (by omega) (by omega)
  obtain ⟨L, hL⟩ : ∃ L, L = Lib.nDigits m := ⟨_, rfl⟩
  rw [← hL] at hsl hl1 hl20
  rw [← hs] at C2
  have HS := Lib.hid hs
  have HLL := Lib.hid hL
  have HM := Lib.hid hm
  have HSL := Lib.hid hsl
  clear hs hL hm hT hsl
  go_enter Tryd.func101, Tryd.ntmps101
  go_wp2_with fail
  refine C1.out.mono ?_
  rintro e w1 ⟨rfl, rfl⟩
  go_wp2_with fail
  refine C2.out.mono ?_
  rintro e w1 ⟨rfl, hB⟩
  have HB := Lib.hid hB
  clear hB C1 C2
  go_upto_if 19 with fail
  go_cut [5] (fun v wx => ∃ t, v = .string t ∧ Hid (t = bs (rt (wide m d) m)) ∧ Hid (Below w.heap.size w wx))
  case first =>
    have hsl := HSL.out
    have hw : Hid (PowAt w1 → True) := Lib.hid (fun _ => trivial)
    by_cases hle : L ≤ d
    · have e1 : (s.size : Int) ≤ (d : Int) := by omega
      obtain ⟨c, hc⟩ : ∃ c : Nat, c = d + 1 - L := ⟨_, rfl⟩
      obtain ⟨r, hr⟩ : ∃ r : ByteArray, r = ⟨(List.replicate c 48).toArray⟩ := ⟨_, rfl⟩
      have C3 : Hid (∀ W, Calls Tryd.prog 47 #[.string ⟨#[48]⟩, .int .i64 ((d : Int) + 1 - (L : Int))] W fun e w' => e = .returned (.string r) ∧ Below W.heap.size W w') := Lib.hid (fun W => by
        have h := Tryd.strings_Repeat ⟨#[48]⟩ c W (by omega) (by show 1 * c ≤ _; omega)
        rw [show ((c : Nat) : Int) = (d : Int) + 1 - (L : Int) by omega, show Lib.repeatL (⟨#[48]⟩ : ByteArray).data.toList c = List.replicate c 48 from repeatL_one c, ← hr] at h
        exact h)
      have HT : Hid (r ++ s = bs (rt (wide m d) m)) := Lib.hid (by
        rw [hr, HS.out, dec_rt, ← HLL.out, show wide m d = c + L by have := HLL.out; unfold wide; omega, rt_low (by rw [HLL.out]; exact Lib.lt_pow_nDigits m)]
        apply ByteArray.ext
        simp)
      have hrl : r.size ≤ 100 := by rw [hr]; show (List.replicate c (48 : UInt8)).toArray.size ≤ 100; simp; omega
      clear hc hr
      go_wp2_with fail
      refine (C3.out _).mono ?_
      rintro e w2 ⟨rfl, hB2⟩
      have HB2 := Lib.hid (below_mono HB.out hB2 (Nat.le_refl _))
      clear hB2 C3
      go_wp2_with fail
      go_meet
      exact ⟨_, rfl, HT, HB2⟩
    · have e1 : ¬ (s.size : Int) ≤ (d : Int) := by omega
      have HT : Hid (s = bs (rt (wide m d) m)) := Lib.hid (by
        rw [HS.out, dec_rt, ← HLL.out, show wide m d = L by have := HLL.out; unfold wide; omega])
      go_wp2_with fail
      go_meet
      exact ⟨_, rfl, HT, HB⟩
  case rest =>
    obtain ⟨t, rfl, HT, HB2⟩ := hcut
    clear HB HS HLL HSL
    obtain ⟨W, hW⟩ : ∃ W, W = wide m d := ⟨_, rfl⟩
    have hwl := wide_le m d
    have hw20 : wide m d ≤ 20 := by unfold wide; have hmm := HM.out; have : Lib.nDigits m ≤ 20 := nDigits_le (by omega) (by omega); omega
    rw [← hW] at HT hwl hw20
    have hts : t.size = W := by rw [HT.out]; show (rt W m).toArray.size = W; simp [rt_len]
    have HW := Lib.hid hW
    clear hW
    have key : Hid (∀ b : Bool, b = decide (n < 0) → (if b then [45] else []) ++ (if d = 0 then t.data.toList else (t.data.toList.take (W - d) ++ 46 :: t.data.toList.drop (W - d))) = txt n d) := Lib.hid (by
      rintro _ rfl
      have e1 : t.data.toList = rt (W - d) (m / 10 ^ d) ++ rt d m := by
        rw [HT.out]
        show (rt W m).toArray.toList = _
        rw [← rt_div d m (W - d), show W - d + d = W by omega]
      unfold txt body
      rw [e1, ← HM.out, ← HW.out]
      congr 1
      · simp
      · by_cases h : d = 0
        · subst h; simp [rt]
        · rw [if_neg h, if_neg h, List.take_left' (rt_len _ _), List.drop_left' (rt_len _ _)])
    obtain ⟨A, rfl⟩ : ∃ A, W = A + d := ⟨W - d, by omega⟩
    rw [show A + d - d = A by omega] at key
    by_cases hd0 : d = 0
    · subst hd0
      have HT2 := HT
      by_cases hn : n < 0
      · go_wp2_with fail
        go_ret
        refine ⟨ret_text ?_, HB2.out⟩
        have h := key.out true (by simp [hn])
        rw [if_pos rfl, if_pos trivial] at h
        rw [← h]
        simp
      · go_wp2_with fail
        go_ret
        refine ⟨ret_text ?_, HB2.out⟩
        have h := key.out false (by simp [hn])
        rw [if_neg (by simp), if_pos trivial] at h
        rw [← h]
        simp
    · have d1 : 0 < (d : Int) := by omega
      have q1 : (0 : Int) ≤ (A : Int) := by omega
      have q2 : (A : Int) ≤ (A : Int) + (d : Int) := by omega
      have htl : Hid (t.data.toList.length = A + d) := Lib.hid (by rw [← hts]; rfl)
      by_cases hn : n < 0
      · go_wp2_with fail
        go_quiet (fail)
        go_wp2_with fail
        go_ret
        refine ⟨ret_text ?_, below_drewN HB2.out _⟩
        have h := key.out true (by simp [hn])
        rw [if_pos rfl, if_neg hd0] at h
        rw [← h, ← htl.out]
        simp [List.take_of_length_le]
      · go_wp2_with fail
        go_quiet (fail)
        go_wp2_with fail
        go_ret
        refine ⟨ret_text ?_, below_drewN HB2.out _⟩
        have h := key.out false (by simp [hn])
        rw [if_neg (by simp), if_neg hd0] at h
        rw [← h, ← htl.out]
        simp [List.take_of_length_le]
end Go.Proofs.YtdkjjpfidkaagaaDoor.Nu
namespace Go.Proofs.YtdkjjpfidkaagaaDoor.Nu
open Go.RowKit Go.Sort
set_option linter.unusedSimpArgs false
set_option linter.unusedVariables false

/-- What stands there when i digits have been laid. -/
def dS (m d i : Nat) : List UInt8 := if i ≤ d then rt i m else rt (i - d) (m / 10 ^ d) ++ if d = 0 then [] else 46 :: rt d m
theorem dS_low {m d i : Nat} (h : i < d) : dS m d (i + 1) = Lib.dg m i :: dS m d i := by
  unfold dS; rw [if_pos (by omega), if_pos (by omega), rt]
theorem dS_zero {m i : Nat} : dS m 0 (i + 1) = Lib.dg m i :: dS m 0 i := by
  unfold dS
  rw [if_neg (by omega)]
  simp only [Nat.sub_zero, Nat.pow_zero, Nat.div_one, if_true, List.append_nil]
  split
  · obtain rfl : i = 0 := by omega
    rfl
  · rfl
theorem dS_at {m d : Nat} (h : 0 < d) : dS m d (d + 1) = Lib.dg m d :: 46 :: dS m d d := by
  have e1 : ¬ d + 1 ≤ d := by omega
  have e2 : ¬ d = 0 := by omega
  simp only [dS, e1, e2, Nat.le_refl, if_true, if_false]
  rw [show d + 1 - d = 0 + 1 by omega, rt, ← dg_add]
  simp [rt]
theorem dS_high {m d i : Nat} (h : d < i) : dS m d (i + 1) = Lib.dg m i :: dS m d i := by
  have e1 : ¬ i + 1 ≤ d := by omega
  have e2 : ¬ i ≤ d := by omega
  simp only [dS, e1, e2, if_false]
  rw [show i + 1 - d = (i - d) + 1 by omega, rt, ← dg_add, show i - d + d = i by omega]
  rfl
theorem dS_end (m d : Nat) : dS m d (wide m d) = body m d := by
  have := wide_le m d
  unfold dS body
  rw [if_neg (by omega)]
theorem dS_len (m d i : Nat) (hi : i ≤ 30) (hd : d ≤ 9) : (dS m d i).length ≤ 50 := by
  unfold dS
  split
  · rw [rt_len]; omega
  · rw [List.length_append, rt_len]
    split
    · simp; omega
    · simp [rt_len]; omega
theorem one_byte (w : World) (c : Int) : (convert 77 9 (.slice (some ⟨w.heap.size, 0, none⟩) 1 1)).run Tryd.prog (w.alloc (.cells #[.int .u8 c] 5)) = .ok (.string (strOfNums [c])) (w.alloc (.cells #[.int .u8 c] 5)) :=
  run_convert_bytes_arg (P := Tryd.prog) _ 77 5 Tryd.underlying77 Tryd.underlying5 w.heap.size 0 1 1 [c] rfl (fun i hi => by
    obtain rfl : i = 0 := by omega
    simp) _ Tryd.underlying9
theorem byte_cons (m i : Nat) (l : List UInt8) (c : Int) (h : c = ((48 + m / 10 ^ i % 10 : Nat) : Int)) : strOfNums [c] ++ (⟨l.toArray⟩ : ByteArray) = ⟨(Lib.dg m i :: l).toArray⟩ := by
  subst h
  unfold Lib.dg
  generalize 48 + m / 10 ^ i % 10 = x
  apply ByteArray.ext
  simp [strOfNums, ByteArray.append_eq, ByteArray.append]
set_option maxRecDepth 100000 in
set_option maxHeartbeats 1000000 in
theorem rprint_any (n : Int) (d : Nat) (h0 : -9223372036854775808 ≤ n) (h1 : n ≤ 9223372036854775807) (hd : d ≤ 9) (w : World) :
    Calls Tryd.prog 40 #[.int .i64 n, .int .i64 d] w fun e w' => e = .returned (.string (bs (txt n d))) ∧ Below w.heap.size w w' := by
  obtain ⟨m, hm⟩ : ∃ m, m = n.natAbs := ⟨_, rfl⟩
  have hw30 : wide m d ≤ 30 := by unfold wide; have : Lib.nDigits m ≤ 20 := nDigits_le (by omega) (by omega); omega
  obtain ⟨M, hM⟩ : ∃ M : Int, M = m := ⟨_, rfl⟩
  have HM := Lib.hid hm
  have HMM : Hid (M = m ∧ m ≤ 9223372036854775808) := Lib.hid ⟨hM, by omega⟩
  have K0 := Lib.hid (Below.refl w.heap.size w)
  have hcv := one_byte
  have hW := wide_le m d
  clear hm
  obtain ⟨q, hq⟩ : ∃ q : Bool, decide (n < 0) = q := ⟨_, rfl⟩
  have E1 : q = true → IntKind.u64.wrap (-IntKind.u64.wrap n) = M := fun h => by
    have h' := HM.out; rw [← hq] at h; have := of_decide_eq_true h; rw [IntKind.wrap_u64, IntKind.wrap_u64]; omega
  have E2 : q = false → IntKind.u64.wrap n = M := fun h => by
    have h' := HM.out; rw [← hq] at h; have := of_decide_eq_false h; rw [IntKind.wrap_u64]; omega
  have HFin : Hid ((if q = true then [45] else []) ++ dS m d (wide m d) = txt n d) := Lib.hid (by
    rw [dS_end, HM.out, ← hq]; unfold txt; simp)
  clear hM h0 h1
  go_enter Tryd.func40, Tryd.ntmps40
  go_upto_if 11 with fail
  go_cut [5] (fun v wx => v = .int .u64 M ∧ w = wx)
  case first =>
    cases q with
    | true =>
      have e := E1 rfl
      have hn : n < 0 := of_decide_eq_true hq
      clear E1 E2 hq
      go_wp2_with fail
      go_meet
      exact ⟨rfl, rfl⟩
    | false =>
      have e := E2 rfl
      have hn : ¬ n < 0 := of_decide_eq_false hq
      clear E1 E2 hq
      go_wp2_with fail
      go_meet
      exact ⟨rfl, rfl⟩
  case rest =>
    obtain ⟨rfl, rfl⟩ := hcut
    clear E1 E2
    go_wp2_with fail
    go_loopw [5, 6, 7] (fun u v i wr => ∃ (j : Nat) (U : Int) (s : ByteArray), j ≤ wide m d ∧ i = .int .i64 j ∧ u = .int .u64 U ∧ v = .string s ∧ Hid (U = ((m / 10 ^ j : Nat) : Int)) ∧ Hid (s = ⟨(dS m d j).toArray⟩) ∧ Hid (Below w.heap.size w wr)) (fun _ _ i _ => wide m d - (intOf i).toNat)
    case atStart => exact ⟨0, M, ⟨#[]⟩, by omega, rfl, rfl, rfl, Lib.hid (by rw [HMM.out.1]; simp), Lib.hid (by simp [dS, rt]), K0⟩
    case round =>
      obtain ⟨j, U, s, hj, rfl, rfl, rfl, HU, HS, HB⟩ := hrel
      clear K0
      have hU : 0 ≤ U := by rw [HU.out]; exact Int.natCast_nonneg _
      have hss : s.size ≤ 50 := by rw [HS.out]; show (dS m d j).toArray.size ≤ 50; have := dS_len m d j (by omega) hd; simpa using this
      by_cases hc : j ≤ d ∨ 0 < U
      · have hj2 : j + 1 ≤ wide m d := by
          rcases hc with h | h
          · omega
          · have h1 : 1 ≤ m / 10 ^ j := by rw [HU.out] at h; exact Int.ofNat_lt.1 h
            have h2 : 10 ^ j ≤ m := by
              rcases Nat.lt_or_ge m (10 ^ j) with hl | hg
              · rw [Nat.div_eq_of_lt hl] at h1; omega
              · exact hg
            rcases Nat.lt_or_ge j (Lib.nDigits m) with hl | hg
            · unfold wide; omega
            · have := Lib.lt_pow_nDigits m
              have := Nat.pow_le_pow_right (show 10 > 0 by omega) hg
              omega
        obtain ⟨R, hR⟩ : ∃ R : Int, U % 10 = R := ⟨_, rfl⟩
        obtain ⟨C, hC⟩ : ∃ C : Int, 48 + R = C := ⟨_, rfl⟩
        obtain ⟨U2, hU2⟩ : ∃ U2 : Int, U / 10 = U2 := ⟨_, rfl⟩
        have hR2 : U.tmod 10 = R := by rw [← hR]; exact Int.tmod_eq_emod_of_nonneg hU
        have hU3 : U.tdiv 10 = U2 := by rw [← hU2]; exact Int.tdiv_eq_ediv_of_nonneg hU
        have w1 : IntKind.u64.wrap C = C := by rw [IntKind.wrap_u64]; omega
        have w2 : IntKind.u8.wrap C = C := by rw [IntKind.wrap_u8]; omega
        have w3 : IntKind.u64.wrap U2 = U2 := by
          have h1 := HU.out
          have h2 : m / 10 ^ j ≤ m := Nat.div_le_self _ _
          have h3 := HMM.out.2
          have h4 : U ≤ m := by rw [h1]; exact Int.ofNat_le.2 h2
          rw [IntKind.wrap_u64]; omega
        have HC : Hid (C = ((48 + m / 10 ^ j % 10 : Nat) : Int)) := Lib.hid (by rw [← hC, ← hR, HU.out]; omega)
        have HU2 : Hid (U2 = ((m / 10 ^ (j + 1) : Nat) : Int)) := Lib.hid (by rw [← hU2, HU.out, Nat.pow_succ, ← Nat.div_div_eq_div_mul]; omega)
        have hsc : (strOfNums [C]).size = 1 := by simp [strOfNums, ByteArray.size]
        have fin : ∀ s', s' = strOfNums [C] ++ (⟨(if j = d ∧ 0 < d then 46 :: dS m d j else dS m d j).toArray⟩ : ByteArray) → s' = ⟨(dS m d (j + 1)).toArray⟩ := fun s' h => by
          rw [h, byte_cons m j _ C HC.out]
          by_cases hjd : j = d ∧ 0 < d
          · rw [if_pos hjd]
            obtain ⟨rfl, h0⟩ := hjd
            rw [dS_at h0]
          · rw [if_neg hjd]
            by_cases h0 : d = 0
            · subst h0; rw [dS_zero]
            · rcases Nat.lt_trichotomy j d with hl | he | hg
              · rw [dS_low hl]
              · exact absurd ⟨he, by omega⟩ hjd
              · rw [dS_high hg]
        have HF := Lib.hid fin
        clear fin
        by_cases hjd : j = d ∧ 0 < d
        · obtain ⟨rfl, hd0⟩ := hjd
          have hd1 : (0 : Int) < (j : Int) := by omega
          go_wp2_with fail
          go_roundw
          case rel =>
            refine ⟨j + 1, U2, _, hj2, by go_num, rfl, rfl, HU2, Lib.hid (HF.out _ ?_), Lib.hid (HB.out.alloc HB.out.size _)⟩
            rw [if_pos ⟨rfl, hd0⟩, HS.out]
            congr 1
          case measure => simp [intOf]; omega
        · have hb : (((j : Int) == (d : Int)) && decide (0 < d)) = false := by
            rw [Bool.and_eq_false_iff, beq_eq_false_iff_ne, decide_eq_false_iff_not]
            omega
          have H1 : Hid (∀ s', s' = strOfNums [C] ++ s → s' = ⟨(dS m d (j + 1)).toArray⟩) := Lib.hid (fun s' h => HF.out s' (by rw [h, HS.out, if_neg hjd]))
          have cs : (((j : Int) == (d : Int)) = false) ∨ (((j : Int) == (d : Int)) = true ∧ ¬ (0 : Int) < (d : Int)) := by
            by_cases h : j = d
            · exact .inr ⟨by simp [h], by omega⟩
            · exact .inl (by rw [beq_eq_false_iff_ne]; omega)
          clear hb hjd HF
          rcases hc with hc | hc <;> rcases cs with cs | ⟨cs, cs2⟩
          all_goals
            go_wp2_with fail
            all_goals
              go_roundw
              case rel => exact ⟨j + 1, U2, _, hj2, by go_num, rfl, rfl, HU2, Lib.hid (H1.out _ rfl), Lib.hid (HB.out.alloc HB.out.size _)⟩
              case measure => simp [intOf]; omega
      · have c1 : ¬ (j : Int) ≤ (d : Int) := by omega
        have c2 : ¬ (0 : Int) < U := by omega
        have hjw : j = wide m d := by
          have h1 : m / 10 ^ j = 0 := by
            have h2 := HU.out
            have h3 : U = 0 := by omega
            rw [h2] at h3
            exact Int.ofNat_eq_zero.1 h3
          have h4 : m < 10 ^ j := by
            rcases Nat.lt_or_ge m (10 ^ j) with hl | hg
            · exact hl
            · have := Nat.div_pos hg (Nat.pow_pos (by omega)); omega
          have h5 := nDigits_le (m := m) (k := j) (by omega) h4
          unfold wide at hj ⊢
          omega
        have HJ := Lib.hid hjw
        clear hjw hc
        cases q with
        | true =>
          have hn : n < 0 := of_decide_eq_true hq
          clear hq
          go_wp2_with fail
          go_ret
          refine ⟨ret_text ?_, HB.out⟩
          rw [← HFin.out, HS.out, HJ.out]
          simp
        | false =>
          have hn : ¬ n < 0 := of_decide_eq_false hq
          clear hq
          go_wp2_with fail
          go_ret
          refine ⟨ret_text ?_, HB.out⟩
          rw [← HFin.out, HS.out, HJ.out]
          simp
end Go.Proofs.YtdkjjpfidkaagaaDoor.Nu
