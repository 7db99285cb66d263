/- Layer 1: num.Add, Sub, Mul, Neg, MulDiv. Conditions: those written at each theorem. -/
import Derived.Test.YtidldlhhmophjaaHelp
import Derived.BigQuiet
import Derived.Deep.QuietTactic
import Derived.RegionTactic
import Derived.ChangeAlike
import Derived.Lib.QuietBelow
import Derived.Test.YtidldlhhmophjaaShelf
import Derived.Shelf.Spec.BitsCarry
import Derived.WalkLawsBesides
import Derived.WalkSpells
import Derived.Laws.BitsAllLaws
import Derived.Deep.DeepCutAuto
import Derived.Outline
import Derived.Deep.CutBlock
namespace Go.Proofs.Ytidldlhhmophjaa.Nu
set_option linter.unusedVariables false

/-- The value of digits. -/
def dval : List Nat → Nat
  | [] => 0
  | d :: l => d + 65536 * dval l
/-- The digits of a number, none above it nought. -/
def dgF : Nat → Nat → List Nat
  | 0, _ => []
  | f + 1, n => if n = 0 then [] else n % 65536 :: dgF f (n / 65536)
def dg (n : Nat) : List Nat := dgF n n
def Low (l : List Nat) : Prop := ∀ d ∈ l, d < 65536
theorem dgF_any : ∀ (f g n : Nat), n ≤ f → n ≤ g → dgF f n = dgF g n
  | 0, g, n, h, _ => by
    obtain rfl : n = 0 := by omega
    cases g <;> simp [dgF]
  | f + 1, 0, n, _, h => by
    obtain rfl : n = 0 := by omega
    simp [dgF]
  | f + 1, g + 1, n, h, h' => by
    unfold dgF
    split
    · rfl
    · rw [dgF_any f g (n / 65536) (by omega) (by omega)]
theorem dg_zero : dg 0 = [] := rfl
theorem dg_step {n : Nat} (h : n ≠ 0) : dg n = n % 65536 :: dg (n / 65536) := by
  unfold dg
  obtain ⟨k, rfl⟩ : ∃ k, n = k + 1 := ⟨n - 1, by omega⟩
  rw [dgF, if_neg h, dgF_any k ((k + 1) / 65536) _ (by omega) (by omega)]
theorem dg_val (n : Nat) : dval (dg n) = n := by
  induction n using Nat.strongRecOn with
  | _ n ih =>
    by_cases h : n = 0
    · subst h; rfl
    · rw [dg_step h, dval, ih (n / 65536) (by omega)]; omega
theorem dg_low (n : Nat) : Low (dg n) := by
  induction n using Nat.strongRecOn with
  | _ n ih =>
    by_cases h : n = 0
    · subst h; intro d hd; simp [dg_zero] at hd
    · rw [dg_step h]
      intro d hd
      rcases List.mem_cons.1 hd with rfl | hd
      · omega
      · exact ih (n / 65536) (by omega) d hd
theorem dg_nil_iff {n : Nat} : dg n = [] ↔ n = 0 := by
  constructor
  · intro h; have := dg_val n; rw [h] at this; simpa [dval] using this.symm
  · rintro rfl; rfl
theorem dval_pos {l : List Nat} (hl : Low l) (h : l ≠ []) (h' : l.getLast h ≠ 0) : 0 < dval l := by
  induction l with
  | nil => exact absurd rfl h
  | cons d l ih =>
    cases l with
    | nil => simp at h'; simp [dval]; omega
    | cons e l =>
      have := ih (fun x hx => hl x (List.mem_cons_of_mem _ hx)) (by simp) (by simpa using h')
      rw [dval]; omega
/-- Digits without noughts above are the digits of their value. -/
theorem dg_of {l : List Nat} (hl : Low l) (h : ∀ h : l ≠ [], l.getLast h ≠ 0) : dg (dval l) = l := by
  induction l with
  | nil => rfl
  | cons d l ih =>
    have hd : d < 65536 := hl d (by simp)
    have hlow : Low l := fun x hx => hl x (List.mem_cons_of_mem _ hx)
    have hp := dval_pos hl (by simp) (h (by simp))
    rw [dg_step (by omega), dval]
    have e1 : (d + 65536 * dval l) % 65536 = d := by omega
    have e2 : (d + 65536 * dval l) / 65536 = dval l := by omega
    rw [e1, e2, ih hlow]
    intro hne
    have := h (by simp)
    rwa [List.getLast_cons hne] at this
theorem dval_append (a b : List Nat) : dval (a ++ b) = dval a + 65536 ^ a.length * dval b := by
  induction a with
  | nil => simp [dval]
  | cons d a ih => simp only [List.cons_append, dval, ih, List.length_cons, Nat.pow_succ]; rw [Nat.mul_add, ← Nat.mul_assoc, Nat.mul_comm 65536 (65536 ^ a.length)]; omega
theorem dval_lt {l : List Nat} (hl : Low l) : dval l < 65536 ^ l.length := by
  induction l with
  | nil => simp [dval]
  | cons d l ih =>
    have hd : d < 65536 := hl d (by simp)
    have := ih (fun x hx => hl x (List.mem_cons_of_mem _ hx))
    rw [dval, List.length_cons, Nat.pow_succ]; omega
theorem dval_take_succ {l : List Nat} {i : Nat} (h : i < l.length) : dval (l.take (i + 1)) = dval (l.take i) + 65536 ^ i * l[i] := by
  rw [List.take_succ_eq_append_getElem h, dval_append]
  simp [dval, List.length_take, Nat.min_eq_left (Nat.le_of_lt h)]
theorem Low.take {l : List Nat} (h : Low l) (k : Nat) : Low (l.take k) := fun d hd => h d (List.mem_of_mem_take hd)
theorem Low.get {l : List Nat} (h : Low l) {i : Nat} (hi : i < l.length) : l[i] < 65536 := h _ (List.getElem_mem hi)
theorem dg_length_le {n k : Nat} (h : n < 65536 ^ k) : (dg n).length ≤ k := by
  induction k generalizing n with
  | zero => simp at h; subst h; simp [dg_zero]
  | succ k ih =>
    by_cases hn : n = 0
    · subst hn; simp [dg_zero]
    · rw [dg_step hn, List.length_cons]
      have : n / 65536 < 65536 ^ k := by rw [Nat.pow_succ] at h; omega
      have := ih this
      omega
theorem dg_last (n : Nat) (h : dg n ≠ []) : (dg n).getLast h ≠ 0 := by
  induction n using Nat.strongRecOn with
  | _ n ih =>
    have hn : n ≠ 0 := fun e => h (by rw [e, dg_zero])
    by_cases hq : n / 65536 = 0
    · have e : dg n = [n % 65536] := by rw [dg_step hn, hq, dg_zero]
      simp only [e, List.getLast_singleton]; omega
    · have e := dg_step hn
      have hne : dg (n / 65536) ≠ [] := fun e => hq (dg_nil_iff.1 e)
      have := ih (n / 65536) (by omega) hne
      simp only [e, List.getLast_cons hne]; exact this
theorem dg_pow_le {n : Nat} (h : n ≠ 0) : 65536 ^ ((dg n).length - 1) ≤ n := by
  induction n using Nat.strongRecOn with
  | _ n ih =>
    by_cases hq : n / 65536 = 0
    · rw [dg_step h, hq, dg_zero]; simp; omega
    · have h1 := ih (n / 65536) (by omega) hq
      rw [dg_step h, List.length_cons]
      have hl : (dg (n / 65536)).length ≠ 0 := by
        intro e; exact hq (dg_nil_iff.1 (List.length_eq_zero_iff.1 e))
      obtain ⟨k, hk⟩ : ∃ k, (dg (n / 65536)).length = k + 1 := ⟨_, (Nat.succ_pred hl).symm⟩
      rw [hk] at h1 ⊢
      simp only [Nat.add_sub_cancel] at h1 ⊢
      rw [Nat.pow_succ]; omega
/-- Fewer digits, the less number. -/
theorem lt_of_len {x y : Nat} (h : (dg x).length < (dg y).length) : x < y := by
  have hy : y ≠ 0 := by rintro rfl; simp [dg_zero] at h
  have h1 := dval_lt (dg_low x)
  rw [dg_val] at h1
  have h2 := dg_pow_le hy
  have h3 : 65536 ^ (dg x).length ≤ 65536 ^ ((dg y).length - 1) := Nat.pow_le_pow_right (by omega) (by omega)
  omega
theorem dval_split (l : List Nat) (i : Nat) (h : i ≤ l.length) : dval l = dval (l.take i) + 65536 ^ i * dval (l.drop i) := by
  conv => lhs; rw [← List.take_append_drop i l]
  rw [dval_append, List.length_take, Nat.min_eq_left h]
theorem lt_of_digit {a b : List Nat} {i : Nat} (ha : Low a) (hb : Low b) (hia : i < a.length) (hib : i < b.length) (hd : a.drop (i + 1) = b.drop (i + 1)) (h : a[i] < b[i]) : dval a < dval b := by
  have e1 := dval_split a (i + 1) hia
  have e2 := dval_split b (i + 1) hib
  rw [dval_take_succ hia] at e1
  rw [dval_take_succ hib, ← hd] at e2
  have l1 := dval_lt (ha.take i)
  rw [List.length_take, Nat.min_eq_left (Nat.le_of_lt hia)] at l1
  have l2 : 65536 ^ i * a[i] + 65536 ^ i ≤ 65536 ^ i * b[i] := by
    rw [← Nat.mul_succ]; exact Nat.mul_le_mul_left _ h
  omega
/-- Which of two numbers is less. -/
def cmpI (x y : Nat) : Int := if x < y then -1 else if y < x then 1 else 0
end Go.Proofs.Ytidldlhhmophjaa.Nu
namespace Go.Proofs.Ytidldlhhmophjaa.Nu
open Go.RowKit Go.Sort
set_option linter.unusedSimpArgs false
set_option linter.unusedVariables false

/-- A slice whose cells, below block B, hold these values. -/
def SAt (B : Nat) (ao : Option Addr) (vs : List Value) (w : World) : Prop :=
  (0 < vs.length → ∃ a, ao = some a) ∧ ∀ a, ao = some a → 0 < vs.length → a.block < B ∧ ∀ i u, vs[i]? = some u → w.cell? (a.add i) = some u
theorem SAt.under {B : Nat} {ao : Option Addr} {vs : List Value} {w w' : World} (h : SAt B ao vs w) (k : Below B w w') : SAt B ao vs w' :=
  ⟨h.1, fun a e hp => ⟨(h.2 a e hp).1, fun i u hu => (k.cell (p := a.add i) (by have := (h.2 a e hp).1; unfold Addr.add; split <;> exact this)).trans ((h.2 a e hp).2 i u hu)⟩⟩
theorem SAt.mono {B B' : Nat} {ao : Option Addr} {vs : List Value} {w : World} (h : SAt B ao vs w) (hb : B ≤ B') : SAt B' ao vs w :=
  ⟨h.1, fun a e hp => ⟨Nat.lt_of_lt_of_le (h.2 a e hp).1 hb, (h.2 a e hp).2⟩⟩
theorem SAt.next {ao : Option Addr} {vs : List Value} {w w' : World} (h : SAt w.heap.size ao vs w) (k : Below w.heap.size w w') : SAt w'.heap.size ao vs w' :=
  (h.under k).mono k.size
theorem add_none (b off j : Nat) : (⟨b, off, none⟩ : Addr).add j = ⟨b, off + j, none⟩ := by
  unfold Addr.add
  split
  · rename_i h; subst h; rfl
  · rfl
/-- Digits as values. -/
def us (l : List Nat) : List Value := l.map fun (d : Nat) => Value.int .u64 (d : Int)
theorem us_length (l : List Nat) : (us l).length = l.length := by simp [us]
theorem SAt.nil (B : Nat) (ao : Option Addr) (w : World) : SAt B ao (us []) w := ⟨fun h => by simp [us] at h, fun _ _ h => by simp [us] at h⟩
theorem SAt.cells {B : Nat} {ao : Option Addr} {xs : List Nat} {w : World} (h : SAt B ao (us xs) w) (hp : 0 < xs.length) :
    ∃ b off, ao = some ⟨b, off, none⟩ ∧ b < B ∧ ∀ j, (hj : j < xs.length) → w.cell? ⟨b, off + j, none⟩ = some (.int .u64 (xs[j] : Int)) := by
  have hp' : 0 < (us xs).length := by rw [us_length]; exact hp
  obtain ⟨a, rfl⟩ := h.1 hp'
  obtain ⟨hb, hc⟩ := h.2 a rfl hp'
  have hc' : ∀ j, (hj : j < xs.length) → w.cell? (a.add j) = some (.int .u64 (xs[j] : Int)) := by
    intro j hj
    apply hc
    unfold us
    rw [List.getElem?_map, List.getElem?_eq_getElem hj]
    simp
  obtain ⟨b, off, spot⟩ := a
  cases spot with
  | some s =>
    have := hc' 0 hp
    simp [World.cell?, Addr.add] at this
    split at this <;> cases this
  | none => exact ⟨b, off, rfl, hb, fun j hj => by rw [← add_none]; exact hc' j hj⟩
theorem SAt.take {B : Nat} {ao : Option Addr} {xs : List Nat} {w : World} (h : SAt B ao (us xs) w) (k : Nat) : SAt B ao (us (xs.take k)) w := by
  have hl : 0 < (us (xs.take k)).length → 0 < (us xs).length := by
    rw [us_length, us_length, List.length_take]; omega
  refine ⟨fun hp => h.1 (hl hp), fun a e hp => ⟨(h.2 a e (hl hp)).1, fun i u hu => (h.2 a e (hl hp)).2 i u ?_⟩⟩
  unfold us at hu ⊢
  rw [List.map_take, List.getElem?_take] at hu
  split at hu
  · exact hu
  · cases hu

/-- A slice of the digits of n. -/
def MagIs (n : Nat) (v : Value) (w : World) : Prop := ∃ ao cap, v = .slice ao (dg n).length cap ∧ (dg n).length ≤ cap ∧ SAt w.heap.size ao (us (dg n)) w
theorem MagIs.next {n : Nat} {v : Value} {w w' : World} (h : MagIs n v w) (k : Below w.heap.size w w') : MagIs n v w' := by
  obtain ⟨ao, cap, h1, h2, h3⟩ := h
  exact ⟨ao, cap, h1, h2, h3.next k⟩

theorem take_zero {l : List Nat} {j : Nat} (hj : j < l.length) (h0 : l[j] = 0) (e : dval (l.take (j + 1)) = dval l) : dval (l.take j) = dval l := by
  rw [dval_take_succ hj, h0] at e
  omega
theorem take_done {l : List Nat} {j : Nat} (hl : Low l) (hj : j < l.length) (h0 : l[j] ≠ 0) (e : dval (l.take (j + 1)) = dval l) : l.take (j + 1) = dg (dval l) := by
  rw [← e, dg_of (hl.take _)]
  intro hne
  rw [List.getLast_eq_getElem]
  simp only [List.getElem_take, List.length_take]
  have e2 : min (j + 1) l.length - 1 = j := by omega
  simp only [e2]
  exact h0
theorem take_none {l : List Nat} (e : dval (l.take 0) = dval l) : dg (dval l) = [] := by
  rw [← e]; rfl

theorem SAt.set {B : Nat} {ao : Option Addr} {vs : List Value} {w : World} (h : SAt B ao vs w) (p : Addr) (u : Value) (hp : ∀ a, ao = some a → a.block ≠ p.block) : SAt B ao vs (w.setCell p u) :=
  ⟨h.1, fun a e hl => ⟨(h.2 a e hl).1, fun i x hx => by
    rw [World.cell?_setCell_other (a := p) (b := a.add i) _ _ (fun e' => hp a e (by rw [e']; unfold Addr.add; split <;> rfl))]
    exact (h.2 a e hl).2 i x hx⟩⟩
theorem MagIs.set {n : Nat} {v : Value} {w : World} (h : MagIs n v w) (p : Addr) (u : Value) (hp : ∀ a k c, v = .slice (some a) k c → a.block ≠ p.block) : MagIs n v (w.setCell p u) := by
  obtain ⟨ao, cap, rfl, h2, h3⟩ := h
  refine ⟨ao, cap, rfl, h2, ?_⟩
  have := h3.set p u (fun a e => hp a _ _ (by rw [e]))
  simpa using this
def Trimmed (B : Nat) (ao : Option Addr) (cap : Nat) (l : List Nat) (w : World) (e : Ending) (w' : World) : Prop :=
  ∃ k, k ≤ l.length ∧ l.take k = dg (dval l) ∧ e = .returned (.slice ao k cap) ∧ w = w'
set_option maxHeartbeats 400000 in
theorem trim_any {B : Nat} (ao : Option Addr) (cap : Nat) (l : List Nat) (w : World) (hl : Low l) (hn : l.length ≤ 5000) (hc : l.length ≤ cap) (h : SAt B ao (us l) w) :
    Calls Try.prog 99 #[.slice ao l.length cap] w (Trimmed B ao cap l w) := by
  rcases Nat.eq_zero_or_pos l.length with hz | hp
  · obtain rfl : l = [] := List.length_eq_zero_iff.1 hz
    have hd : Trimmed B ao cap [] w (.returned (.slice ao 0 cap)) w := ⟨0, by simp, rfl, rfl, rfl⟩
    have HD := Lib.hid hd
    clear hz h hd
    simp only [List.length_nil]
    go_enter Try.func99, Try.ntmps99
    go_wp2_with fail
    go_loop [0] (fun t => t = .slice ao 0 cap) (fun _ => 0)
    case atStart => rfl
    case round =>
      subst hrel
      go_wp2_with fail
      go_ret
      exact HD.out
  · obtain ⟨b, off, rfl, hb, hcell⟩ := h.cells hp
    have HC := Lib.hid hcell
    have H0 : Hid (dval (l.take l.length) = dval l) := Lib.hid (by rw [List.take_length])
    clear h hcell
    go_enter Try.func99, Try.ntmps99
    go_wp2_with fail
    go_loop [0] (fun t => ∃ k : Nat, k ≤ l.length ∧ t = .slice (some ⟨b, off, none⟩) k cap ∧ Hid (dval (l.take k) = dval l)) (fun t => match t with | .slice _ k _ => k | _ => 0)
    case atStart => exact ⟨l.length, Nat.le_refl _, rfl, H0⟩
    case round =>
      obtain ⟨k, hk, rfl, HK⟩ := hrel
      clear H0
      cases k with
      | zero =>
        have HD : Hid (Trimmed B (some ⟨b, off, none⟩) cap l w (.returned (.slice (some ⟨b, off, none⟩) 0 cap)) w) := Lib.hid ⟨0, by omega, by rw [take_none HK.out]; rfl, rfl, rfl⟩
        go_wp2_with fail
        go_ret
        exact HD.out
      | succ j =>
        have hc1 := HC.out j (by omega)
        by_cases h0 : l[j] = 0
        · have HK' := Lib.hid (take_zero (by omega) h0 HK.out)
          have hb0 : ((l[j] : Int) == 0) = true := by simp; omega
          rw [h0] at hc1
          clear h0 hb0
          go_wp2_with fail
          go_round
          case rel => exact ⟨j, by omega, rfl, HK'⟩
          case measure => simp
        · have HD : Hid (Trimmed B (some ⟨b, off, none⟩) cap l w (.returned (.slice (some ⟨b, off, none⟩) (j + 1) cap)) w) := Lib.hid ⟨j + 1, hk, take_done hl (by omega) h0 HK.out, rfl, rfl⟩
          obtain ⟨x, hx⟩ : ∃ x : Int, x = (l[j] : Int) := ⟨_, rfl⟩
          have hb0 : (x == 0) = false := by rw [beq_eq_false_iff_ne]; omega
          rw [← hx] at hc1
          clear h0 hx
          go_wp2_with fail
          go_ret
          exact HD.out
theorem Trimmed.mag {B : Nat} {ao : Option Addr} {cap : Nat} {l : List Nat} {w w' : World} {e : Ending} (h : SAt w.heap.size ao (us l) w) (hc : l.length ≤ cap) (ht : Trimmed B ao cap l w e w') : w = w' ∧ ∃ k, e = .returned (.slice ao k cap) ∧ MagIs (dval l) (.slice ao k cap) w := by
  obtain ⟨k, hk, hd, rfl, rfl⟩ := ht
  have hlen : (dg (dval l)).length = k := by rw [← hd, List.length_take]; omega
  refine ⟨rfl, _, rfl, ao, cap, by rw [hlen], by omega, ?_⟩
  rw [← hd]
  exact h.take k

theorem cmp_len {x y : Nat} (h : (dg x).length < (dg y).length) : cmpI x y = -1 ∧ cmpI y x = 1 := by
  have := lt_of_len h
  unfold cmpI
  constructor
  · rw [if_pos this]
  · rw [if_neg (by omega), if_pos this]
theorem cmp_less {x y i : Nat} (hx : i < (dg x).length) (hy : i < (dg y).length) (hd : (dg x).drop (i + 1) = (dg y).drop (i + 1)) (h : (dg x)[i] < (dg y)[i]) : cmpI x y = -1 ∧ cmpI y x = 1 := by
  have := lt_of_digit (dg_low x) (dg_low y) hx hy hd h
  rw [dg_val, dg_val] at this
  unfold cmpI
  constructor
  · rw [if_pos this]
  · rw [if_neg (by omega), if_pos this]
theorem cmp_same {x y : Nat} (h : dg x = dg y) : cmpI x y = 0 := by
  have : x = y := by rw [← dg_val x, h, dg_val]
  subst this; simp [cmpI]
theorem drop_same {x y i : Nat} (hx : i < (dg x).length) (hy : i < (dg y).length) (hd : (dg x).drop (i + 1) = (dg y).drop (i + 1)) (h : (dg x)[i] = (dg y)[i]) : (dg x).drop i = (dg y).drop i := by
  rw [List.drop_eq_getElem_cons hx, List.drop_eq_getElem_cons hy, hd, h]

set_option maxHeartbeats 1000000 in
theorem cmp_any (x y : Nat) (va vb : Value) (w : World) (hx : (dg x).length ≤ 1000) (hy : (dg y).length ≤ 1000) (ha : MagIs x va w) (hb : MagIs y vb w) :
    Calls Try.prog 103 #[va, vb] w fun e w' => e = .returned (.int .i64 (cmpI x y)) ∧ Below w.heap.size w w' := by
  obtain ⟨ao, ca, rfl, _, sa⟩ := ha
  obtain ⟨bo, cb, rfl, _, sb⟩ := hb
  rcases Nat.lt_trichotomy (dg x).length (dg y).length with h | h | h
  · have HC := Lib.hid (cmp_len h).1
    have h' : ((dg x).length : Int) < ((dg y).length : Int) := by omega
    have hne : (((dg x).length : Int) != ((dg y).length : Int)) = true := by simp; omega
    go_enter Try.func103, Try.ntmps103
    go_wp2_with fail
    go_ret
    exact ⟨by rw [HC.out]; rfl, Below.refl _ _⟩
  · obtain ⟨n, hn⟩ : ∃ n, n = (dg x).length := ⟨_, rfl⟩
    rw [← h, ← hn]
    have hyn : (dg y).length = n := by omega
    have HX := Lib.hid hn
    have HY := Lib.hid hyn
    have hn1 : n ≤ 1000 := by omega
    have HDr : Hid ((dg x).drop n = (dg y).drop n) := Lib.hid (by rw [List.drop_eq_nil_of_le (by omega), List.drop_eq_nil_of_le (by omega)])
    rcases Nat.eq_zero_or_pos n with hz | hp
    · subst hz
      have HC : Hid (cmpI x y = 0) := Lib.hid (cmp_same (by simpa using HDr.out))
      clear h hyn hx hy hn sa sb
      go_enter Try.func103, Try.ntmps103
      go_wp2_with fail
      go_loop [5] (fun t => t = .int .i64 (-1)) (fun _ => 0)
      case atStart => rfl
      case round =>
        subst hrel
        go_wp2_with fail
        go_ret
        exact ⟨by rw [HC.out]; rfl, Below.refl _ _⟩
    · obtain ⟨b1, o1, rfl, _, c1⟩ := sa.cells (by omega)
      obtain ⟨b2, o2, rfl, _, c2⟩ := sb.cells (by omega)
      have C1 := Lib.hid c1
      have C2 := Lib.hid c2
      have K0 := Lib.hid (Below.refl w.heap.size w)
      clear h hyn hx hy hn sa sb c1 c2
      go_enter Try.func103, Try.ntmps103
      go_wp2_with fail
      go_loopw [5] (fun t wr => ∃ k : Nat, k ≤ n ∧ t = .int .i64 ((k : Int) - 1) ∧ Hid ((dg x).drop k = (dg y).drop k) ∧ ∃ q, wr = w.drewN q) (fun t _ => (intOf t + 1).toNat)
      case atStart => exact ⟨n, Nat.le_refl _, rfl, HDr, 0, rfl⟩
      case round =>
        obtain ⟨k, hk, rfl, HK, q, rfl⟩ := hrel
        clear HDr
        cases k with
        | zero =>
          have HC : Hid (cmpI x y = 0) := Lib.hid (cmp_same (by simpa using HK.out))
          simp only [Int.natCast_zero, Int.zero_sub]
          go_wp2_with fail
          go_ret
          exact ⟨by rw [HC.out]; rfl, below_drewN K0.out _⟩
        | succ j =>
          have ej : ((j + 1 : Nat) : Int) - 1 = (j : Int) := by omega
          rw [ej]
          have hj1 : j < (dg x).length := by rw [← HX.out]; omega
          have hj2 : j < (dg y).length := by rw [HY.out]; omega
          have d1 := C1.out j hj1
          have d2 := C2.out j hj2
          have HL := fun h => Lib.hid (cmp_less hj1 hj2 HK.out h).1
          have HG := fun h => Lib.hid (cmp_less hj2 hj1 HK.out.symm h).2
          have HS := fun h => Lib.hid (drop_same hj1 hj2 HK.out h)
          obtain ⟨p, hp'⟩ : ∃ p, p = (dg x)[j] := ⟨_, rfl⟩
          obtain ⟨r, hr'⟩ : ∃ r, r = (dg y)[j] := ⟨_, rfl⟩
          rw [← hp'] at d1 HL HG HS
          rw [← hr'] at d2 HL HG HS
          clear ej hj1 hj2 hp' hr'
          rcases Nat.lt_trichotomy p r with hlt | heq | hgt
          · have HC := HL hlt
            have hi : (p : Int) < (r : Int) := by omega
            clear HL HG HS
            go_wp2_with fail
            go_quiet (fail)
            go_wp2_with fail
            go_ret
            exact ⟨by rw [HC.out]; rfl, below_drewN (below_drewN K0.out _) _⟩
          · have HC := HS heq
            have hi : ¬ (p : Int) < (r : Int) := by omega
            have hi2 : ¬ (r : Int) < (p : Int) := by omega
            clear HL HG HS heq
            go_wp2_with fail
            go_quiet (fail)
            go_wp2_with fail
            go_quiet (fail)
            go_wp2_with fail
            go_roundw
            case rel => exact ⟨j, by omega, rfl, HC, _, rfl⟩
            case measure => simp [intOf]
          · have HC := HG hgt
            have hi : ¬ (p : Int) < (r : Int) := by omega
            have hi2 : (r : Int) < (p : Int) := by omega
            clear HL HG HS
            go_wp2_with fail
            go_quiet (fail)
            go_wp2_with fail
            go_quiet (fail)
            go_wp2_with fail
            go_ret
            exact ⟨by rw [HC.out]; rfl, below_drewN (below_drewN (below_drewN K0.out _) _) _⟩
  · have HC := Lib.hid (cmp_len h).2
    have h' : ¬ ((dg x).length : Int) < ((dg y).length : Int) := by omega
    have hne : (((dg x).length : Int) != ((dg y).length : Int)) = true := by simp; omega
    go_enter Try.func103, Try.ntmps103
    go_wp2_with fail
    go_ret
    exact ⟨by rw [HC.out]; rfl, Below.refl _ _⟩
end Go.Proofs.Ytidldlhhmophjaa.Nu
namespace Go.Proofs.Ytidldlhhmophjaa.Nu
open Go.RowKit Go.Sort
set_option linter.unusedSimpArgs false
set_option linter.unusedVariables false

theorem size_nat (n : Nat) (h : n ≤ 9223372036854775807) (w : World) :
    Calls Try.prog 120 #[.int .i64 n] w fun e w' => e = .returned (.int .u64 n) ∧ w = w' := by
  have h0 : ¬ (n : Int) < 0 := by omega
  go_enter Try.func120, Try.ntmps120
  go_wp2
  go_ret
  exact ⟨rfl, rfl⟩
theorem size_neg (n : Nat) (h1 : 1 ≤ n) (h : n ≤ 9223372036854775808) (w : World) :
    Calls Try.prog 120 #[.int .i64 (-(n : Int))] w fun e w' => e = .returned (.int .u64 n) ∧ w = w' := by
  obtain ⟨m, hm⟩ : ∃ m : Int, m = -(n : Int) := ⟨_, rfl⟩
  have h0 : m < 0 := by omega
  have y1 : IntKind.u64.wrap m = m + 18446744073709551616 := by rw [IntKind.wrap_u64]; omega
  have y2 : IntKind.u64.wrap (-(m + 18446744073709551616)) = (n : Int) := by rw [IntKind.wrap_u64]; omega
  have hm1 : -9223372036854775808 ≤ m := by omega
  rw [← hm]
  clear hm
  go_enter Try.func120, Try.ntmps120
  go_wp2
  go_ret
  exact ⟨rfl, rfl⟩
theorem size_any (a : Int) (h0 : -9223372036854775808 ≤ a) (h1 : a ≤ 9223372036854775807) (w : World) :
    Calls Try.prog 120 #[.int .i64 a] w fun e w' => e = .returned (.int .u64 a.natAbs) ∧ w = w' := by
  rcases Int.lt_or_le a 0 with h | h
  · have := size_neg a.natAbs (by omega) (by omega) w
    rwa [show -(a.natAbs : Int) = a by omega] at this
  · have := size_nat a.natAbs (by omega) w
    rw [show (a.natAbs : Int) = a by omega] at this ⊢
    exact this
theorem signed_pos (n : Nat) (h : n ≤ 9223372036854775807) (w : World) :
    Calls Try.prog 121 #[.bool false, .int .u64 n] w fun e w' => e = .returned (.tuple #[.int .i64 n, .bool true]) ∧ w = w' := by
  have h0 : ¬ (9223372036854775807 : Int) < (n : Int) := by omega
  go_enter Try.func121, Try.ntmps121
  go_wp2
  all_goals go_ret2
  all_goals exact ⟨rfl, rfl⟩
theorem signed_great (n : Nat) (h : 9223372036854775807 < n) (w : World) :
    Calls Try.prog 121 #[.bool false, .int .u64 n] w fun e w' => e = .returned (.tuple #[.int .i64 0, .bool false]) ∧ w = w' := by
  have h0 : (9223372036854775807 : Int) < (n : Int) := by omega
  go_enter Try.func121, Try.ntmps121
  go_wp2
  all_goals go_ret2
  all_goals exact ⟨rfl, rfl⟩
theorem signed_low (n : Nat) (h : 9223372036854775808 < n) (w : World) :
    Calls Try.prog 121 #[.bool true, .int .u64 n] w fun e w' => e = .returned (.tuple #[.int .i64 0, .bool false]) ∧ w = w' := by
  have h0 : ¬ (n : Int) ≤ (9223372036854775808 : Int) := by omega
  go_enter Try.func121, Try.ntmps121
  go_wp2
  all_goals go_ret2
  all_goals exact ⟨rfl, rfl⟩
theorem signed_neg (n : Nat) (h : n ≤ 9223372036854775808) (w : World) :
    Calls Try.prog 121 #[.bool true, .int .u64 n] w fun e w' => e = .returned (.tuple #[.int .i64 (-(n : Int)), .bool true]) ∧ w = w' := by
  have h0 : (n : Int) ≤ (9223372036854775808 : Int) := by omega
  have y2 : IntKind.i64.wrap (IntKind.u64.wrap (-(n : Int))) = -(n : Int) := by rw [IntKind.wrap_u64, IntKind.wrap_i64]; omega
  go_enter Try.func121, Try.ntmps121
  go_wp2
  all_goals go_ret2
  all_goals exact ⟨rfl, rfl⟩
theorem div_small (lo y : Nat) (h : lo < 18446744073709551616) (hy : 1 ≤ y) (hy' : y < 18446744073709551616) (w : World) :
    Calls Try.prog 122 #[.int .u64 0, .int .u64 lo, .int .u64 y] w fun e w' => e = .returned (.tuple #[.int .u64 (lo / y : Nat), .int .u64 (lo % y : Nat)]) ∧ ∃ n, w' = w.drewN n := by
  have h0 : ((y : Int) == 0) = false := by rw [beq_eq_false_iff_ne]; omega
  have h1 : ¬ (y : Int) ≤ 0 := by omega
  have h2 : ¬ (y : Int) = 0 := by omega
  have h4 : (y = 0) = False := by simp; omega
  have q1 : IntKind.u64.wrap ((lo : Int) / (y : Int)) = ((lo / y : Nat) : Int) := by
    have := Nat.div_le_self lo y
    rw [← Int.natCast_ediv, IntKind.wrap_u64]
    generalize lo / y = q at *
    omega
  have h3 : ((lo : Int) / (y : Int)) = ((lo / y : Nat) : Int) := by rw [Int.natCast_ediv]
  have h5 : ((lo : Int) % (y : Int)) = ((lo % y : Nat) : Int) := by rw [Int.natCast_emod]
  obtain ⟨q, hq⟩ : ∃ q, q = lo / y := ⟨_, rfl⟩
  obtain ⟨r, hr⟩ : ∃ r, r = lo % y := ⟨_, rfl⟩
  rw [← hq] at h3 q1 ⊢
  rw [← hr] at h5 ⊢
  rw [h3] at q1
  clear hq hr
  go_enter Try.func122, Try.ntmps122
  go_wp2_with fail
  go_quiet (fail)
  go_wp2_with fail
  go_ret2
  exact ⟨by rw [← h5]; rfl, _, rfl⟩
theorem mul64_any (x y : Nat) (hx : x < 18446744073709551616) (hy : y < 18446744073709551616) (w : World) :
    Calls Try.prog 119 #[.int .u64 x, .int .u64 y] w fun e w' => e = .returned (.tuple #[.int .u64 (x * y / 18446744073709551616 : Nat), .int .u64 (x * y % 18446744073709551616 : Nat)]) ∧ Below w.heap.size w w' :=
  (Try.bits_Mul64 x y hx hy w).mono fun e w' h => ⟨h.1, by rw [h.2]; exact Below.refl _ _⟩

theorem below_of_eq {B : Nat} {w w' : World} (h : w = w') : Below B w w' := h ▸ Below.refl _ _
theorem size7 (w : World) : Calls Try.prog 120 #[.int .i64 7] w fun e w' => e = .returned (.int .u64 7) ∧ w = w' := size_nat 7 (by omega) w
theorem size10 (w : World) : Calls Try.prog 120 #[.int .i64 10] w fun e w' => e = .returned (.int .u64 10) ∧ w = w' := size_nat 10 (by omega) w
theorem size1 (w : World) : Calls Try.prog 120 #[.int .i64 1] w fun e w' => e = .returned (.int .u64 1) ∧ w = w' := size_nat 1 (by omega) w
theorem size2 (w : World) : Calls Try.prog 120 #[.int .i64 2] w fun e w' => e = .returned (.int .u64 2) ∧ w = w' := size_nat 2 (by omega) w
theorem size3 (w : World) : Calls Try.prog 120 #[.int .i64 3] w fun e w' => e = .returned (.int .u64 3) ∧ w = w' := size_nat 3 (by omega) w
theorem mul7 (w : World) : Calls Try.prog 119 #[.int .u64 7, .int .u64 1] w fun e w' => e = .returned (.tuple #[.int .u64 0, .int .u64 7]) ∧ w' = w := Try.bits_Mul64 7 1 (by omega) (by omega) w
theorem mul10 (w : World) : Calls Try.prog 119 #[.int .u64 10, .int .u64 1] w fun e w' => e = .returned (.tuple #[.int .u64 0, .int .u64 10]) ∧ w' = w := Try.bits_Mul64 10 1 (by omega) (by omega) w
theorem div7 (w : World) : Calls Try.prog 122 #[.int .u64 0, .int .u64 7, .int .u64 2] w fun e w' => e = .returned (.tuple #[.int .u64 3, .int .u64 1]) ∧ ∃ n, w' = w.drewN n := div_small 7 2 (by omega) (by omega) (by omega) w
theorem div10 (w : World) : Calls Try.prog 122 #[.int .u64 0, .int .u64 10, .int .u64 3] w fun e w' => e = .returned (.tuple #[.int .u64 3, .int .u64 1]) ∧ ∃ n, w' = w.drewN n := div_small 10 3 (by omega) (by omega) (by omega) w
theorem sign4 (w : World) : Calls Try.prog 121 #[.bool false, .int .u64 4] w fun e w' => e = .returned (.tuple #[.int .i64 4, .bool true]) ∧ w = w' := signed_pos 4 (by omega) w
theorem sign3 (w : World) : Calls Try.prog 121 #[.bool false, .int .u64 3] w fun e w' => e = .returned (.tuple #[.int .i64 3, .bool true]) ∧ w = w' := signed_pos 3 (by omega) w
theorem away7 (w : World) : Calls Try.prog 123 #[.int .u64 3, .int .u64 1, .int .u64 2, .bool false, .int .i64 3] w fun e w' => e = .returned (.bool true) ∧ w = w' := by
  go_enter Try.func123, Try.ntmps123
  go_wp2_with fail
  go_ret
  exact ⟨rfl, rfl⟩
theorem away10 (w : World) : Calls Try.prog 123 #[.int .u64 3, .int .u64 1, .int .u64 3, .bool false, .int .i64 1] w fun e w' => e = .returned (.bool false) ∧ w = w' := by
  go_enter Try.func123, Try.ntmps123
  go_wp2_with fail
  go_ret
  exact ⟨rfl, rfl⟩
set_option maxHeartbeats 1000000 in
/-- Seven halves are four, to the even; ten thirds are three, downwards. -/
theorem seven_halves (w : World) : Calls Try.prog 109 #[.int .i64 7, .int .i64 1, .int .i64 2, .int .i64 3] w fun e w' => e = .returned (.tuple #[.int .i64 4, .bool true]) ∧ ∃ n, w' = w.drewN n := by
  go_enter Try.func109, Try.ntmps109
  go_wp2_with (go_at_call 120; first | ((with_reducible refine (size7 _).mono ?_); rintro e w' ⟨rfl, rfl⟩) | ((with_reducible refine (size1 _).mono ?_); rintro e w' ⟨rfl, rfl⟩) | ((with_reducible refine (size2 _).mono ?_); rintro e w' ⟨rfl, rfl⟩))
  refine (mul7 _).mono ?_
  rintro e w1 ⟨rfl, rfl⟩
  go_wp2_with (go_at_call 120; (with_reducible refine (size2 _).mono ?_); rintro e w' ⟨rfl, rfl⟩)
  refine (div7 _).mono ?_
  rintro e w2 ⟨rfl, n, rfl⟩
  go_wp2_with (go_at_call 120; (with_reducible refine (size2 _).mono ?_); rintro e w' ⟨rfl, rfl⟩)
  refine (away7 _).mono ?_
  rintro e w3 ⟨rfl, rfl⟩
  go_wp2_with fail
  refine (sign4 _).mono ?_
  rintro e w3 ⟨rfl, rfl⟩
  go_wp2_with fail
  go_ret2
  exact ⟨rfl, n, rfl⟩
set_option maxHeartbeats 1000000 in
theorem ten_thirds (w : World) : Calls Try.prog 109 #[.int .i64 10, .int .i64 1, .int .i64 3, .int .i64 1] w fun e w' => e = .returned (.tuple #[.int .i64 3, .bool true]) ∧ ∃ n, w' = w.drewN n := by
  go_enter Try.func109, Try.ntmps109
  go_wp2_with (go_at_call 120; first | ((with_reducible refine (size10 _).mono ?_); rintro e w' ⟨rfl, rfl⟩) | ((with_reducible refine (size1 _).mono ?_); rintro e w' ⟨rfl, rfl⟩) | ((with_reducible refine (size3 _).mono ?_); rintro e w' ⟨rfl, rfl⟩))
  refine (mul10 _).mono ?_
  rintro e w1 ⟨rfl, rfl⟩
  go_wp2_with (go_at_call 120; (with_reducible refine (size3 _).mono ?_); rintro e w' ⟨rfl, rfl⟩)
  refine (div10 _).mono ?_
  rintro e w2 ⟨rfl, n, rfl⟩
  go_wp2_with (go_at_call 120; (with_reducible refine (size3 _).mono ?_); rintro e w' ⟨rfl, rfl⟩)
  refine (away10 _).mono ?_
  rintro e w3 ⟨rfl, rfl⟩
  go_wp2_with fail
  refine (sign3 _).mono ?_
  rintro e w3 ⟨rfl, rfl⟩
  go_wp2_with fail
  go_ret2
  exact ⟨rfl, n, rfl⟩
/-- The guess is not too small. -/
theorem kn_guess {B u y1 y0 v q : Nat} (hv : v < B) (hq : q * (y1 * B + y0) ≤ u * B + v) : q * y1 ≤ u := by
  rcases Nat.lt_or_ge u (q * y1) with h | h
  · have h1 : (u + 1) * B ≤ q * y1 * B := Nat.mul_le_mul_right B h
    have h2 : q * (y1 * B + y0) = q * y1 * B + q * y0 := by rw [Nat.mul_add, Nat.mul_assoc]
    rw [Nat.add_mul, Nat.one_mul] at h1
    rw [h2] at hq
    generalize q * y1 * B = m at *
    generalize u * B = n at *
    generalize q * y0 = k at *
    omega
  · exact h
theorem kn_parts {B u y1 y0 v a r : Nat} (h1 : a * y1 + r = u) : a * (y1 * B + y0) + B * r = u * B + a * y0 := by
  rw [← h1, Nat.mul_add, Nat.add_mul, Nat.mul_assoc, Nat.mul_comm r B]
  generalize a * (y1 * B) = m
  generalize a * y0 = n
  generalize B * r = k
  omega
/-- The loop ends: the guess is not too great. -/
theorem kn_exit {B u y1 y0 v a r : Nat} (h1 : a * y1 + r = u) (h2 : a * y0 ≤ B * r + v) : a * (y1 * B + y0) ≤ u * B + v := by
  have := kn_parts (B := B) (y0 := y0) (v := v) h1
  generalize a * (y1 * B + y0) = m at *
  generalize a * y0 = n at *
  generalize B * r = k at *
  omega
/-- The loop goes on: the guess is too great. -/
theorem kn_more {B u y1 y0 v a r : Nat} (h1 : a * y1 + r = u) (h2 : B * r + v < a * y0) : u * B + v < a * (y1 * B + y0) := by
  have := kn_parts (B := B) (y0 := y0) (v := v) h1
  generalize a * (y1 * B + y0) = m at *
  generalize a * y0 = n at *
  generalize B * r = k at *
  omega
/-- The quotient is one digit. -/
theorem kn_digit {B u y v q : Nat} (hu : u < y) (hv : v < B) (hq : q * y ≤ u * B + v) : q < B := by
  rcases Nat.lt_or_ge q B with h | h
  · exact h
  · have h1 : B * y ≤ q * y := Nat.mul_le_mul_right y h
    have h2 : (u + 1) * B ≤ y * B := Nat.mul_le_mul_right B hu
    rw [Nat.add_mul, Nat.one_mul, Nat.mul_comm y B] at h2
    generalize q * y = m at *
    generalize B * y = n at *
    generalize u * B = k at *
    omega
/-- The first guess is at most one beyond a digit. -/
theorem kn_first {B u y1 y0 : Nat} (hy : B ≤ 2 * y1) (hy0 : y0 < B) (hB : 0 < B) (hu : u < y1 * B + y0) : u / y1 ≤ B + 1 := by
  have h0 : 0 < y1 := by omega
  have h1 : u < (B + 1 + 1) * y1 := by
    have e : (B + 1 + 1) * y1 = y1 * B + y1 + y1 := by rw [Nat.add_mul, Nat.add_mul, Nat.one_mul, Nat.mul_comm B y1]
    rw [e]
    generalize y1 * B = m at *
    omega
  have := (Nat.div_lt_iff_lt_mul h0).2 h1
  omega
/-- The state of the loop: the guess a, its rest r. -/
structure Kn (B u y1 y0 v a r : Nat) : Prop where
  eq : a * y1 + r = u
  ge : ∀ q, q * (y1 * B + y0) ≤ u * B + v → q ≤ a
  top : a ≤ B + 1
theorem Kn.start {B u y1 y0 v : Nat} (hy : B ≤ 2 * y1) (hy0 : y0 < B) (hB : 0 < B) (hv : v < B) (hu : u < y1 * B + y0) : Kn B u y1 y0 v (u / y1) (u - u / y1 * y1) := by
  have h0 : 0 < y1 := by omega
  refine ⟨?_, fun q hq => (Nat.le_div_iff_mul_le h0).2 (kn_guess hv hq), kn_first hy hy0 hB hu⟩
  have := Nat.div_mul_le_self u y1
  omega
/-- A round: the condition holds, the guess comes down by one. -/
theorem Kn.step {B u y1 y0 v a r : Nat} (h : Kn B u y1 y0 v a r) (hB : 0 < B) (hv : v < B) (hu : u < y1 * B + y0) (hc : B ≤ a ∨ B * r + v < a * y0) : 1 ≤ a ∧ Kn B u y1 y0 v (a - 1) (r + y1) ∧ a - 1 ≤ B := by
  have ha : 1 ≤ a := by
    rcases hc with hc | hc
    · omega
    · rcases Nat.eq_zero_or_pos a with e | e
      · subst e; simp at hc
      · exact e
  refine ⟨ha, ⟨?_, fun q hq => ?_, by have := h.top; omega⟩, by have := h.top; omega⟩
  · have e := h.eq
    obtain ⟨b, rfl⟩ : ∃ b, a = b + 1 := ⟨a - 1, by omega⟩
    rw [Nat.add_mul, Nat.one_mul] at e
    simp only [Nat.add_sub_cancel]
    omega
  · have h1 := h.ge q hq
    rcases Nat.lt_or_ge q a with h2 | h2
    · omega
    · have e : q = a := by omega
      subst e
      rcases hc with hc | hc
      · have := kn_digit hu hv hq; omega
      · have := kn_more h.eq hc; omega
/-- The end: the guess is the quotient. -/
theorem Kn.done {B u y1 y0 v a r : Nat} (h : Kn B u y1 y0 v a r) (h0 : 0 < y1 * B + y0) (hc : a * y0 ≤ B * r + v) : a = (u * B + v) / (y1 * B + y0) := by
  have h1 := kn_exit h.eq hc
  have h2 := (Nat.le_div_iff_mul_le h0).2 h1
  have h3 := h.ge _ (Nat.div_mul_le_self _ _)
  omega
/-- The break: the rest has more than a digit. -/
theorem Kn.broke {B u y1 y0 v a r : Nat} (h : Kn B u y1 y0 v a r) (h0 : 0 < y1 * B + y0) (ha : a ≤ B) (hy0 : y0 < B) (hr : B ≤ r) : a = (u * B + v) / (y1 * B + y0) := by
  refine h.done h0 ?_
  have h1 : a * y0 ≤ B * B := Nat.mul_le_mul ha (by omega)
  have h2 : B * B ≤ B * r := Nat.mul_le_mul_left B hr
  omega
/-- Two digits, one after the other. -/
theorem kn_two {B u v1 v0 y : Nat} (hy : 0 < y) :
    ((u * B + v1) * B + v0) / y = (u * B + v1) / y * B + ((u * B + v1) % y * B + v0) / y ∧ ((u * B + v1) * B + v0) % y = ((u * B + v1) % y * B + v0) % y := by
  generalize u * B + v1 = m
  have e : m * B + v0 = (m % y * B + v0) + y * (m / y * B) := by
    have h := Nat.div_add_mod m y
    have h2 : m * B = (y * (m / y) + m % y) * B := by rw [h]
    rw [h2, Nat.add_mul, Nat.mul_assoc]
    omega
  rw [e]
  exact ⟨by rw [Nat.add_mul_div_left _ _ hy, Nat.add_comm], by rw [Nat.add_mul_mod_self_left]⟩
/-- Both numbers shifted: the same quotient, the rest shifted. -/
theorem kn_shift {n y k : Nat} (hk : 0 < k) : n * k / (y * k) = n / y ∧ n * k % (y * k) / k = n % y := by
  refine ⟨Nat.mul_div_mul_right _ _ hk, ?_⟩
  rw [Nat.mul_mod_mul_right, Nat.mul_div_cancel _ hk]
/-- The rest behind a digit, reckoned in 64 bits. -/
theorem kn_wrap {u v y q : Nat} (hy : 0 < y) (hy' : y < 18446744073709551616) (hq : q = (u * 4294967296 + v) / y) :
    IntKind.u64.wrap (IntKind.u64.wrap (IntKind.u64.wrap ((u : Int) * 4294967296) + (v : Int)) - IntKind.u64.wrap ((q : Int) * (y : Int))) = (((u * 4294967296 + v) % y : Nat) : Int) := by
  have e : (q : Int) * (y : Int) = ((q * y : Nat) : Int) := by rw [Int.natCast_mul]
  have h := Nat.div_add_mod (u * 4294967296 + v) y
  have hr := Nat.mod_lt (u * 4294967296 + v) hy
  rw [← hq, Nat.mul_comm y q] at h
  rw [e]
  simp only [IntKind.wrap_u64]
  generalize q * y = m at *
  generalize (u * 4294967296 + v) % y = r at *
  omega
/-- The number of two words, shifted: its upper word, its lower word. -/
theorem kn_in {hi lo s : Nat} (hs : s ≤ 63) (hl : lo < 2 ^ 64) :
    (hi * 2 ^ s) ||| (lo / 2 ^ (64 - s)) = (hi * 2 ^ 64 + lo) * 2 ^ s / 2 ^ 64 ∧ lo * 2 ^ s % 2 ^ 64 = (hi * 2 ^ 64 + lo) * 2 ^ s % 2 ^ 64 := by
  have e : (2 : Nat) ^ 64 = 2 ^ (64 - s) * 2 ^ s := by rw [← Nat.pow_add]; congr 1; omega
  have hb : lo / 2 ^ (64 - s) < 2 ^ s := by
    rw [Nat.div_lt_iff_lt_mul (Nat.two_pow_pos _), Nat.mul_comm, ← e]; exact hl
  have h1 : (hi * 2 ^ 64 + lo) * 2 ^ s = lo * 2 ^ s + 2 ^ 64 * (hi * 2 ^ s) := by
    rw [Nat.add_mul, Nat.mul_assoc, Nat.mul_comm (2 ^ 64) (2 ^ s), ← Nat.mul_assoc, Nat.mul_comm _ (2 ^ 64), Nat.add_comm]
  have h2 : lo * 2 ^ s / 2 ^ 64 = lo / 2 ^ (64 - s) := by rw [e, Nat.mul_div_mul_right _ _ (Nat.two_pow_pos _)]
  rw [h1, Nat.add_mul_div_left _ _ (Nat.two_pow_pos _), Nat.add_mul_mod_self_left, h2]
  refine ⟨?_, rfl⟩
  rw [Nat.mul_comm hi, ← Nat.two_pow_add_eq_or_of_lt hb, Nat.add_comm]
/-- The whole: two digits of the shifted numbers are the quotient, the rest shifted back is the rest. -/
theorem kn_all {n y k : Nat} (hy : 0 < y) (hk : 0 < k) :
    (n * k / 18446744073709551616 * 4294967296 + n * k % 18446744073709551616 / 4294967296) / (y * k) * 4294967296 + ((n * k / 18446744073709551616 * 4294967296 + n * k % 18446744073709551616 / 4294967296) % (y * k) * 4294967296 + n * k % 18446744073709551616 % 4294967296) / (y * k) = n / y ∧
    ((n * k / 18446744073709551616 * 4294967296 + n * k % 18446744073709551616 / 4294967296) % (y * k) * 4294967296 + n * k % 18446744073709551616 % 4294967296) % (y * k) / k = n % y := by
  have hyk : 0 < y * k := Nat.mul_pos hy hk
  have h := kn_two (B := 4294967296) (u := n * k / 18446744073709551616) (v1 := n * k % 18446744073709551616 / 4294967296) (v0 := n * k % 18446744073709551616 % 4294967296) hyk
  have e : (n * k / 18446744073709551616 * 4294967296 + n * k % 18446744073709551616 / 4294967296) * 4294967296 + n * k % 18446744073709551616 % 4294967296 = n * k := by
    generalize n * k = m
    omega
  rw [e] at h
  rw [← h.1, ← h.2]
  exact kn_shift hk
end Go.Proofs.Ytidldlhhmophjaa.Nu
namespace Go.Proofs.Ytidldlhhmophjaa.Nu
open Go.RowKit Go.Sort
set_option linter.unusedSimpArgs false
set_option linter.unusedVariables false
theorem bitLen_log {x : Nat} (h : 0 < x) (hx : x < 2 ^ 64) : Lib.bitLen x = x.log2 + 1 := by
  have h1 : 2 ^ x.log2 ≤ x := Nat.log2_self_le (by omega)
  have h2 : x < 2 ^ (x.log2 + 1) := Nat.lt_log2_self
  have h3 : x / 2 ^ x.log2 = 1 := by
    rw [Nat.div_eq_iff (Nat.two_pow_pos _)]
    rw [Nat.pow_succ] at h2
    constructor <;> omega
  rw [Lib.bitLen_shift _ _ h1 hx, h3, Nat.add_comm, show Lib.bitLen 1 = 1 by decide, Nat.add_comm]
/-- How far a number is shifted until its greatest bit is the greatest of a word. -/
theorem norm {y : Nat} (hy : 0 < y) (hy' : y < 2 ^ 64) : ∃ s : Nat, s ≤ 63 ∧ 64 - (Lib.bitLen y : Int) = (s : Int) ∧ 9223372036854775808 ≤ y * 2 ^ s ∧ y * 2 ^ s < 18446744073709551616 := by
  have h1 : 2 ^ y.log2 ≤ y := Nat.log2_self_le (by omega)
  have h2 : y < 2 ^ (y.log2 + 1) := Nat.lt_log2_self
  have h3 : y.log2 < 64 := (Nat.log2_lt (by omega)).2 hy'
  refine ⟨63 - y.log2, by omega, by rw [bitLen_log hy hy']; omega, ?_, ?_⟩
  · have := Nat.mul_le_mul_right (2 ^ (63 - y.log2)) h1
    rw [← Nat.pow_add, show y.log2 + (63 - y.log2) = 63 by omega] at this
    simpa using this
  · have := Nat.mul_lt_mul_of_pos_right h2 (Nat.two_pow_pos (63 - y.log2))
    rw [← Nat.pow_add, show y.log2 + 1 + (63 - y.log2) = 64 by omega] at this
    simpa using this
end Go.Proofs.Ytidldlhhmophjaa.Nu
namespace Go.Proofs.Ytidldlhhmophjaa.Nu
open Go.RowKit Go.Sort
set_option linter.unusedSimpArgs false
set_option linter.unusedVariables false

/-- A word's halves. -/
theorem halves (x : Nat) (hx : x < 18446744073709551616) : ∃ x1 x0 : Nat, x1 < 4294967296 ∧ x0 < 4294967296 ∧ x = x1 * 4294967296 + x0 ∧ (x : Int) / 4294967296 = (x1 : Int) ∧ bits .and .u64 (x : Int) 4294967295 = (x0 : Int) ∧ x1 = x / 4294967296 ∧ x0 = x % 4294967296 ∧ (x : Int) % 4294967296 = (x0 : Int) := by
  refine ⟨x / 4294967296, x % 4294967296, by omega, by omega, by omega, by omega, ?_, rfl, rfl, by omega⟩
  have := u64_and_nat x 4294967295 hx (by omega)
  rw [show (4294967295 : Nat) = 2 ^ 32 - 1 by rfl, Nat.and_two_pow_sub_one_eq_mod] at this
  exact this
/-- A guess, and its rest, as the walk has them. -/
theorem guess_in (U Y1 : Nat) (h1 : 2147483648 ≤ Y1) (hU : U < 18446744073709551616) : ∃ a r m : Nat, a = U / Y1 ∧ r = U - U / Y1 * Y1 ∧ m = a * Y1 ∧ (U : Int) / (Y1 : Int) = (a : Int) ∧ (U : Int).tdiv (Y1 : Int) = (a : Int) ∧ IntKind.u64.wrap (a : Int) = (a : Int) ∧ (a : Int) * (Y1 : Int) = (m : Int) ∧ IntKind.u64.wrap (m : Int) = (m : Int) ∧ (U : Int) - (m : Int) = (r : Int) ∧ IntKind.u64.wrap (r : Int) = (r : Int) ∧ r < Y1 ∧ m ≤ U := by
  have hm := Nat.div_mul_le_self U Y1
  have hr := Nat.mod_lt U (show 0 < Y1 by omega)
  have he := Nat.div_add_mod U Y1
  have hq := Nat.div_le_self U Y1
  rw [Nat.mul_comm] at he
  refine ⟨U / Y1, U - U / Y1 * Y1, U / Y1 * Y1, rfl, rfl, rfl, by rw [Int.natCast_ediv], by rw [Int.tdiv_eq_ediv_of_nonneg (by omega), Int.natCast_ediv], ?_, by rw [Int.natCast_mul], ?_, by omega, ?_, by omega, hm⟩
  · rw [IntKind.wrap_u64]; generalize U / Y1 = a at *; omega
  · rw [IntKind.wrap_u64]; generalize U / Y1 * Y1 = a at *; omega
  · rw [IntKind.wrap_u64]; generalize U / Y1 * Y1 = a at *; omega
theorem norm_great {hi lo y s : Nat} (h0 : hi < y) (hl : lo < 18446744073709551616) (hs : s ≤ 63) (hn2 : y * 2 ^ s < 18446744073709551616) :
    ∃ H L U V : Nat, hi * 2 ^ s = H ∧ H < 18446744073709551616 ∧ lo / 2 ^ (64 - s) = L ∧ L < 18446744073709551616 ∧ H ||| L = U ∧ U < y * 2 ^ s ∧ lo * 2 ^ s % 18446744073709551616 = V ∧ U = (hi * 18446744073709551616 + lo) * 2 ^ s / 18446744073709551616 ∧ V = (hi * 18446744073709551616 + lo) * 2 ^ s % 18446744073709551616 := by
  have hp := Nat.two_pow_pos s
  have h := kn_in (hi := hi) hs hl
  have e64 : (2 : Nat) ^ 64 = 18446744073709551616 := rfl
  rw [e64] at h
  refine ⟨_, _, _, _, rfl, ?_, rfl, Nat.lt_of_le_of_lt (Nat.div_le_self _ _) hl, rfl, ?_, rfl, h.1, h.2⟩
  · have := Nat.mul_lt_mul_of_pos_right h0 hp; omega
  · rw [h.1, Nat.div_lt_iff_lt_mul (by omega)]
    have e : y * 2 ^ s * 18446744073709551616 = y * 18446744073709551616 * 2 ^ s := by rw [Nat.mul_right_comm]
    rw [e]
    exact Nat.mul_lt_mul_of_pos_right (by omega) hp
theorem lz_any (y s : Nat) (hy : y < 18446744073709551616) (h : 64 - (Lib.bitLen y : Int) = (s : Int)) (w : World) :
    Calls Try.prog 138 #[.int .u64 y] w fun e w' => e = .returned (.int .i64 s) ∧ w = w' :=
  (Try.bits_LeadingZeros64 (y : Int) w (by omega) (by omega)).mono fun e w' h' => ⟨by rw [h'.1, Int.toNat_natCast, h], h'.2.symm⟩
theorem ret_two {k l : IntKind} {a b c d : Int} (h : a = b) (h' : c = d) : Ending.returned (.tuple #[.int k a, .int l c]) = .returned (.tuple #[.int k b, .int l d]) := by rw [h, h']
/-- The head of a loop: the guess and its rest. -/
def KnHead (u y1 y0 v : Nat) (q r : Value) : Prop := ∃ a b : Nat, q = .int .u64 a ∧ r = .int .u64 b ∧ b < 4294967296 ∧ a ≤ 4294967297 ∧ Hid (Kn 4294967296 u y1 y0 v a b)
set_option maxRecDepth 100000 in
set_option maxHeartbeats 4000000 in
theorem div64_great (hi lo y : Nat) (h1 : 0 < hi) (h0 : hi < y) (hl : lo < 18446744073709551616) (hy : y < 18446744073709551616) (w : World) :
    Calls Try.prog 122 #[.int .u64 hi, .int .u64 lo, .int .u64 y] w fun e w' => e = .returned (.tuple #[.int .u64 ((hi * 18446744073709551616 + lo) / y : Nat), .int .u64 ((hi * 18446744073709551616 + lo) % y : Nat)]) ∧ w = w' := by
  obtain ⟨s, hs, hbl, hn1, hn2⟩ := norm (y := y) (by omega) hy
  have LZ := Lib.hid (lz_any y s hy hbl)
  obtain ⟨H, L, U, V, hH, bH, hL, bL, hU, bU, hV, eU, eV⟩ := norm_great h0 hl hs hn2
  have hall := kn_all (n := hi * 18446744073709551616 + lo) (y := y) (k := 2 ^ s) (by omega) (Nat.two_pow_pos s)
  rw [← eU, ← eV] at hall
  have x1 : IntKind.u64.wrap ((y : Int) * 2 ^ s) = ((y * 2 ^ s : Nat) : Int) := by
    rw [show (y : Int) * 2 ^ s = ((y * 2 ^ s : Nat) : Int) by rw [Int.natCast_mul, Int.natCast_pow]; rfl, IntKind.wrap_u64]; omega
  have x2 : IntKind.u64.wrap ((hi : Int) * 2 ^ s) = (H : Int) := by
    rw [show (hi : Int) * 2 ^ s = ((hi * 2 ^ s : Nat) : Int) by rw [Int.natCast_mul, Int.natCast_pow]; rfl, IntKind.wrap_u64, hH]; omega
  have x3 : (lo : Int) / 2 ^ (64 - s) = (L : Int) := by rw [← hL, Int.natCast_ediv, Int.natCast_pow]; rfl
  have x4 : bits .or .u64 (H : Int) (L : Int) = (U : Int) := by rw [u64_or_nat H L bH bL, hU]
  have x5 : IntKind.u64.wrap ((lo : Int) * 2 ^ s) = (V : Int) := by
    rw [show (lo : Int) * 2 ^ s = ((lo * 2 ^ s : Nat) : Int) by rw [Int.natCast_mul, Int.natCast_pow]; rfl, IntKind.wrap_u64, ← hV]; omega
  have bV : V < 18446744073709551616 := by rw [← hV]; exact Nat.mod_lt _ (by omega)
  obtain ⟨Y, hY⟩ : ∃ Y, Y = y * 2 ^ s := ⟨_, rfl⟩
  rw [← hY] at x1 hn1 hn2 bU hall
  obtain ⟨Y1, Y0, bY1, bY0, eY, x6, x7, g1, g0, x7'⟩ := halves Y hn2
  obtain ⟨V1, V0, bV1, bV0, eVV, x8, x9, f1, f0, x9'⟩ := halves V bV
  rw [← f1, ← f0] at hall
  have hY1 : 2147483648 ≤ Y1 := by omega
  have bU64 : U < 18446744073709551616 := by omega
  obtain ⟨a0, r0, m0, ea0, er0, em0, z1, z2, z3, z4, z5, z6, z7, br0, bm0⟩ := guess_in U Y1 hY1 bU64
  have K0 : Hid (Kn 4294967296 U Y1 Y0 V1 a0 r0) := Lib.hid (by
    rw [ea0, er0]; exact Kn.start (by omega) bY0 (by omega) bV1 (by rw [← eY]; exact bU))
  have ba0 := K0.out.top
  have HALL := Lib.hid hall
  have HEY := Lib.hid eY
  have HBU := Lib.hid bU
  have d1 : ¬ (Y1 : Int) = 0 := by omega
  have d7 : ¬ (Y : Int) / 4294967296 = 0 := by rw [x6]; omega
  have d2 : ¬ (y : Int) = 0 := by omega
  have d3 : ¬ (hi : Int) = 0 := by omega
  have d4 : ¬ (y : Int) ≤ (hi : Int) := by omega
  have d5 : ((y : Int) == 0) = false := by rw [beq_eq_false_iff_ne]; omega
  have d6 : ((hi : Int) == 0) = false := by rw [beq_eq_false_iff_ne]; omega
  have s1 : IntKind.u64.wrap (s : Int) = (s : Int) := by rw [IntKind.wrap_u64]; omega
  have s2 : (0 : Int) ≤ (s : Int) := by omega
  have s3 : (s : Int) < 64 := by omega
  have X6 := Lib.hid x6
  have X7 := Lib.hid x7'
  have X7b := Lib.hid x7
  have X9 := Lib.hid x9'
  clear x6 x7 x7' x9' g1 g0
  clear hs hbl hH bH hL bL hU hV eU eV hall hY hn1 eVV f1 f0 ea0 er0 em0 eY bU h1 h0 hl hy
  go_enter Try.func122, Try.ntmps122
  go_wp2_with fail
  refine (LZ.out _).mono ?_
  rintro e w1 ⟨rfl, rfl⟩
  go_upto_block 0 with fail
  simp only [X6.out, X7.out, X7b.out, z1, z3, z4, z5, z6, z7]
  go_cut [15] (fun q wx => q = .int .u64 ((U * 4294967296 + V1) / Y : Nat) ∧ w = wx)
  case first =>
    go_wp2_with fail
    go_loop [15, 16] (fun q r => KnHead U Y1 Y0 V1 q r) (fun q _ => (intOf q).toNat)
    case atStart => exact ⟨a0, r0, rfl, rfl, by omega, ba0, K0⟩
    case round =>
      obtain ⟨a, b, rfl, rfl, hb, ha, HK⟩ := hrel
      clear z1 z2 z3 z4 z5 z6 z7 br0 bm0 ba0 K0
      obtain ⟨m, hm⟩ : ∃ m, m = a * Y0 := ⟨_, rfl⟩
      have y1 : (a : Int) * (Y0 : Int) = (m : Int) := by rw [hm, Int.natCast_mul]
      by_cases hc : 4294967296 ≤ a ∨ 4294967296 * b + V1 < a * Y0
      · have hs := HK.out.step (by omega) bV1 (by rw [← HEY.out]; exact HBU.out) hc
        obtain ⟨d, hd⟩ : ∃ d, d = b + Y1 := ⟨_, rfl⟩
        obtain ⟨c, hcc⟩ : ∃ c, c = a - 1 := ⟨_, rfl⟩
        rw [← hd, ← hcc] at hs
        have HS := Lib.hid hs.2.1
        have hc4 : c ≤ 4294967296 := hs.2.2
        have y2 : (a : Int) - 1 = (c : Int) := by have := hs.1; omega
        have y3 : (b : Int) + (Y1 : Int) = (d : Int) := by omega
        have ha1 : 1 ≤ a := hs.1
        have hd2 : d < 8589934592 := by omega
        rw [← hm] at hc
        clear hs HK hcc hd
        by_cases hB : 4294967296 ≤ d
        · have HE : Hid (c = (U * 4294967296 + V1) / Y) := Lib.hid (by
            have := HS.out.broke (by omega) hc4 bY0 hB
            rw [this, HEY.out])
          clear HS
          by_cases hA : 4294967296 ≤ a
          · have hA' : 4294967296 ≤ (a : Int) := by omega
            have hbI : (b : Int) < 4294967296 := by omega
            have hdI : (d : Int) < 8589934592 := by omega
            have hBI : 4294967296 ≤ (d : Int) := by omega
            have haI : (a : Int) ≤ 4294967297 := by omega
            have HB := Lib.hid hB
            have HC := Lib.hid hc4
            clear hc y1 hm hA hB hb ha hd2 ha1 hc4
            obtain ⟨C, EC⟩ : ∃ C : Int, C = (c : Int) := ⟨_, rfl⟩
            obtain ⟨D, ED⟩ : ∃ D : Int, D = (d : Int) := ⟨_, rfl⟩
            rw [← EC] at y2
            rw [← ED] at y3 hdI hBI
            have HEC := Lib.hid EC
            have HED := Lib.hid ED
            have hA0 : 0 ≤ (a : Int) := by omega
            have hB0 : 0 ≤ (b : Int) := by omega
            have hC0 : 0 ≤ C := by omega
            have hD0 : 0 ≤ D := by omega
            clear EC ED
            generalize (a : Int) = A at *
            have v1a : 0 ≤ (V1 : Int) := by omega
            have v1b : (V1 : Int) < 4294967296 := by omega
            have y1a : 2147483648 ≤ (Y1 : Int) := by omega
            have y1b : (Y1 : Int) < 4294967296 := by omega
            have y0a : 0 ≤ (Y0 : Int) := by omega
            have y0b : (Y0 : Int) < 4294967296 := by omega
            generalize (b : Int) = B' at *
            generalize (V1 : Int) = V1' at *
            generalize (Y1 : Int) = Y1' at *
            generalize (Y0 : Int) = Y0' at *
            go_wp2_with fail
            go_meet
            exact ⟨by rw [HEC.out, HE.out], rfl⟩
          · have hbm : (m : Int) < 18446744073709551616 := by
              have := Nat.mul_le_mul (show a ≤ 4294967295 by omega) (show Y0 ≤ 4294967295 by omega)
              omega
            have hc2 : 4294967296 * (b : Int) + (V1 : Int) < (m : Int) := by have := hc.resolve_left hA; omega
            have hA' : ¬ 4294967296 ≤ (a : Int) := by omega
            have hbI : (b : Int) < 4294967296 := by omega
            have hdI : (d : Int) < 8589934592 := by omega
            have hBI : 4294967296 ≤ (d : Int) := by omega
            have haI : 1 ≤ (a : Int) := by omega
            have HB := Lib.hid hB
            have HC := Lib.hid hc4
            clear hA hB hb ha hd2 ha1 hc4
            clear hc hm
            obtain ⟨C, EC⟩ : ∃ C : Int, C = (c : Int) := ⟨_, rfl⟩
            obtain ⟨D, ED⟩ : ∃ D : Int, D = (d : Int) := ⟨_, rfl⟩
            rw [← EC] at y2
            rw [← ED] at y3 hdI hBI
            have HEC := Lib.hid EC
            have HED := Lib.hid ED
            have hA0 : 0 ≤ (a : Int) := by omega
            have hB0 : 0 ≤ (b : Int) := by omega
            have hC0 : 0 ≤ C := by omega
            have hD0 : 0 ≤ D := by omega
            clear EC ED
            generalize (a : Int) = A at *
            have v1a : 0 ≤ (V1 : Int) := by omega
            have v1b : (V1 : Int) < 4294967296 := by omega
            have y1a : 2147483648 ≤ (Y1 : Int) := by omega
            have y1b : (Y1 : Int) < 4294967296 := by omega
            have y0a : 0 ≤ (Y0 : Int) := by omega
            have y0b : (Y0 : Int) < 4294967296 := by omega
            generalize (b : Int) = B' at *
            have hm0 : 0 ≤ (m : Int) := by omega
            generalize (m : Int) = M' at *
            generalize (V1 : Int) = V1' at *
            generalize (Y1 : Int) = Y1' at *
            generalize (Y0 : Int) = Y0' at *
            go_wp2_with fail
            go_meet
            exact ⟨by rw [HEC.out, HE.out], rfl⟩
        · by_cases hA : 4294967296 ≤ a
          · have hA' : 4294967296 ≤ (a : Int) := by omega
            have hbI : (b : Int) < 4294967296 := by omega
            have hdI : (d : Int) < 8589934592 := by omega
            have hBI : ¬ 4294967296 ≤ (d : Int) := by omega
            have haI : (a : Int) ≤ 4294967297 := by omega
            have HB := Lib.hid hB
            have HC := Lib.hid hc4
            clear hc y1 hm hA hB hb ha hd2 ha1 hc4
            obtain ⟨C, EC⟩ : ∃ C : Int, C = (c : Int) := ⟨_, rfl⟩
            obtain ⟨D, ED⟩ : ∃ D : Int, D = (d : Int) := ⟨_, rfl⟩
            rw [← EC] at y2
            rw [← ED] at y3 hdI hBI
            have HEC := Lib.hid EC
            have HED := Lib.hid ED
            have hA0 : 0 ≤ (a : Int) := by omega
            have hB0 : 0 ≤ (b : Int) := by omega
            have hC0 : 0 ≤ C := by omega
            have hD0 : 0 ≤ D := by omega
            clear EC ED
            generalize (a : Int) = A at *
            have v1a : 0 ≤ (V1 : Int) := by omega
            have v1b : (V1 : Int) < 4294967296 := by omega
            have y1a : 2147483648 ≤ (Y1 : Int) := by omega
            have y1b : (Y1 : Int) < 4294967296 := by omega
            have y0a : 0 ≤ (Y0 : Int) := by omega
            have y0b : (Y0 : Int) < 4294967296 := by omega
            generalize (b : Int) = B' at *
            generalize (V1 : Int) = V1' at *
            generalize (Y1 : Int) = Y1' at *
            generalize (Y0 : Int) = Y0' at *
            go_wp2_with fail
            go_round
            case rel => exact ⟨c, d, by rw [HEC.out], by rw [HED.out], by have := HB.out; omega, by have := HC.out; omega, HS⟩
            case measure => simp [intOf]; omega
          · have hbm : (m : Int) < 18446744073709551616 := by
              have := Nat.mul_le_mul (show a ≤ 4294967295 by omega) (show Y0 ≤ 4294967295 by omega)
              omega
            have hc2 : 4294967296 * (b : Int) + (V1 : Int) < (m : Int) := by have := hc.resolve_left hA; omega
            have hA' : ¬ 4294967296 ≤ (a : Int) := by omega
            have hbI : (b : Int) < 4294967296 := by omega
            have hdI : (d : Int) < 8589934592 := by omega
            have hBI : ¬ 4294967296 ≤ (d : Int) := by omega
            have haI : 1 ≤ (a : Int) := by omega
            have HB := Lib.hid hB
            have HC := Lib.hid hc4
            clear hA hB hb ha hd2 ha1 hc4
            clear hc hm
            obtain ⟨C, EC⟩ : ∃ C : Int, C = (c : Int) := ⟨_, rfl⟩
            obtain ⟨D, ED⟩ : ∃ D : Int, D = (d : Int) := ⟨_, rfl⟩
            rw [← EC] at y2
            rw [← ED] at y3 hdI hBI
            have HEC := Lib.hid EC
            have HED := Lib.hid ED
            have hA0 : 0 ≤ (a : Int) := by omega
            have hB0 : 0 ≤ (b : Int) := by omega
            have hC0 : 0 ≤ C := by omega
            have hD0 : 0 ≤ D := by omega
            clear EC ED
            generalize (a : Int) = A at *
            have v1a : 0 ≤ (V1 : Int) := by omega
            have v1b : (V1 : Int) < 4294967296 := by omega
            have y1a : 2147483648 ≤ (Y1 : Int) := by omega
            have y1b : (Y1 : Int) < 4294967296 := by omega
            have y0a : 0 ≤ (Y0 : Int) := by omega
            have y0b : (Y0 : Int) < 4294967296 := by omega
            generalize (b : Int) = B' at *
            have hm0 : 0 ≤ (m : Int) := by omega
            generalize (m : Int) = M' at *
            generalize (V1 : Int) = V1' at *
            generalize (Y1 : Int) = Y1' at *
            generalize (Y0 : Int) = Y0' at *
            go_wp2_with fail
            go_round
            case rel => exact ⟨c, d, by rw [HEC.out], by rw [HED.out], by have := HB.out; omega, by have := HC.out; omega, HS⟩
            case measure => simp [intOf]; omega
      · have hA : ¬ 4294967296 ≤ a := fun h => hc (.inl h)
        have hc2 : ¬ 4294967296 * b + V1 < a * Y0 := fun h => hc (.inr h)
        have HE : Hid (a = (U * 4294967296 + V1) / Y) := Lib.hid (by
          have := HK.out.done (by omega) (by omega)
          rw [this, HEY.out])
        rw [← hm] at hc2
        have hbm : (m : Int) < 18446744073709551616 := by omega
        have hA' : ¬ 4294967296 ≤ (a : Int) := by omega
        have hbI : (b : Int) < 4294967296 := by omega
        have hc3 : ¬ 4294967296 * (b : Int) + (V1 : Int) < (m : Int) := by omega
        clear hc hm HK hA hc2 hb ha
        obtain ⟨A, EA⟩ : ∃ A : Int, A = (a : Int) := ⟨_, rfl⟩
        rw [← EA] at y1 hA' ⊢
        have HEA := Lib.hid EA
        have hA0 : 0 ≤ A := by omega
        clear EA
        have hb0 : 0 ≤ (b : Int) := by omega
        have hm0 : 0 ≤ (m : Int) := by omega
        have v1a : 0 ≤ (V1 : Int) := by omega
        have v1b : (V1 : Int) < 4294967296 := by omega
        have y1a : 2147483648 ≤ (Y1 : Int) := by omega
        have y1b : (Y1 : Int) < 4294967296 := by omega
        have y0a : 0 ≤ (Y0 : Int) := by omega
        have y0b : (Y0 : Int) < 4294967296 := by omega
        generalize (b : Int) = B' at *
        generalize (V1 : Int) = V1' at *
        generalize (Y1 : Int) = Y1' at *
        generalize (Y0 : Int) = Y0' at *
        generalize (m : Int) = M' at *
        go_wp2_with fail
        go_meet
        exact ⟨by rw [HEA.out, HE.out], rfl⟩
  case rest =>
    obtain ⟨rfl, rfl⟩ := hcut
    clear z1 z2 z3 z4 z5 z6 z7 br0 bm0 ba0 K0
    have hY0 : 0 < Y := by rw [HEY.out]; omega
    have W1 := Lib.hid (kn_wrap (u := U) (v := V1) (y := Y) (q := (U * 4294967296 + V1) / Y) hY0 hn2 rfl)
    obtain ⟨Q1, hQ1⟩ : ∃ Q1, Q1 = (U * 4294967296 + V1) / Y := ⟨_, rfl⟩
    obtain ⟨U2, hU2⟩ : ∃ U2, U2 = (U * 4294967296 + V1) % Y := ⟨_, rfl⟩
    have bQ1 : Q1 < 4294967296 := by rw [hQ1]; exact kn_digit HBU.out bV1 (Nat.div_mul_le_self _ _)
    have bU2 : U2 < Y := by rw [hU2]; exact Nat.mod_lt _ hY0
    have bU264 : U2 < 18446744073709551616 := by omega
    rw [← hQ1, ← hU2] at W1 HALL
    rw [← hQ1]
    obtain ⟨a1, r1, m1, ea1, er1, em1, z1, z2, z3, z4, z5, z6, z7, br1, bm1⟩ := guess_in U2 Y1 hY1 bU264
    have K1 : Hid (Kn 4294967296 U2 Y1 Y0 V0 a1 r1) := Lib.hid (by
      rw [ea1, er1]; exact Kn.start (by omega) bY0 (by omega) bV0 (by rw [← HEY.out]; exact bU2))
    have ba1 := K1.out.top
    have HBU2 := Lib.hid bU2
    have HQ1b := Lib.hid bQ1
    clear hQ1 hU2 ea1 er1 em1 bU2 HBU bQ1
    go_upto_block 2 with fail
    simp only [W1.out, X6.out, z1, z2, z3, z4, z5, z6, z7]
    go_cut [18] (fun q wx => q = .int .u64 ((U2 * 4294967296 + V0) / Y : Nat) ∧ w = wx)
    case first =>
      go_wp2_with fail
      go_loop [18, 16] (fun q r => KnHead U2 Y1 Y0 V0 q r) (fun q _ => (intOf q).toNat)
      case atStart => exact ⟨a1, r1, rfl, rfl, by omega, ba1, K1⟩
      case round =>
        obtain ⟨a, b, rfl, rfl, hb, ha, HK⟩ := hrel
        clear z1 z2 z3 z4 z5 z6 z7 br1 bm1 ba1 K1
        obtain ⟨m, hm⟩ : ∃ m, m = a * Y0 := ⟨_, rfl⟩
        have y1 : (a : Int) * (Y0 : Int) = (m : Int) := by rw [hm, Int.natCast_mul]
        by_cases hc : 4294967296 ≤ a ∨ 4294967296 * b + V0 < a * Y0
        · have hs := HK.out.step (by omega) bV0 (by rw [← HEY.out]; exact HBU2.out) hc
          obtain ⟨d, hd⟩ : ∃ d, d = b + Y1 := ⟨_, rfl⟩
          obtain ⟨c, hcc⟩ : ∃ c, c = a - 1 := ⟨_, rfl⟩
          rw [← hd, ← hcc] at hs
          have HS := Lib.hid hs.2.1
          have hc4 : c ≤ 4294967296 := hs.2.2
          have y2 : (a : Int) - 1 = (c : Int) := by have := hs.1; omega
          have y3 : (b : Int) + (Y1 : Int) = (d : Int) := by omega
          have ha1 : 1 ≤ a := hs.1
          have hd2 : d < 8589934592 := by omega
          rw [← hm] at hc
          clear hs HK hcc hd
          by_cases hB : 4294967296 ≤ d
          · have HE : Hid (c = (U2 * 4294967296 + V0) / Y) := Lib.hid (by
              have := HS.out.broke (by omega) hc4 bY0 hB
              rw [this, HEY.out])
            clear HS
            by_cases hA : 4294967296 ≤ a
            · have hA' : 4294967296 ≤ (a : Int) := by omega
              have hbI : (b : Int) < 4294967296 := by omega
              have hdI : (d : Int) < 8589934592 := by omega
              have hBI : 4294967296 ≤ (d : Int) := by omega
              have haI : (a : Int) ≤ 4294967297 := by omega
              have HB := Lib.hid hB
              have HC := Lib.hid hc4
              clear hc y1 hm hA hB hb ha hd2 ha1 hc4
              obtain ⟨C, EC⟩ : ∃ C : Int, C = (c : Int) := ⟨_, rfl⟩
              obtain ⟨D, ED⟩ : ∃ D : Int, D = (d : Int) := ⟨_, rfl⟩
              rw [← EC] at y2
              rw [← ED] at y3 hdI hBI
              have HEC := Lib.hid EC
              have HED := Lib.hid ED
              have hA0 : 0 ≤ (a : Int) := by omega
              have hB0 : 0 ≤ (b : Int) := by omega
              have hC0 : 0 ≤ C := by omega
              have hD0 : 0 ≤ D := by omega
              clear EC ED
              generalize (a : Int) = A at *
              have v0a : 0 ≤ (V0 : Int) := by omega
              have v0b : (V0 : Int) < 4294967296 := by omega
              have y1a : 2147483648 ≤ (Y1 : Int) := by omega
              have y1b : (Y1 : Int) < 4294967296 := by omega
              have y0a : 0 ≤ (Y0 : Int) := by omega
              have y0b : (Y0 : Int) < 4294967296 := by omega
              generalize (b : Int) = B' at *
              generalize (V0 : Int) = V0' at *
              generalize (Y1 : Int) = Y1' at *
              generalize (Y0 : Int) = Y0' at *
              go_wp2_with fail
              go_meet
              exact ⟨by rw [HEC.out, HE.out], rfl⟩
            · have hbm : (m : Int) < 18446744073709551616 := by
                have := Nat.mul_le_mul (show a ≤ 4294967295 by omega) (show Y0 ≤ 4294967295 by omega)
                omega
              have hc2 : 4294967296 * (b : Int) + (V0 : Int) < (m : Int) := by have := hc.resolve_left hA; omega
              have hA' : ¬ 4294967296 ≤ (a : Int) := by omega
              have hbI : (b : Int) < 4294967296 := by omega
              have hdI : (d : Int) < 8589934592 := by omega
              have hBI : 4294967296 ≤ (d : Int) := by omega
              have haI : 1 ≤ (a : Int) := by omega
              have HB := Lib.hid hB
              have HC := Lib.hid hc4
              clear hA hB hb ha hd2 ha1 hc4
              clear hc hm
              obtain ⟨C, EC⟩ : ∃ C : Int, C = (c : Int) := ⟨_, rfl⟩
              obtain ⟨D, ED⟩ : ∃ D : Int, D = (d : Int) := ⟨_, rfl⟩
              rw [← EC] at y2
              rw [← ED] at y3 hdI hBI
              have HEC := Lib.hid EC
              have HED := Lib.hid ED
              have hA0 : 0 ≤ (a : Int) := by omega
              have hB0 : 0 ≤ (b : Int) := by omega
              have hC0 : 0 ≤ C := by omega
              have hD0 : 0 ≤ D := by omega
              clear EC ED
              generalize (a : Int) = A at *
              have v0a : 0 ≤ (V0 : Int) := by omega
              have v0b : (V0 : Int) < 4294967296 := by omega
              have y1a : 2147483648 ≤ (Y1 : Int) := by omega
              have y1b : (Y1 : Int) < 4294967296 := by omega
              have y0a : 0 ≤ (Y0 : Int) := by omega
              have y0b : (Y0 : Int) < 4294967296 := by omega
              generalize (b : Int) = B' at *
              have hm0 : 0 ≤ (m : Int) := by omega
              generalize (m : Int) = M' at *
              generalize (V0 : Int) = V0' at *
              generalize (Y1 : Int) = Y1' at *
              generalize (Y0 : Int) = Y0' at *
              go_wp2_with fail
              go_meet
              exact ⟨by rw [HEC.out, HE.out], rfl⟩
          · by_cases hA : 4294967296 ≤ a
            · have hA' : 4294967296 ≤ (a : Int) := by omega
              have hbI : (b : Int) < 4294967296 := by omega
              have hdI : (d : Int) < 8589934592 := by omega
              have hBI : ¬ 4294967296 ≤ (d : Int) := by omega
              have haI : (a : Int) ≤ 4294967297 := by omega
              have HB := Lib.hid hB
              have HC := Lib.hid hc4
              clear hc y1 hm hA hB hb ha hd2 ha1 hc4
              obtain ⟨C, EC⟩ : ∃ C : Int, C = (c : Int) := ⟨_, rfl⟩
              obtain ⟨D, ED⟩ : ∃ D : Int, D = (d : Int) := ⟨_, rfl⟩
              rw [← EC] at y2
              rw [← ED] at y3 hdI hBI
              have HEC := Lib.hid EC
              have HED := Lib.hid ED
              have hA0 : 0 ≤ (a : Int) := by omega
              have hB0 : 0 ≤ (b : Int) := by omega
              have hC0 : 0 ≤ C := by omega
              have hD0 : 0 ≤ D := by omega
              clear EC ED
              generalize (a : Int) = A at *
              have v0a : 0 ≤ (V0 : Int) := by omega
              have v0b : (V0 : Int) < 4294967296 := by omega
              have y1a : 2147483648 ≤ (Y1 : Int) := by omega
              have y1b : (Y1 : Int) < 4294967296 := by omega
              have y0a : 0 ≤ (Y0 : Int) := by omega
              have y0b : (Y0 : Int) < 4294967296 := by omega
              generalize (b : Int) = B' at *
              generalize (V0 : Int) = V0' at *
              generalize (Y1 : Int) = Y1' at *
              generalize (Y0 : Int) = Y0' at *
              go_wp2_with fail
              go_round
              case rel => exact ⟨c, d, by rw [HEC.out], by rw [HED.out], by have := HB.out; omega, by have := HC.out; omega, HS⟩
              case measure => simp [intOf]; omega
            · have hbm : (m : Int) < 18446744073709551616 := by
                have := Nat.mul_le_mul (show a ≤ 4294967295 by omega) (show Y0 ≤ 4294967295 by omega)
                omega
              have hc2 : 4294967296 * (b : Int) + (V0 : Int) < (m : Int) := by have := hc.resolve_left hA; omega
              have hA' : ¬ 4294967296 ≤ (a : Int) := by omega
              have hbI : (b : Int) < 4294967296 := by omega
              have hdI : (d : Int) < 8589934592 := by omega
              have hBI : ¬ 4294967296 ≤ (d : Int) := by omega
              have haI : 1 ≤ (a : Int) := by omega
              have HB := Lib.hid hB
              have HC := Lib.hid hc4
              clear hA hB hb ha hd2 ha1 hc4
              clear hc hm
              obtain ⟨C, EC⟩ : ∃ C : Int, C = (c : Int) := ⟨_, rfl⟩
              obtain ⟨D, ED⟩ : ∃ D : Int, D = (d : Int) := ⟨_, rfl⟩
              rw [← EC] at y2
              rw [← ED] at y3 hdI hBI
              have HEC := Lib.hid EC
              have HED := Lib.hid ED
              have hA0 : 0 ≤ (a : Int) := by omega
              have hB0 : 0 ≤ (b : Int) := by omega
              have hC0 : 0 ≤ C := by omega
              have hD0 : 0 ≤ D := by omega
              clear EC ED
              generalize (a : Int) = A at *
              have v0a : 0 ≤ (V0 : Int) := by omega
              have v0b : (V0 : Int) < 4294967296 := by omega
              have y1a : 2147483648 ≤ (Y1 : Int) := by omega
              have y1b : (Y1 : Int) < 4294967296 := by omega
              have y0a : 0 ≤ (Y0 : Int) := by omega
              have y0b : (Y0 : Int) < 4294967296 := by omega
              generalize (b : Int) = B' at *
              have hm0 : 0 ≤ (m : Int) := by omega
              generalize (m : Int) = M' at *
              generalize (V0 : Int) = V0' at *
              generalize (Y1 : Int) = Y1' at *
              generalize (Y0 : Int) = Y0' at *
              go_wp2_with fail
              go_round
              case rel => exact ⟨c, d, by rw [HEC.out], by rw [HED.out], by have := HB.out; omega, by have := HC.out; omega, HS⟩
              case measure => simp [intOf]; omega
        · have hA : ¬ 4294967296 ≤ a := fun h => hc (.inl h)
          have hc2 : ¬ 4294967296 * b + V0 < a * Y0 := fun h => hc (.inr h)
          have HE : Hid (a = (U2 * 4294967296 + V0) / Y) := Lib.hid (by
            have := HK.out.done (by omega) (by omega)
            rw [this, HEY.out])
          rw [← hm] at hc2
          have hbm : (m : Int) < 18446744073709551616 := by omega
          have hA' : ¬ 4294967296 ≤ (a : Int) := by omega
          have hbI : (b : Int) < 4294967296 := by omega
          have hc3 : ¬ 4294967296 * (b : Int) + (V0 : Int) < (m : Int) := by omega
          clear hc hm HK hA hc2 hb ha
          obtain ⟨A, EA⟩ : ∃ A : Int, A = (a : Int) := ⟨_, rfl⟩
          rw [← EA] at y1 hA' ⊢
          have HEA := Lib.hid EA
          have hA0 : 0 ≤ A := by omega
          clear EA
          have hb0 : 0 ≤ (b : Int) := by omega
          have hm0 : 0 ≤ (m : Int) := by omega
          have v0a : 0 ≤ (V0 : Int) := by omega
          have v0b : (V0 : Int) < 4294967296 := by omega
          have y1a : 2147483648 ≤ (Y1 : Int) := by omega
          have y1b : (Y1 : Int) < 4294967296 := by omega
          have y0a : 0 ≤ (Y0 : Int) := by omega
          have y0b : (Y0 : Int) < 4294967296 := by omega
          generalize (b : Int) = B' at *
          generalize (V0 : Int) = V0' at *
          generalize (Y1 : Int) = Y1' at *
          generalize (Y0 : Int) = Y0' at *
          generalize (m : Int) = M' at *
          go_wp2_with fail
          go_meet
          exact ⟨by rw [HEA.out, HE.out], rfl⟩

    case rest =>
      obtain ⟨rfl, rfl⟩ := hcut
      clear z1 z2 z3 z4 z5 z6 z7 br1 bm1 ba1 K1
      have hY0 : 0 < Y := by rw [HEY.out]; omega
      have W2 := Lib.hid (kn_wrap (u := U2) (v := V0) (y := Y) (q := (U2 * 4294967296 + V0) / Y) hY0 hn2 rfl)
      obtain ⟨Q0, hQ0⟩ : ∃ Q0, Q0 = (U2 * 4294967296 + V0) / Y := ⟨_, rfl⟩
      obtain ⟨U3, hU3⟩ : ∃ U3, U3 = (U2 * 4294967296 + V0) % Y := ⟨_, rfl⟩
      have bQ0 : Q0 < 4294967296 := by rw [hQ0]; exact kn_digit HBU2.out bV0 (Nat.div_mul_le_self _ _)
      have bU3 : U3 < 18446744073709551616 := by
        have : U3 < Y := by rw [hU3]; exact Nat.mod_lt _ hY0
        omega
      rw [← hQ0, ← hU3] at W2 HALL
      rw [← hQ0]
      have bQ1 := HQ1b.out
      have e1 : (Q1 : Int) * 4294967296 + (Q0 : Int) = (((hi * 18446744073709551616 + lo) / y : Nat) : Int) := by have := HALL.out.1; omega
      have E1 := Lib.hid e1
      have W3 : Hid ((U3 : Int) / 2 ^ s = (((hi * 18446744073709551616 + lo) % y : Nat) : Int)) := Lib.hid (by rw [← HALL.out.2, Int.natCast_ediv, Int.natCast_pow]; rfl)
      clear e1 hQ0 hU3 HALL
      go_wp2_with fail
      go_ret2
      exact ⟨ret_two E1.out (by rw [W2.out]; exact W3.out), rfl⟩
theorem div64_any (hi lo y : Nat) (h0 : hi < y) (hl : lo < 18446744073709551616) (hy : y < 18446744073709551616) (w : World) :
    Calls Try.prog 122 #[.int .u64 hi, .int .u64 lo, .int .u64 y] w fun e w' => e = .returned (.tuple #[.int .u64 ((hi * 18446744073709551616 + lo) / y : Nat), .int .u64 ((hi * 18446744073709551616 + lo) % y : Nat)]) ∧ ∃ n, w' = w.drewN n := by
  rcases Nat.eq_zero_or_pos hi with h | h
  · subst h
    have := div_small lo y hl (by omega) hy w
    simpa using this
  · exact (div64_great hi lo y h h0 hl hy w).mono fun e w' ⟨h1, h2⟩ => ⟨h1, 0, by rw [← h2]; rfl⟩
/-- Is a quotient with that rest rounded away from nought? -/
def awayB (quo rest by' : Nat) (neg : Bool) (mode : Int) : Bool :=
  if mode = 1 then neg && decide (rest ≠ 0) else if mode = 2 then decide (by' ≤ 2 * rest) else if mode = 3 then decide (by' < 2 * rest) || (decide (by' = 2 * rest) && decide (quo % 2 = 1)) else false
theorem away_down (quo rest by' : Nat) (neg : Bool) (h : rest < by') (hb : by' < 18446744073709551616) (w : World) :
    Calls Try.prog 123 #[.int .u64 quo, .int .u64 rest, .int .u64 by', .bool neg, .int .i64 0] w fun e w' => e = .returned (.bool (awayB quo rest by' neg 0)) ∧ w = w' := by
  have y1 : IntKind.u64.wrap ((by' : Int) - (rest : Int)) = (by' : Int) - (rest : Int) := by rw [IntKind.wrap_u64]; omega
  clear h hb
  go_enter Try.func123, Try.ntmps123
  go_wp2_with fail
  go_ret
  exact ⟨by simp [awayB], rfl⟩
theorem away_floor (quo rest by' : Nat) (neg : Bool) (h : rest < by') (hb : by' < 18446744073709551616) (w : World) :
    Calls Try.prog 123 #[.int .u64 quo, .int .u64 rest, .int .u64 by', .bool neg, .int .i64 1] w fun e w' => e = .returned (.bool (awayB quo rest by' neg 1)) ∧ w = w' := by
  have y1 : IntKind.u64.wrap ((by' : Int) - (rest : Int)) = (by' : Int) - (rest : Int) := by rw [IntKind.wrap_u64]; omega
  clear h hb
  cases neg <;> by_cases h0 : rest = 0
  all_goals (
    go_enter Try.func123, Try.ntmps123
    go_wp2_with fail
    go_ret
    exact ⟨by simp [awayB, h0], rfl⟩)
theorem away_half (quo rest by' : Nat) (neg : Bool) (h : rest < by') (hb : by' < 18446744073709551616) (w : World) :
    Calls Try.prog 123 #[.int .u64 quo, .int .u64 rest, .int .u64 by', .bool neg, .int .i64 2] w fun e w' => e = .returned (.bool (awayB quo rest by' neg 2)) ∧ w = w' := by
  have y1 : IntKind.u64.wrap ((by' : Int) - (rest : Int)) = (by' : Int) - (rest : Int) := by rw [IntKind.wrap_u64]; omega
  have e1 : decide ((by' : Int) - (rest : Int) ≤ (rest : Int)) = awayB quo rest by' neg 2 := by
    simp only [awayB]; simp only [show ¬ ((2 : Int) = 1) by decide, if_false, if_true]; rw [decide_eq_decide]; omega
  clear h hb
  go_enter Try.func123, Try.ntmps123
  go_wp2_with fail
  go_ret
  exact ⟨by first | rfl | rw [e1], rfl⟩
theorem away_even (quo rest by' : Nat) (neg : Bool) (h : rest < by') (hb : by' < 18446744073709551616) (w : World) :
    Calls Try.prog 123 #[.int .u64 quo, .int .u64 rest, .int .u64 by', .bool neg, .int .i64 3] w fun e w' => e = .returned (.bool (awayB quo rest by' neg 3)) ∧ w = w' := by
  obtain ⟨m, hm⟩ : ∃ m : Nat, m = by' - rest := ⟨_, rfl⟩
  have y0 : (by' : Int) - (rest : Int) = (m : Int) := by omega
  have y1 : IntKind.u64.wrap (m : Int) = (m : Int) := by rw [IntKind.wrap_u64]; omega
  rcases Nat.lt_trichotomy m rest with h1 | h1 | h1
  · have e1 : awayB quo rest by' neg 3 = true := by simp [awayB]; omega
    have h2 : (m : Int) < (rest : Int) := by omega
    rw [e1]
    clear h hb hm
    go_enter Try.func123, Try.ntmps123
    go_wp2
    all_goals go_ret
    all_goals exact ⟨rfl, rfl⟩
  · have e1 : awayB quo rest by' neg 3 = decide (quo % 2 = 1) := by
      have hbm : by' = 2 * rest := by omega
      simp [awayB, hbm]
    subst h1
    rw [e1]
    rcases Nat.mod_two_eq_zero_or_one quo with h3 | h3
    · have h4 : (quo : Int) % 2 = 0 := by omega
      rw [h3]
      clear h hb hm
      go_enter Try.func123, Try.ntmps123
      go_wp2
      all_goals go_ret
      all_goals exact ⟨rfl, rfl⟩
    · have h4 : (quo : Int) % 2 = 1 := by omega
      rw [h3]
      clear h hb hm
      go_enter Try.func123, Try.ntmps123
      go_wp2
      all_goals go_ret
      all_goals exact ⟨rfl, rfl⟩
  · have e1 : awayB quo rest by' neg 3 = false := by simp [awayB]; omega
    have h2 : ¬ (m : Int) < (rest : Int) := by omega
    have h3 : ¬ (rest : Int) = (m : Int) := by omega
    have h3' : ((rest : Int) == (m : Int)) = false := by simp; omega
    rw [e1]
    clear h hb hm
    go_enter Try.func123, Try.ntmps123
    go_wp2
    all_goals go_ret
    all_goals exact ⟨rfl, rfl⟩
end Go.Proofs.Ytidldlhhmophjaa.Nu
namespace Go.Proofs.Ytidldlhhmophjaa.Nu
open Go.RowKit Go.Sort
set_option linter.unusedSimpArgs false
set_option linter.unusedVariables false

theorem mul_sign (x y : Int) : (x * y).natAbs = x.natAbs * y.natAbs ∧ decide (x * y < 0) = ((decide (x < 0) != decide (y < 0)) && decide (0 < x.natAbs * y.natAbs)) := by
  refine ⟨Int.natAbs_mul x y, ?_⟩
  have hc : x = (x.natAbs : Int) ∧ ¬ x < 0 ∨ x = -(x.natAbs : Int) ∧ x < 0 := by omega
  have hd : y = (y.natAbs : Int) ∧ ¬ y < 0 ∨ y = -(y.natAbs : Int) ∧ y < 0 := by omega
  obtain ⟨n, hn⟩ : ∃ n, n = x.natAbs * y.natAbs := ⟨_, rfl⟩
  have hp : (x.natAbs : Int) * (y.natAbs : Int) = (n : Int) := by rw [hn, Int.natCast_mul]
  rw [← hn]
  rcases hc with ⟨e1, h1⟩ | ⟨e1, h1⟩ <;> rcases hd with ⟨e2, h2⟩ | ⟨e2, h2⟩
  · have e : x * y = n := by rw [e1, e2]; simpa using hp
    rw [e]; simp [h1, h2]
  · have e : x * y = -(n : Int) := by rw [e1, e2, Int.mul_neg]; simpa using hp
    rw [e]; simp [h1, h2]
  · have e : x * y = -(n : Int) := by rw [e1, e2, Int.neg_mul]; simpa using hp
    rw [e]; simp [h1, h2]
  · have e : x * y = n := by rw [e1, e2, Int.neg_mul_neg]; simpa using hp
    rw [e]; simp [h1, h2]
/-- The quotient's size, rounded. -/
def upN (q r y : Nat) (neg : Bool) (mode : Int) : Nat := q + if awayB q r y neg mode then 1 else 0
/-- A number of that size, with its sign. -/
def sgn (neg : Bool) (n : Nat) : Int := if neg then -(n : Int) else n
/-- A quotient of whole numbers, rounded. -/
def rq (p c : Int) (mode : Int) : Int := sgn (decide (p < 0) != decide (c < 0)) (upN (p.natAbs / c.natAbs) (p.natAbs % c.natAbs) c.natAbs (decide (p < 0) != decide (c < 0)) mode)
theorem away_zero {y : Nat} (hy : 0 < y) (q : Nat) (neg : Bool) (mode : Int) : awayB q 0 y neg mode = false := by
  unfold awayB
  split
  · simp
  · split
    · simp; omega
    · split
      · simp; omega
      · rfl
/-- The sign of a product of nought counts for nothing. -/
theorem rq_of (a b c : Int) (mode : Int) (hc : c ≠ 0) :
    rq (a * b) c mode = sgn ((decide (a < 0) != decide (b < 0)) != decide (c < 0)) (upN (a.natAbs * b.natAbs / c.natAbs) (a.natAbs * b.natAbs % c.natAbs) c.natAbs ((decide (a < 0) != decide (b < 0)) != decide (c < 0)) mode) := by
  unfold rq
  have h := mul_sign a b
  rw [h.1, h.2]
  rcases Nat.eq_zero_or_pos (a.natAbs * b.natAbs) with h0 | h0
  · have hy : 0 < c.natAbs := by omega
    rw [h0]
    simp [upN, away_zero hy, sgn]
  · simp [h0]
/-- The four ways lie within one of one another, rounded down is the least. -/
theorem rq_near (p c : Int) (hc : c ≠ 0) : ∃ z, rq p c 1 = z ∧ (rq p c 0 = z ∨ rq p c 0 = z + 1) ∧ (rq p c 2 = z ∨ rq p c 2 = z + 1) ∧ (rq p c 3 = z ∨ rq p c 3 = z + 1) := by
  unfold rq
  generalize p.natAbs / c.natAbs = q
  generalize hr : p.natAbs % c.natAbs = r
  generalize hy : c.natAbs = y at *
  generalize (decide (p < 0) != decide (c < 0)) = g
  have h0 : awayB q r y g 0 = false := by simp [awayB]
  have h1 : awayB q r y g 1 = (g && decide (r ≠ 0)) := by simp [awayB]
  have k : ∀ mode, upN q r y g mode = q ∨ upN q r y g mode = q + 1 := fun mode => by unfold upN; split <;> simp
  have k0 : upN q r y g 0 = q := by simp [upN, h0]
  have k2 := k 2
  have k3 := k 3
  have k1 : upN q r y g 1 = q + if g && decide (r ≠ 0) then 1 else 0 := by simp [upN, h1]
  rw [k0, k1]
  generalize hu2 : upN q r y g 2 = u2 at *
  generalize hu3 : upN q r y g 3 = u3 at *
  cases g
  · refine ⟨(q : Int), ?_, ?_, ?_, ?_⟩ <;> simp [sgn] <;> omega
  · by_cases hz : r = 0
    · have hy0 : 0 < y := by omega
      subst hz
      simp only [upN, away_zero hy0] at hu2 hu3
      simp at hu2 hu3
      refine ⟨-(q : Int), ?_, ?_, ?_, ?_⟩ <;> simp [sgn] <;> omega
    · refine ⟨-((q + 1 : Nat) : Int), ?_, ?_, ?_, ?_⟩ <;> simp [sgn, hz] <;> omega
end Go.Proofs.Ytidldlhhmophjaa.Nu
namespace Go.Proofs.Ytidldlhhmophjaa.Nu
def Ans (z n : Int) (ok : Bool) : Prop := (-9223372036854775808 ≤ z ∧ z ≤ 9223372036854775807 → n = z ∧ ok = true) ∧ (¬ (-9223372036854775808 ≤ z ∧ z ≤ 9223372036854775807) → n = 0 ∧ ok = false)
end Go.Proofs.Ytidldlhhmophjaa.Nu
namespace Go.Proofs.Ytidldlhhmophjaa.Nu
open Go.RowKit Go.Sort
set_option linter.unusedSimpArgs false
set_option linter.unusedVariables false

theorem ans_in {z : Int} (h0 : -9223372036854775808 ≤ z) (h1 : z ≤ 9223372036854775807) : Ans z z true := ⟨fun _ => ⟨rfl, rfl⟩, fun h => absurd ⟨h0, h1⟩ h⟩
theorem ans_out {z : Int} (h : z < -9223372036854775808 ∨ 9223372036854775807 < z) : Ans z 0 false := ⟨fun h' => by omega, fun _ => ⟨rfl, rfl⟩⟩
/-- Does a function answer the number, where it fits? -/
def GivesAns (z : Int) (w : World) (e : Ending) (w' : World) : Prop := ∃ n ok, e = .returned (.tuple #[.int .i64 n, .bool ok]) ∧ Ans z n ok ∧ Below w.heap.size w w'
theorem add_num (a b : Int) (a0 : -9223372036854775808 ≤ a) (a1 : a ≤ 9223372036854775807) (b0 : -9223372036854775808 ≤ b) (b1 : b ≤ 9223372036854775807) (w : World) :
    Calls Try.prog 106 #[.int .i64 a, .int .i64 b] w (GivesAns (a + b) w) := by
  obtain ⟨c, hc⟩ : ∃ c, c = IntKind.i64.wrap (a + b) := ⟨_, rfl⟩
  have y1 : IntKind.i64.wrap (a + b) = c := hc.symm
  have hc' := hc
  rw [IntKind.wrap_i64] at hc'
  by_cases h1 : c < a <;> by_cases h2 : b < 0
  · have hz : Ans (a + b) c true := by
      have : c = a + b := by omega
      rw [this]; exact ans_in (by omega) (by omega)
    clear hc hc'
    go_enter Try.func106, Try.ntmps106
    go_wp2
    all_goals go_ret2
    all_goals exact ⟨_, _, rfl, hz, Below.refl _ _⟩
  · have hz : Ans (a + b) 0 false := ans_out (by omega)
    clear hc hc'
    go_enter Try.func106, Try.ntmps106
    go_wp2
    all_goals go_ret2
    all_goals exact ⟨_, _, rfl, hz, Below.refl _ _⟩
  · have hz : Ans (a + b) 0 false := ans_out (by omega)
    clear hc hc'
    go_enter Try.func106, Try.ntmps106
    go_wp2
    all_goals go_ret2
    all_goals exact ⟨_, _, rfl, hz, Below.refl _ _⟩
  · have hz : Ans (a + b) c true := by
      have : c = a + b := by omega
      rw [this]; exact ans_in (by omega) (by omega)
    clear hc hc'
    go_enter Try.func106, Try.ntmps106
    go_wp2
    all_goals go_ret2
    all_goals exact ⟨_, _, rfl, hz, Below.refl _ _⟩
theorem sub_num (a b : Int) (a0 : -9223372036854775808 ≤ a) (a1 : a ≤ 9223372036854775807) (b0 : -9223372036854775808 ≤ b) (b1 : b ≤ 9223372036854775807) (w : World) :
    Calls Try.prog 107 #[.int .i64 a, .int .i64 b] w (GivesAns (a - b) w) := by
  obtain ⟨c, hc⟩ : ∃ c, c = IntKind.i64.wrap (a - b) := ⟨_, rfl⟩
  have y1 : IntKind.i64.wrap (a - b) = c := hc.symm
  have hc' := hc
  rw [IntKind.wrap_i64] at hc'
  by_cases h1 : a < c <;> by_cases h2 : b < 0
  · have hz : Ans (a - b) c true := by
      have : c = a - b := by omega
      rw [this]; exact ans_in (by omega) (by omega)
    clear hc hc'
    go_enter Try.func107, Try.ntmps107
    go_wp2
    all_goals go_ret2
    all_goals exact ⟨_, _, rfl, hz, Below.refl _ _⟩
  · have hz : Ans (a - b) 0 false := ans_out (by omega)
    clear hc hc'
    go_enter Try.func107, Try.ntmps107
    go_wp2
    all_goals go_ret2
    all_goals exact ⟨_, _, rfl, hz, Below.refl _ _⟩
  · have hz : Ans (a - b) 0 false := ans_out (by omega)
    clear hc hc'
    go_enter Try.func107, Try.ntmps107
    go_wp2
    all_goals go_ret2
    all_goals exact ⟨_, _, rfl, hz, Below.refl _ _⟩
  · have hz : Ans (a - b) c true := by
      have : c = a - b := by omega
      rw [this]; exact ans_in (by omega) (by omega)
    clear hc hc'
    go_enter Try.func107, Try.ntmps107
    go_wp2
    all_goals go_ret2
    all_goals exact ⟨_, _, rfl, hz, Below.refl _ _⟩
theorem neg_num (a : Int) (a0 : -9223372036854775808 ≤ a) (a1 : a ≤ 9223372036854775807) (w : World) :
    Calls Try.prog 110 #[.int .i64 a] w (GivesAns (-a) w) := by
  have G := Lib.hid (fun W : World => sub_num 0 a (by omega) (by omega) a0 a1 W)
  rw [show (0 : Int) - a = -a by omega] at G
  go_enter Try.func110, Try.ntmps110
  go_wp2_with fail
  refine (G.out _).mono ?_
  rintro e w1 ⟨n, ok, rfl, hz, hB⟩
  have HB := Lib.hid hB
  clear hB
  go_wp2_with fail
  go_ret2
  exact ⟨_, _, rfl, hz, HB.out⟩
theorem signed_ans (g : Bool) (n : Nat) (w : World) : Calls Try.prog 121 #[.bool g, .int .u64 n] w (GivesAns (if g then -(n : Int) else n) w) := by
  cases g
  · rcases Nat.lt_or_ge 9223372036854775807 n with h | h
    · exact (signed_great n h w).mono fun e w' ⟨h1, h2⟩ => ⟨_, _, h1, ans_out (by simp; omega), h2 ▸ Below.refl _ _⟩
    · exact (signed_pos n h w).mono fun e w' ⟨h1, h2⟩ => ⟨_, _, h1, ans_in (by simp <;> omega) (by simp <;> omega), h2 ▸ Below.refl _ _⟩
  · rcases Nat.lt_or_ge 9223372036854775808 n with h | h
    · exact (signed_low n h w).mono fun e w' ⟨h1, h2⟩ => ⟨_, _, h1, ans_out (by simp; omega), h2 ▸ Below.refl _ _⟩
    · exact (signed_neg n h w).mono fun e w' ⟨h1, h2⟩ => ⟨_, _, h1, ans_in (by simp <;> omega) (by simp <;> omega), h2 ▸ Below.refl _ _⟩
theorem mul_parts (a b : Int) : a * b = if (!(decide (a < 0) == decide (b < 0))) then -((a.natAbs * b.natAbs : Nat) : Int) else ((a.natAbs * b.natAbs : Nat) : Int) := by
  have e1 : a = if a < 0 then -(a.natAbs : Int) else (a.natAbs : Int) := by split <;> omega
  have e2 : b = if b < 0 then -(b.natAbs : Int) else (b.natAbs : Int) := by split <;> omega
  generalize a.natAbs = m at *
  generalize b.natAbs = n at *
  by_cases h1 : a < 0 <;> by_cases h2 : b < 0 <;> simp only [h1, h2, if_true, if_false] at e1 e2 <;> simp [h1, h2] <;> rw [e1, e2] <;> simp [Int.neg_mul, Int.mul_neg]
set_option maxRecDepth 100000 in
theorem mul_num (a b : Int) (a0 : -9223372036854775808 ≤ a) (a1 : a ≤ 9223372036854775807) (b0 : -9223372036854775808 ≤ b) (b1 : b ≤ 9223372036854775807) (w : World) :
    Calls Try.prog 108 #[.int .i64 a, .int .i64 b] w (GivesAns (a * b) w) := by
  have S1 := Lib.hid (fun W : World => size_any a a0 a1 W)
  have S2 := Lib.hid (fun W : World => size_any b b0 b1 W)
  have hp := mul_parts a b
  obtain ⟨x, hx⟩ : ∃ x, x = a.natAbs := ⟨_, rfl⟩
  obtain ⟨y, hy⟩ : ∃ y, y = b.natAbs := ⟨_, rfl⟩
  have xb : x < 18446744073709551616 := by omega
  have yb : y < 18446744073709551616 := by omega
  rw [← hx, ← hy] at hp
  rw [← hx] at S1
  rw [← hy] at S2
  have M1 := Lib.hid (fun W : World => mul64_any x y xb yb W)
  obtain ⟨g, hg⟩ : ∃ g, g = decide (a < 0) := ⟨_, rfl⟩
  obtain ⟨h, hh⟩ : ∃ g, g = decide (b < 0) := ⟨_, rfl⟩
  rw [← hg, ← hh] at hp
  obtain ⟨hi, hhi⟩ : ∃ hi, hi = x * y / 18446744073709551616 := ⟨_, rfl⟩
  obtain ⟨lo, hlo⟩ : ∃ lo, lo = x * y % 18446744073709551616 := ⟨_, rfl⟩
  rw [← hhi, ← hlo] at M1
  obtain ⟨z, hz⟩ : ∃ z, z = a * b := ⟨_, rfl⟩
  rw [← hz] at hp ⊢
  by_cases h0 : hi = 0
  · have hl : lo = x * y := by omega
    have N1 := Lib.hid (fun W : World => signed_ans (!(g == h)) lo W)
    rw [hl, ← hp, ← hl] at N1
    subst h0
    subst hg hh
    clear hp hx hy hhi hlo hl hz
    go_enter Try.func108, Try.ntmps108
    go_wp2_with (first
      | (go_at_call 120; first | ((with_reducible refine (S1.out _).mono ?_); rintro e w' ⟨rfl, rfl⟩) | ((with_reducible refine (S2.out _).mono ?_); rintro e w' ⟨rfl, rfl⟩)))
    refine (M1.out _).mono ?_
    rintro e w1 ⟨rfl, hB⟩
    have HB := Lib.hid hB
    clear hB
    go_wp2_with fail
    refine (N1.out _).mono ?_
    rintro e w2 ⟨n, ok, rfl, hz, hB2⟩
    have HC := Lib.hid (below_mono HB.out hB2 (Nat.le_refl _))
    clear hB2
    go_wp2_with fail
    go_ret2
    exact ⟨_, _, rfl, hz, HC.out⟩
  · have hz' : Ans z 0 false := ans_out (by
      have hl : 18446744073709551616 ≤ x * y := by omega
      rw [hp]; split <;> omega)
    have h1 : (hi : Int) ≠ 0 := by omega
    clear hp hx hy hhi hlo hz
    go_enter Try.func108, Try.ntmps108
    go_wp2_with (first
      | (go_at_call 120; first | ((with_reducible refine (S1.out _).mono ?_); rintro e w' ⟨rfl, rfl⟩) | ((with_reducible refine (S2.out _).mono ?_); rintro e w' ⟨rfl, rfl⟩)))
    refine (M1.out _).mono ?_
    rintro e w1 ⟨rfl, hB⟩
    have HB := Lib.hid hB
    clear hB
    go_wp2_with fail
    go_ret2
    exact ⟨_, _, rfl, hz', HB.out⟩
end Go.Proofs.Ytidldlhhmophjaa.Nu
namespace Go.Proofs.Ytidldlhhmophjaa.Nu
open Go.RowKit Go.Sort
set_option linter.unusedSimpArgs false
set_option linter.unusedVariables false

theorem away_any (quo rest by' : Nat) (neg : Bool) (mode : Int) (m0 : 0 ≤ mode) (m3 : mode ≤ 3) (h : rest < by') (hb : by' < 18446744073709551616) (w : World) :
    Calls Try.prog 123 #[.int .u64 quo, .int .u64 rest, .int .u64 by', .bool neg, .int .i64 mode] w fun e w' => e = .returned (.bool (awayB quo rest by' neg mode)) ∧ w = w' := by
  have : mode = 0 ∨ mode = 1 ∨ mode = 2 ∨ mode = 3 := by omega
  rcases this with rfl | rfl | rfl | rfl
  · exact away_down quo rest by' neg h hb w
  · exact away_floor quo rest by' neg h hb w
  · exact away_half quo rest by' neg h hb w
  · exact away_even quo rest by' neg h hb w
/-- What MulDiv answers. -/
def MD (a b c mode n : Int) (ok : Bool) : Prop := if c = 0 ∨ mode < 0 ∨ 3 < mode then n = 0 ∧ ok = false else Ans (rq (a * b) c mode) n ok
def GivesMD (a b c mode : Int) (w : World) (e : Ending) (w' : World) : Prop := ∃ n ok, e = .returned (.tuple #[.int .i64 n, .bool ok]) ∧ MD a b c mode n ok ∧ Below w.heap.size w w'
theorem Ans.one {z n m : Int} {ok is : Bool} (h : Ans z n ok) (h' : Ans z m is) : n = m ∧ ok = is := by
  by_cases hz : -9223372036854775808 ≤ z ∧ z ≤ 9223372036854775807
  · exact ⟨(h.1 hz).1.trans (h'.1 hz).1.symm, (h.1 hz).2.trans (h'.1 hz).2.symm⟩
  · exact ⟨(h.2 hz).1.trans (h'.2 hz).1.symm, (h.2 hz).2.trans (h'.2 hz).2.symm⟩
theorem MD.one {a b c mode n m : Int} {ok is : Bool} (h : MD a b c mode n ok) (h' : MD a b c mode m is) : n = m ∧ ok = is := by
  unfold MD at h h'
  split at h
  · rename_i hc; rw [if_pos hc] at h'; exact ⟨h.1.trans h'.1.symm, h.2.trans h'.2.symm⟩
  · rename_i hc; rw [if_neg hc] at h'; exact h.one h'
theorem md_no {a b c mode : Int} (h : c = 0 ∨ mode < 0 ∨ 3 < mode) : MD a b c mode 0 false := by unfold MD; rw [if_pos h]; exact ⟨rfl, rfl⟩
theorem md_ans {a b c mode n : Int} {ok : Bool} (h : ¬ (c = 0 ∨ mode < 0 ∨ 3 < mode)) (h' : Ans (rq (a * b) c mode) n ok) : MD a b c mode n ok := by unfold MD; rw [if_neg h]; exact h'
theorem sgn_out {g : Bool} {n : Nat} (h : 18446744073709551616 ≤ n) : Ans (sgn g n) 0 false := ans_out (by unfold sgn; split <;> omega)

set_option maxRecDepth 100000 in
theorem md_bad (a b c mode : Int) (h : c = 0 ∨ mode < 0 ∨ 3 < mode) (w : World) :
    Calls Try.prog 109 #[.int .i64 a, .int .i64 b, .int .i64 c, .int .i64 mode] w (GivesMD a b c mode w) := by
  have HM := Lib.hid (md_no (a := a) (b := b) h)
  by_cases h1 : c = 0
  · have t1 : (c == 0) = true := by rw [h1]; rfl
    clear h
    subst h1
    go_enter Try.func109, Try.ntmps109
    go_wp2_with fail
    go_ret2
    exact ⟨_, _, rfl, HM.out, Below.refl _ _⟩
  · have t1 : (c == 0) = false := by rw [beq_eq_false_iff_ne]; exact h1
    by_cases h2 : mode < 0
    · clear h
      go_enter Try.func109, Try.ntmps109
      go_wp2_with fail
      go_ret2
      exact ⟨_, _, rfl, HM.out, Below.refl _ _⟩
    · have h3 : 3 < mode := by omega
      clear h
      go_enter Try.func109, Try.ntmps109
      go_wp2_with fail
      go_ret2
      exact ⟨_, _, rfl, HM.out, Below.refl _ _⟩

set_option maxRecDepth 100000 in
set_option maxHeartbeats 4000000 in
theorem md_good (a b c mode : Int) (a0 : -9223372036854775808 ≤ a) (a1 : a ≤ 9223372036854775807) (b0 : -9223372036854775808 ≤ b) (b1 : b ≤ 9223372036854775807) (c0 : -9223372036854775808 ≤ c) (c1 : c ≤ 9223372036854775807)
    (hc : c ≠ 0) (m0 : 0 ≤ mode) (m3 : mode ≤ 3) (w : World) :
    Calls Try.prog 109 #[.int .i64 a, .int .i64 b, .int .i64 c, .int .i64 mode] w (GivesMD a b c mode w) := by
  have hgood : ¬ (c = 0 ∨ mode < 0 ∨ 3 < mode) := by omega
  have HM : Hid (∀ n ok, Ans (rq (a * b) c mode) n ok → MD a b c mode n ok) := Lib.hid fun n ok h => md_ans hgood h
  have S1 := Lib.hid (fun W : World => size_any a a0 a1 W)
  have S2 := Lib.hid (fun W : World => size_any b b0 b1 W)
  have S3 := Lib.hid (fun W : World => size_any c c0 c1 W)
  have hrq := rq_of a b c mode hc
  obtain ⟨x, hx⟩ : ∃ x, x = a.natAbs := ⟨_, rfl⟩
  obtain ⟨y, hy⟩ : ∃ y, y = b.natAbs := ⟨_, rfl⟩
  obtain ⟨z, hz⟩ : ∃ z, z = c.natAbs := ⟨_, rfl⟩
  have xb : x < 18446744073709551616 := by omega
  have yb : y < 18446744073709551616 := by omega
  have zb : z < 18446744073709551616 := by omega
  have z1 : 0 < z := by omega
  rw [← hx] at S1
  rw [← hy] at S2
  rw [← hz] at S3
  rw [← hx, ← hy, ← hz] at hrq
  have M1 := Lib.hid (fun W : World => mul64_any x y xb yb W)
  obtain ⟨ga, hga⟩ : ∃ g, g = decide (a < 0) := ⟨_, rfl⟩
  obtain ⟨gb, hgb⟩ : ∃ g, g = decide (b < 0) := ⟨_, rfl⟩
  obtain ⟨gc, hgc⟩ : ∃ g, g = decide (c < 0) := ⟨_, rfl⟩
  rw [← hga, ← hgb, ← hgc] at hrq
  obtain ⟨p, hp⟩ : ∃ p, p = x * y := ⟨_, rfl⟩
  obtain ⟨hi, hhi⟩ : ∃ hi, hi = p / 18446744073709551616 := ⟨_, rfl⟩
  obtain ⟨lo, hlo⟩ : ∃ lo, lo = p % 18446744073709551616 := ⟨_, rfl⟩
  rw [← hp] at hrq
  rw [← hp, ← hhi, ← hlo] at M1
  have hpl : hi * 18446744073709551616 + lo = p := by omega
  have lb : lo < 18446744073709551616 := by omega
  obtain ⟨r, hr⟩ : ∃ r, r = rq (a * b) c mode := ⟨_, rfl⟩
  rw [← hr] at HM hrq
  have tc : (c == 0) = false := by rw [beq_eq_false_iff_ne]; exact hc
  have t0 : ¬ mode < 0 := by omega
  have t3 : ¬ 3 < mode := by omega
  by_cases hov : z ≤ hi
  · have HA : Hid (Ans r 0 false) := Lib.hid (by
      rw [hrq]
      apply sgn_out
      have : 18446744073709551616 ≤ p / z := (Nat.le_div_iff_mul_le z1).2 (by omega)
      unfold upN; omega)
    have ho : (z : Int) ≤ (hi : Int) := by omega
    clear hx hy hz hga hgb hgc hp hhi hlo hpl hr hrq hov hgood xb yb zb
    go_enter Try.func109, Try.ntmps109
    go_wp2_with (go_at_call 120; first | ((with_reducible refine (S1.out _).mono ?_); rintro e w' ⟨rfl, rfl⟩) | ((with_reducible refine (S2.out _).mono ?_); rintro e w' ⟨rfl, rfl⟩))
    refine (M1.out _).mono ?_
    rintro e w1 ⟨rfl, hB⟩
    have HB := Lib.hid hB
    clear hB
    go_wp2_with (go_at_call 120; (with_reducible refine (S3.out _).mono ?_); rintro e w' ⟨rfl, rfl⟩)
    go_ret2
    exact ⟨_, _, rfl, HM.out _ _ HA.out, HB.out⟩
  · have ho : ¬ (z : Int) ≤ (hi : Int) := by omega
    have D1 := Lib.hid (fun W : World => div64_any hi lo z (by omega) lb zb W)
    rw [hpl] at D1
    obtain ⟨quo, hquo⟩ : ∃ q, q = p / z := ⟨_, rfl⟩
    obtain ⟨rest, hrest⟩ : ∃ q, q = p % z := ⟨_, rfl⟩
    rw [← hquo, ← hrest] at D1 hrq
    have br : rest < z := by rw [hrest]; exact Nat.mod_lt _ z1
    have bq : quo < 18446744073709551616 := by
      rw [hquo, Nat.div_lt_iff_lt_mul z1]
      have : hi * 18446744073709551616 + lo < z * 18446744073709551616 := by omega
      omega
    subst hga hgb hgc
    obtain ⟨g, hg⟩ : ∃ g, g = (!((!(decide (a < 0) == decide (b < 0))) == decide (c < 0))) := ⟨_, rfl⟩
    have hrq' : r = sgn g (upN quo rest z g mode) := by rw [hrq, hg]; rfl
    have W1 := Lib.hid (fun W : World => away_any quo rest z g mode m0 m3 br zb W)
    clear hrq hgood hx hy hz hp hhi hlo hpl hr hov xb yb zb z1 hquo hrest br
    by_cases hA : awayB quo rest z g mode = true
    · rw [hA] at W1
      have hu : upN quo rest z g mode = quo + 1 := by unfold upN; rw [hA]; rfl
      rw [hu] at hrq'
      by_cases hq : quo + 1 = 18446744073709551616
      · have HA : Hid (Ans r 0 false) := Lib.hid (by rw [hrq']; exact sgn_out (by omega))
        have y1 : IntKind.u64.wrap ((quo : Int) + 1) = 0 := by rw [IntKind.wrap_u64]; omega
        clear hu hrq' hA hq bq
        rw [hg] at W1
        clear hg
        go_enter Try.func109, Try.ntmps109
        go_wp2_with (go_at_call 120; first | ((with_reducible refine (S1.out _).mono ?_); rintro e w' ⟨rfl, rfl⟩) | ((with_reducible refine (S2.out _).mono ?_); rintro e w' ⟨rfl, rfl⟩))
        refine (M1.out _).mono ?_
        rintro e w1 ⟨rfl, hB⟩
        have HB := Lib.hid hB
        clear hB
        go_wp2_with (go_at_call 120; (with_reducible refine (S3.out _).mono ?_); rintro e w' ⟨rfl, rfl⟩)
        with_reducible refine (D1.out _).mono ?_
        rintro e w2 ⟨rfl, n, rfl⟩
        go_wp2_with (go_at_call 120; (with_reducible refine (S3.out _).mono ?_); rintro e w' ⟨rfl, rfl⟩)
        with_reducible refine (W1.out _).mono ?_
        rintro e w3 ⟨rfl, rfl⟩
        go_wp2_with fail
        go_ret2
        exact ⟨_, _, rfl, HM.out _ _ HA.out, below_drewN HB.out _⟩
      · have N1 := Lib.hid (fun W : World => signed_ans g (quo + 1) W)
        rw [show (if g = true then -((quo + 1 : Nat) : Int) else ((quo + 1 : Nat) : Int)) = r by rw [hrq']; rfl] at N1
        obtain ⟨q2, hq2⟩ : ∃ q2, q2 = quo + 1 := ⟨_, rfl⟩
        rw [← hq2] at N1
        have y1 : (quo : Int) + 1 = (q2 : Int) := by omega
        have y2 : IntKind.u64.wrap (q2 : Int) = (q2 : Int) := by rw [IntKind.wrap_u64]; omega
        have y3 : ¬ (q2 : Int) = 0 := by omega
        have y4 : ((q2 : Int) == 0) = false := by rw [beq_eq_false_iff_ne]; omega
        have y5 : IntKind.u64.wrap ((quo : Int) + 1) = (q2 : Int) := by rw [y1, y2]
        clear hu hrq' hA hq bq hq2
        rw [hg] at W1 N1
        clear hg
        go_enter Try.func109, Try.ntmps109
        go_wp2_with (go_at_call 120; first | ((with_reducible refine (S1.out _).mono ?_); rintro e w' ⟨rfl, rfl⟩) | ((with_reducible refine (S2.out _).mono ?_); rintro e w' ⟨rfl, rfl⟩))
        refine (M1.out _).mono ?_
        rintro e w1 ⟨rfl, hB⟩
        have HB := Lib.hid hB
        clear hB
        go_wp2_with (go_at_call 120; (with_reducible refine (S3.out _).mono ?_); rintro e w' ⟨rfl, rfl⟩)
        with_reducible refine (D1.out _).mono ?_
        rintro e w2 ⟨rfl, n, rfl⟩
        go_wp2_with (go_at_call 120; (with_reducible refine (S3.out _).mono ?_); rintro e w' ⟨rfl, rfl⟩)
        with_reducible refine (W1.out _).mono ?_
        rintro e w3 ⟨rfl, rfl⟩
        go_wp2_with fail
        with_reducible refine (N1.out _).mono ?_
        rintro e w4 ⟨v, ok, rfl, hz, hB2⟩
        have HZ := Lib.hid hz
        have HC := Lib.hid (below_mono (below_drewN HB.out n) hB2 (Nat.le_refl _))
        clear hB2 hz
        go_wp2_with fail
        go_ret2
        exact ⟨_, _, rfl, HM.out _ _ HZ.out, HC.out⟩
    · have hA' : awayB quo rest z g mode = false := by simpa using hA
      rw [hA'] at W1
      have hu : upN quo rest z g mode = quo := by unfold upN; rw [hA']; rfl
      rw [hu] at hrq'
      have N1 := Lib.hid (fun W : World => signed_ans g quo W)
      rw [show (if g = true then -((quo : Nat) : Int) else ((quo : Nat) : Int)) = r by rw [hrq']; rfl] at N1
      clear hu hrq' hA hA' bq
      rw [hg] at W1 N1
      clear hg
      go_enter Try.func109, Try.ntmps109
      go_wp2_with (go_at_call 120; first | ((with_reducible refine (S1.out _).mono ?_); rintro e w' ⟨rfl, rfl⟩) | ((with_reducible refine (S2.out _).mono ?_); rintro e w' ⟨rfl, rfl⟩))
      refine (M1.out _).mono ?_
      rintro e w1 ⟨rfl, hB⟩
      have HB := Lib.hid hB
      clear hB
      go_wp2_with (go_at_call 120; (with_reducible refine (S3.out _).mono ?_); rintro e w' ⟨rfl, rfl⟩)
      with_reducible refine (D1.out _).mono ?_
      rintro e w2 ⟨rfl, n, rfl⟩
      go_wp2_with (go_at_call 120; (with_reducible refine (S3.out _).mono ?_); rintro e w' ⟨rfl, rfl⟩)
      with_reducible refine (W1.out _).mono ?_
      rintro e w3 ⟨rfl, rfl⟩
      go_wp2_with fail
      with_reducible refine (N1.out _).mono ?_
      rintro e w4 ⟨v, ok, rfl, hz, hB2⟩
      have HZ := Lib.hid hz
      have HC := Lib.hid (below_mono (below_drewN HB.out n) hB2 (Nat.le_refl _))
      clear hB2 hz
      go_wp2_with fail
      go_ret2
      exact ⟨_, _, rfl, HM.out _ _ HZ.out, HC.out⟩
theorem md_any (a b c mode : Int) (a0 : -9223372036854775808 ≤ a) (a1 : a ≤ 9223372036854775807) (b0 : -9223372036854775808 ≤ b) (b1 : b ≤ 9223372036854775807) (c0 : -9223372036854775808 ≤ c) (c1 : c ≤ 9223372036854775807) (w : World) :
    Calls Try.prog 109 #[.int .i64 a, .int .i64 b, .int .i64 c, .int .i64 mode] w (GivesMD a b c mode w) := by
  by_cases h : c = 0 ∨ mode < 0 ∨ 3 < mode
  · exact md_bad a b c mode h w
  · exact md_good a b c mode a0 a1 b0 b1 c0 c1 (by omega) (by omega) (by omega) w
end Go.Proofs.Ytidldlhhmophjaa.Nu
