/- Layer 1: num.Add, Sub, Mul, Neg. Conditions: those written at each theorem. -/
import Derived.Test.YtidldlhhmophjaaHelp
import Derived.BigQuiet
import Derived.Deep.QuietTactic
import Derived.RegionTactic
import Derived.ChangeAlike
import Derived.Lib.QuietBelow
import Derived.Test.YtidldlhhmophjaaShelf
import Derived.Shelf.Spec.BitsCarry
import Derived.WalkLawsBesides
import Derived.WalkSpells
namespace Go.Proofs.Ytidldlhhmophjaa.Nu
set_option linter.unusedVariables false

/-- The value of digits. -/
def dval : List Nat → Nat
  | [] => 0
  | d :: l => d + 65536 * dval l
/-- The digits of a number, none above it nought. -/
def dgF : Nat → Nat → List Nat
  | 0, _ => []
  | f + 1, n => if n = 0 then [] else n % 65536 :: dgF f (n / 65536)
def dg (n : Nat) : List Nat := dgF n n
def Low (l : List Nat) : Prop := ∀ d ∈ l, d < 65536
theorem dgF_any : ∀ (f g n : Nat), n ≤ f → n ≤ g → dgF f n = dgF g n
  | 0, g, n, h, _ => by
    obtain rfl : n = 0 := by omega
    cases g <;> simp [dgF]
  | f + 1, 0, n, _, h => by
    obtain rfl : n = 0 := by omega
    simp [dgF]
  | f + 1, g + 1, n, h, h' => by
    unfold dgF
    split
    · rfl
    · rw [dgF_any f g (n / 65536) (by omega) (by omega)]
theorem dg_zero : dg 0 = [] := rfl
theorem dg_step {n : Nat} (h : n ≠ 0) : dg n = n % 65536 :: dg (n / 65536) := by
  unfold dg
  obtain ⟨k, rfl⟩ : ∃ k, n = k + 1 := ⟨n - 1, by omega⟩
  rw [dgF, if_neg h, dgF_any k ((k + 1) / 65536) _ (by omega) (by omega)]
theorem dg_val (n : Nat) : dval (dg n) = n := by
  induction n using Nat.strongRecOn with
  | _ n ih =>
    by_cases h : n = 0
    · subst h; rfl
    · rw [dg_step h, dval, ih (n / 65536) (by omega)]; omega
theorem dg_low (n : Nat) : Low (dg n) := by
  induction n using Nat.strongRecOn with
  | _ n ih =>
    by_cases h : n = 0
    · subst h; intro d hd; simp [dg_zero] at hd
    · rw [dg_step h]
      intro d hd
      rcases List.mem_cons.1 hd with rfl | hd
      · omega
      · exact ih (n / 65536) (by omega) d hd
theorem dg_nil_iff {n : Nat} : dg n = [] ↔ n = 0 := by
  constructor
  · intro h; have := dg_val n; rw [h] at this; simpa [dval] using this.symm
  · rintro rfl; rfl
theorem dval_pos {l : List Nat} (hl : Low l) (h : l ≠ []) (h' : l.getLast h ≠ 0) : 0 < dval l := by
  induction l with
  | nil => exact absurd rfl h
  | cons d l ih =>
    cases l with
    | nil => simp at h'; simp [dval]; omega
    | cons e l =>
      have := ih (fun x hx => hl x (List.mem_cons_of_mem _ hx)) (by simp) (by simpa using h')
      rw [dval]; omega
/-- Digits without noughts above are the digits of their value. -/
theorem dg_of {l : List Nat} (hl : Low l) (h : ∀ h : l ≠ [], l.getLast h ≠ 0) : dg (dval l) = l := by
  induction l with
  | nil => rfl
  | cons d l ih =>
    have hd : d < 65536 := hl d (by simp)
    have hlow : Low l := fun x hx => hl x (List.mem_cons_of_mem _ hx)
    have hp := dval_pos hl (by simp) (h (by simp))
    rw [dg_step (by omega), dval]
    have e1 : (d + 65536 * dval l) % 65536 = d := by omega
    have e2 : (d + 65536 * dval l) / 65536 = dval l := by omega
    rw [e1, e2, ih hlow]
    intro hne
    have := h (by simp)
    rwa [List.getLast_cons hne] at this
theorem dval_append (a b : List Nat) : dval (a ++ b) = dval a + 65536 ^ a.length * dval b := by
  induction a with
  | nil => simp [dval]
  | cons d a ih => simp only [List.cons_append, dval, ih, List.length_cons, Nat.pow_succ]; rw [Nat.mul_add, ← Nat.mul_assoc, Nat.mul_comm 65536 (65536 ^ a.length)]; omega
theorem dval_lt {l : List Nat} (hl : Low l) : dval l < 65536 ^ l.length := by
  induction l with
  | nil => simp [dval]
  | cons d l ih =>
    have hd : d < 65536 := hl d (by simp)
    have := ih (fun x hx => hl x (List.mem_cons_of_mem _ hx))
    rw [dval, List.length_cons, Nat.pow_succ]; omega
theorem dval_take_succ {l : List Nat} {i : Nat} (h : i < l.length) : dval (l.take (i + 1)) = dval (l.take i) + 65536 ^ i * l[i] := by
  rw [List.take_succ_eq_append_getElem h, dval_append]
  simp [dval, List.length_take, Nat.min_eq_left (Nat.le_of_lt h)]
theorem Low.take {l : List Nat} (h : Low l) (k : Nat) : Low (l.take k) := fun d hd => h d (List.mem_of_mem_take hd)
theorem Low.get {l : List Nat} (h : Low l) {i : Nat} (hi : i < l.length) : l[i] < 65536 := h _ (List.getElem_mem hi)
theorem dg_length_le {n k : Nat} (h : n < 65536 ^ k) : (dg n).length ≤ k := by
  induction k generalizing n with
  | zero => simp at h; subst h; simp [dg_zero]
  | succ k ih =>
    by_cases hn : n = 0
    · subst hn; simp [dg_zero]
    · rw [dg_step hn, List.length_cons]
      have : n / 65536 < 65536 ^ k := by rw [Nat.pow_succ] at h; omega
      have := ih this
      omega
theorem dg_last (n : Nat) (h : dg n ≠ []) : (dg n).getLast h ≠ 0 := by
  induction n using Nat.strongRecOn with
  | _ n ih =>
    have hn : n ≠ 0 := fun e => h (by rw [e, dg_zero])
    by_cases hq : n / 65536 = 0
    · have e : dg n = [n % 65536] := by rw [dg_step hn, hq, dg_zero]
      simp only [e, List.getLast_singleton]; omega
    · have e := dg_step hn
      have hne : dg (n / 65536) ≠ [] := fun e => hq (dg_nil_iff.1 e)
      have := ih (n / 65536) (by omega) hne
      simp only [e, List.getLast_cons hne]; exact this
theorem dg_pow_le {n : Nat} (h : n ≠ 0) : 65536 ^ ((dg n).length - 1) ≤ n := by
  induction n using Nat.strongRecOn with
  | _ n ih =>
    by_cases hq : n / 65536 = 0
    · rw [dg_step h, hq, dg_zero]; simp; omega
    · have h1 := ih (n / 65536) (by omega) hq
      rw [dg_step h, List.length_cons]
      have hl : (dg (n / 65536)).length ≠ 0 := by
        intro e; exact hq (dg_nil_iff.1 (List.length_eq_zero_iff.1 e))
      obtain ⟨k, hk⟩ : ∃ k, (dg (n / 65536)).length = k + 1 := ⟨_, (Nat.succ_pred hl).symm⟩
      rw [hk] at h1 ⊢
      simp only [Nat.add_sub_cancel] at h1 ⊢
      rw [Nat.pow_succ]; omega
/-- Fewer digits, the less number. -/
theorem lt_of_len {x y : Nat} (h : (dg x).length < (dg y).length) : x < y := by
  have hy : y ≠ 0 := by rintro rfl; simp [dg_zero] at h
  have h1 := dval_lt (dg_low x)
  rw [dg_val] at h1
  have h2 := dg_pow_le hy
  have h3 : 65536 ^ (dg x).length ≤ 65536 ^ ((dg y).length - 1) := Nat.pow_le_pow_right (by omega) (by omega)
  omega
theorem dval_split (l : List Nat) (i : Nat) (h : i ≤ l.length) : dval l = dval (l.take i) + 65536 ^ i * dval (l.drop i) := by
  conv => lhs; rw [← List.take_append_drop i l]
  rw [dval_append, List.length_take, Nat.min_eq_left h]
theorem lt_of_digit {a b : List Nat} {i : Nat} (ha : Low a) (hb : Low b) (hia : i < a.length) (hib : i < b.length) (hd : a.drop (i + 1) = b.drop (i + 1)) (h : a[i] < b[i]) : dval a < dval b := by
  have e1 := dval_split a (i + 1) hia
  have e2 := dval_split b (i + 1) hib
  rw [dval_take_succ hia] at e1
  rw [dval_take_succ hib, ← hd] at e2
  have l1 := dval_lt (ha.take i)
  rw [List.length_take, Nat.min_eq_left (Nat.le_of_lt hia)] at l1
  have l2 : 65536 ^ i * a[i] + 65536 ^ i ≤ 65536 ^ i * b[i] := by
    rw [← Nat.mul_succ]; exact Nat.mul_le_mul_left _ h
  omega
/-- Which of two numbers is less. -/
def cmpI (x y : Nat) : Int := if x < y then -1 else if y < x then 1 else 0
end Go.Proofs.Ytidldlhhmophjaa.Nu
namespace Go.Proofs.Ytidldlhhmophjaa.Nu
open Go.RowKit Go.Sort
set_option linter.unusedSimpArgs false
set_option linter.unusedVariables false

/-- A slice whose cells, below block B, hold these values. -/
def SAt (B : Nat) (ao : Option Addr) (vs : List Value) (w : World) : Prop :=
  (0 < vs.length → ∃ a, ao = some a) ∧ ∀ a, ao = some a → 0 < vs.length → a.block < B ∧ ∀ i u, vs[i]? = some u → w.cell? (a.add i) = some u
theorem SAt.under {B : Nat} {ao : Option Addr} {vs : List Value} {w w' : World} (h : SAt B ao vs w) (k : Below B w w') : SAt B ao vs w' :=
  ⟨h.1, fun a e hp => ⟨(h.2 a e hp).1, fun i u hu => (k.cell (p := a.add i) (by have := (h.2 a e hp).1; unfold Addr.add; split <;> exact this)).trans ((h.2 a e hp).2 i u hu)⟩⟩
theorem SAt.mono {B B' : Nat} {ao : Option Addr} {vs : List Value} {w : World} (h : SAt B ao vs w) (hb : B ≤ B') : SAt B' ao vs w :=
  ⟨h.1, fun a e hp => ⟨Nat.lt_of_lt_of_le (h.2 a e hp).1 hb, (h.2 a e hp).2⟩⟩
theorem SAt.next {ao : Option Addr} {vs : List Value} {w w' : World} (h : SAt w.heap.size ao vs w) (k : Below w.heap.size w w') : SAt w'.heap.size ao vs w' :=
  (h.under k).mono k.size
theorem add_none (b off j : Nat) : (⟨b, off, none⟩ : Addr).add j = ⟨b, off + j, none⟩ := by
  unfold Addr.add
  split
  · rename_i h; subst h; rfl
  · rfl
/-- Digits as values. -/
def us (l : List Nat) : List Value := l.map fun (d : Nat) => Value.int .u64 (d : Int)
theorem us_length (l : List Nat) : (us l).length = l.length := by simp [us]
theorem SAt.nil (B : Nat) (ao : Option Addr) (w : World) : SAt B ao (us []) w := ⟨fun h => by simp [us] at h, fun _ _ h => by simp [us] at h⟩
theorem SAt.cells {B : Nat} {ao : Option Addr} {xs : List Nat} {w : World} (h : SAt B ao (us xs) w) (hp : 0 < xs.length) :
    ∃ b off, ao = some ⟨b, off, none⟩ ∧ b < B ∧ ∀ j, (hj : j < xs.length) → w.cell? ⟨b, off + j, none⟩ = some (.int .u64 (xs[j] : Int)) := by
  have hp' : 0 < (us xs).length := by rw [us_length]; exact hp
  obtain ⟨a, rfl⟩ := h.1 hp'
  obtain ⟨hb, hc⟩ := h.2 a rfl hp'
  have hc' : ∀ j, (hj : j < xs.length) → w.cell? (a.add j) = some (.int .u64 (xs[j] : Int)) := by
    intro j hj
    apply hc
    unfold us
    rw [List.getElem?_map, List.getElem?_eq_getElem hj]
    simp
  obtain ⟨b, off, spot⟩ := a
  cases spot with
  | some s =>
    have := hc' 0 hp
    simp [World.cell?, Addr.add] at this
    split at this <;> cases this
  | none => exact ⟨b, off, rfl, hb, fun j hj => by rw [← add_none]; exact hc' j hj⟩
theorem SAt.take {B : Nat} {ao : Option Addr} {xs : List Nat} {w : World} (h : SAt B ao (us xs) w) (k : Nat) : SAt B ao (us (xs.take k)) w := by
  have hl : 0 < (us (xs.take k)).length → 0 < (us xs).length := by
    rw [us_length, us_length, List.length_take]; omega
  refine ⟨fun hp => h.1 (hl hp), fun a e hp => ⟨(h.2 a e (hl hp)).1, fun i u hu => (h.2 a e (hl hp)).2 i u ?_⟩⟩
  unfold us at hu ⊢
  rw [List.map_take, List.getElem?_take] at hu
  split at hu
  · exact hu
  · cases hu

/-- A slice of the digits of n. -/
def MagIs (n : Nat) (v : Value) (w : World) : Prop := ∃ ao cap, v = .slice ao (dg n).length cap ∧ (dg n).length ≤ cap ∧ SAt w.heap.size ao (us (dg n)) w
theorem MagIs.next {n : Nat} {v : Value} {w w' : World} (h : MagIs n v w) (k : Below w.heap.size w w') : MagIs n v w' := by
  obtain ⟨ao, cap, h1, h2, h3⟩ := h
  exact ⟨ao, cap, h1, h2, h3.next k⟩

theorem take_zero {l : List Nat} {j : Nat} (hj : j < l.length) (h0 : l[j] = 0) (e : dval (l.take (j + 1)) = dval l) : dval (l.take j) = dval l := by
  rw [dval_take_succ hj, h0] at e
  omega
theorem take_done {l : List Nat} {j : Nat} (hl : Low l) (hj : j < l.length) (h0 : l[j] ≠ 0) (e : dval (l.take (j + 1)) = dval l) : l.take (j + 1) = dg (dval l) := by
  rw [← e, dg_of (hl.take _)]
  intro hne
  rw [List.getLast_eq_getElem]
  simp only [List.getElem_take, List.length_take]
  have e2 : min (j + 1) l.length - 1 = j := by omega
  simp only [e2]
  exact h0
theorem take_none {l : List Nat} (e : dval (l.take 0) = dval l) : dg (dval l) = [] := by
  rw [← e]; rfl

theorem SAt.set {B : Nat} {ao : Option Addr} {vs : List Value} {w : World} (h : SAt B ao vs w) (p : Addr) (u : Value) (hp : ∀ a, ao = some a → a.block ≠ p.block) : SAt B ao vs (w.setCell p u) :=
  ⟨h.1, fun a e hl => ⟨(h.2 a e hl).1, fun i x hx => by
    rw [World.cell?_setCell_other (a := p) (b := a.add i) _ _ (fun e' => hp a e (by rw [e']; unfold Addr.add; split <;> rfl))]
    exact (h.2 a e hl).2 i x hx⟩⟩
theorem MagIs.set {n : Nat} {v : Value} {w : World} (h : MagIs n v w) (p : Addr) (u : Value) (hp : ∀ a k c, v = .slice (some a) k c → a.block ≠ p.block) : MagIs n v (w.setCell p u) := by
  obtain ⟨ao, cap, rfl, h2, h3⟩ := h
  refine ⟨ao, cap, rfl, h2, ?_⟩
  have := h3.set p u (fun a e => hp a _ _ (by rw [e]))
  simpa using this
def Trimmed (B : Nat) (ao : Option Addr) (cap : Nat) (l : List Nat) (w : World) (e : Ending) (w' : World) : Prop :=
  ∃ k, k ≤ l.length ∧ l.take k = dg (dval l) ∧ e = .returned (.slice ao k cap) ∧ w = w'
set_option maxHeartbeats 400000 in
theorem trim_any {B : Nat} (ao : Option Addr) (cap : Nat) (l : List Nat) (w : World) (hl : Low l) (hn : l.length ≤ 5000) (hc : l.length ≤ cap) (h : SAt B ao (us l) w) :
    Calls Try.prog 99 #[.slice ao l.length cap] w (Trimmed B ao cap l w) := by
  rcases Nat.eq_zero_or_pos l.length with hz | hp
  · obtain rfl : l = [] := List.length_eq_zero_iff.1 hz
    have hd : Trimmed B ao cap [] w (.returned (.slice ao 0 cap)) w := ⟨0, by simp, rfl, rfl, rfl⟩
    have HD := Lib.hid hd
    clear hz h hd
    simp only [List.length_nil]
    go_enter Try.func99, Try.ntmps99
    go_wp2_with fail
    go_loop [0] (fun t => t = .slice ao 0 cap) (fun _ => 0)
    case atStart => rfl
    case round =>
      subst hrel
      go_wp2_with fail
      go_ret
      exact HD.out
  · obtain ⟨b, off, rfl, hb, hcell⟩ := h.cells hp
    have HC := Lib.hid hcell
    have H0 : Hid (dval (l.take l.length) = dval l) := Lib.hid (by rw [List.take_length])
    clear h hcell
    go_enter Try.func99, Try.ntmps99
    go_wp2_with fail
    go_loop [0] (fun t => ∃ k : Nat, k ≤ l.length ∧ t = .slice (some ⟨b, off, none⟩) k cap ∧ Hid (dval (l.take k) = dval l)) (fun t => match t with | .slice _ k _ => k | _ => 0)
    case atStart => exact ⟨l.length, Nat.le_refl _, rfl, H0⟩
    case round =>
      obtain ⟨k, hk, rfl, HK⟩ := hrel
      clear H0
      cases k with
      | zero =>
        have HD : Hid (Trimmed B (some ⟨b, off, none⟩) cap l w (.returned (.slice (some ⟨b, off, none⟩) 0 cap)) w) := Lib.hid ⟨0, by omega, by rw [take_none HK.out]; rfl, rfl, rfl⟩
        go_wp2_with fail
        go_ret
        exact HD.out
      | succ j =>
        have hc1 := HC.out j (by omega)
        by_cases h0 : l[j] = 0
        · have HK' := Lib.hid (take_zero (by omega) h0 HK.out)
          have hb0 : ((l[j] : Int) == 0) = true := by simp; omega
          rw [h0] at hc1
          clear h0 hb0
          go_wp2_with fail
          go_round
          case rel => exact ⟨j, by omega, rfl, HK'⟩
          case measure => simp
        · have HD : Hid (Trimmed B (some ⟨b, off, none⟩) cap l w (.returned (.slice (some ⟨b, off, none⟩) (j + 1) cap)) w) := Lib.hid ⟨j + 1, hk, take_done hl (by omega) h0 HK.out, rfl, rfl⟩
          obtain ⟨x, hx⟩ : ∃ x : Int, x = (l[j] : Int) := ⟨_, rfl⟩
          have hb0 : (x == 0) = false := by rw [beq_eq_false_iff_ne]; omega
          rw [← hx] at hc1
          clear h0 hx
          go_wp2_with fail
          go_ret
          exact HD.out
theorem Trimmed.mag {B : Nat} {ao : Option Addr} {cap : Nat} {l : List Nat} {w w' : World} {e : Ending} (h : SAt w.heap.size ao (us l) w) (hc : l.length ≤ cap) (ht : Trimmed B ao cap l w e w') : w = w' ∧ ∃ k, e = .returned (.slice ao k cap) ∧ MagIs (dval l) (.slice ao k cap) w := by
  obtain ⟨k, hk, hd, rfl, rfl⟩ := ht
  have hlen : (dg (dval l)).length = k := by rw [← hd, List.length_take]; omega
  refine ⟨rfl, _, rfl, ao, cap, by rw [hlen], by omega, ?_⟩
  rw [← hd]
  exact h.take k

theorem cmp_len {x y : Nat} (h : (dg x).length < (dg y).length) : cmpI x y = -1 ∧ cmpI y x = 1 := by
  have := lt_of_len h
  unfold cmpI
  constructor
  · rw [if_pos this]
  · rw [if_neg (by omega), if_pos this]
theorem cmp_less {x y i : Nat} (hx : i < (dg x).length) (hy : i < (dg y).length) (hd : (dg x).drop (i + 1) = (dg y).drop (i + 1)) (h : (dg x)[i] < (dg y)[i]) : cmpI x y = -1 ∧ cmpI y x = 1 := by
  have := lt_of_digit (dg_low x) (dg_low y) hx hy hd h
  rw [dg_val, dg_val] at this
  unfold cmpI
  constructor
  · rw [if_pos this]
  · rw [if_neg (by omega), if_pos this]
theorem cmp_same {x y : Nat} (h : dg x = dg y) : cmpI x y = 0 := by
  have : x = y := by rw [← dg_val x, h, dg_val]
  subst this; simp [cmpI]
theorem drop_same {x y i : Nat} (hx : i < (dg x).length) (hy : i < (dg y).length) (hd : (dg x).drop (i + 1) = (dg y).drop (i + 1)) (h : (dg x)[i] = (dg y)[i]) : (dg x).drop i = (dg y).drop i := by
  rw [List.drop_eq_getElem_cons hx, List.drop_eq_getElem_cons hy, hd, h]

set_option maxHeartbeats 1000000 in
theorem cmp_any (x y : Nat) (va vb : Value) (w : World) (hx : (dg x).length ≤ 1000) (hy : (dg y).length ≤ 1000) (ha : MagIs x va w) (hb : MagIs y vb w) :
    Calls Try.prog 103 #[va, vb] w fun e w' => e = .returned (.int .i64 (cmpI x y)) ∧ Below w.heap.size w w' := by
  obtain ⟨ao, ca, rfl, _, sa⟩ := ha
  obtain ⟨bo, cb, rfl, _, sb⟩ := hb
  rcases Nat.lt_trichotomy (dg x).length (dg y).length with h | h | h
  · have HC := Lib.hid (cmp_len h).1
    have h' : ((dg x).length : Int) < ((dg y).length : Int) := by omega
    have hne : (((dg x).length : Int) != ((dg y).length : Int)) = true := by simp; omega
    go_enter Try.func103, Try.ntmps103
    go_wp2_with fail
    go_ret
    exact ⟨by rw [HC.out]; rfl, Below.refl _ _⟩
  · obtain ⟨n, hn⟩ : ∃ n, n = (dg x).length := ⟨_, rfl⟩
    rw [← h, ← hn]
    have hyn : (dg y).length = n := by omega
    have HX := Lib.hid hn
    have HY := Lib.hid hyn
    have hn1 : n ≤ 1000 := by omega
    have HDr : Hid ((dg x).drop n = (dg y).drop n) := Lib.hid (by rw [List.drop_eq_nil_of_le (by omega), List.drop_eq_nil_of_le (by omega)])
    rcases Nat.eq_zero_or_pos n with hz | hp
    · subst hz
      have HC : Hid (cmpI x y = 0) := Lib.hid (cmp_same (by simpa using HDr.out))
      clear h hyn hx hy hn sa sb
      go_enter Try.func103, Try.ntmps103
      go_wp2_with fail
      go_loop [5] (fun t => t = .int .i64 (-1)) (fun _ => 0)
      case atStart => rfl
      case round =>
        subst hrel
        go_wp2_with fail
        go_ret
        exact ⟨by rw [HC.out]; rfl, Below.refl _ _⟩
    · obtain ⟨b1, o1, rfl, _, c1⟩ := sa.cells (by omega)
      obtain ⟨b2, o2, rfl, _, c2⟩ := sb.cells (by omega)
      have C1 := Lib.hid c1
      have C2 := Lib.hid c2
      have K0 := Lib.hid (Below.refl w.heap.size w)
      clear h hyn hx hy hn sa sb c1 c2
      go_enter Try.func103, Try.ntmps103
      go_wp2_with fail
      go_loopw [5] (fun t wr => ∃ k : Nat, k ≤ n ∧ t = .int .i64 ((k : Int) - 1) ∧ Hid ((dg x).drop k = (dg y).drop k) ∧ ∃ q, wr = w.drewN q) (fun t _ => (intOf t + 1).toNat)
      case atStart => exact ⟨n, Nat.le_refl _, rfl, HDr, 0, rfl⟩
      case round =>
        obtain ⟨k, hk, rfl, HK, q, rfl⟩ := hrel
        clear HDr
        cases k with
        | zero =>
          have HC : Hid (cmpI x y = 0) := Lib.hid (cmp_same (by simpa using HK.out))
          simp only [Int.natCast_zero, Int.zero_sub]
          go_wp2_with fail
          go_ret
          exact ⟨by rw [HC.out]; rfl, below_drewN K0.out _⟩
        | succ j =>
          have ej : ((j + 1 : Nat) : Int) - 1 = (j : Int) := by omega
          rw [ej]
          have hj1 : j < (dg x).length := by rw [← HX.out]; omega
          have hj2 : j < (dg y).length := by rw [HY.out]; omega
          have d1 := C1.out j hj1
          have d2 := C2.out j hj2
          have HL := fun h => Lib.hid (cmp_less hj1 hj2 HK.out h).1
          have HG := fun h => Lib.hid (cmp_less hj2 hj1 HK.out.symm h).2
          have HS := fun h => Lib.hid (drop_same hj1 hj2 HK.out h)
          obtain ⟨p, hp'⟩ : ∃ p, p = (dg x)[j] := ⟨_, rfl⟩
          obtain ⟨r, hr'⟩ : ∃ r, r = (dg y)[j] := ⟨_, rfl⟩
          rw [← hp'] at d1 HL HG HS
          rw [← hr'] at d2 HL HG HS
          clear ej hj1 hj2 hp' hr'
          rcases Nat.lt_trichotomy p r with hlt | heq | hgt
          · have HC := HL hlt
            have hi : (p : Int) < (r : Int) := by omega
            clear HL HG HS
            go_wp2_with fail
            go_quiet (fail)
            go_wp2_with fail
            go_ret
            exact ⟨by rw [HC.out]; rfl, below_drewN (below_drewN K0.out _) _⟩
          · have HC := HS heq
            have hi : ¬ (p : Int) < (r : Int) := by omega
            have hi2 : ¬ (r : Int) < (p : Int) := by omega
            clear HL HG HS heq
            go_wp2_with fail
            go_quiet (fail)
            go_wp2_with fail
            go_quiet (fail)
            go_wp2_with fail
            go_roundw
            case rel => exact ⟨j, by omega, rfl, HC, _, rfl⟩
            case measure => simp [intOf]
          · have HC := HG hgt
            have hi : ¬ (p : Int) < (r : Int) := by omega
            have hi2 : (r : Int) < (p : Int) := by omega
            clear HL HG HS
            go_wp2_with fail
            go_quiet (fail)
            go_wp2_with fail
            go_quiet (fail)
            go_wp2_with fail
            go_ret
            exact ⟨by rw [HC.out]; rfl, below_drewN (below_drewN (below_drewN K0.out _) _) _⟩
  · have HC := Lib.hid (cmp_len h).2
    have h' : ¬ ((dg x).length : Int) < ((dg y).length : Int) := by omega
    have hne : (((dg x).length : Int) != ((dg y).length : Int)) = true := by simp; omega
    go_enter Try.func103, Try.ntmps103
    go_wp2_with fail
    go_ret
    exact ⟨by rw [HC.out]; rfl, Below.refl _ _⟩
end Go.Proofs.Ytidldlhhmophjaa.Nu
namespace Go.Proofs.Ytidldlhhmophjaa.Nu
open Go.RowKit Go.Sort
set_option linter.unusedSimpArgs false
set_option linter.unusedVariables false

theorem size_nat (n : Nat) (h : n ≤ 9223372036854775807) (w : World) :
    Calls Try.prog 120 #[.int .i64 n] w fun e w' => e = .returned (.int .u64 n) ∧ w = w' := by
  have h0 : ¬ (n : Int) < 0 := by omega
  go_enter Try.func120, Try.ntmps120
  go_wp2
  go_ret
  exact ⟨rfl, rfl⟩
theorem size_neg (n : Nat) (h1 : 1 ≤ n) (h : n ≤ 9223372036854775808) (w : World) :
    Calls Try.prog 120 #[.int .i64 (-(n : Int))] w fun e w' => e = .returned (.int .u64 n) ∧ w = w' := by
  obtain ⟨m, hm⟩ : ∃ m : Int, m = -(n : Int) := ⟨_, rfl⟩
  have h0 : m < 0 := by omega
  have y1 : IntKind.u64.wrap m = m + 18446744073709551616 := by rw [IntKind.wrap_u64]; omega
  have y2 : IntKind.u64.wrap (-(m + 18446744073709551616)) = (n : Int) := by rw [IntKind.wrap_u64]; omega
  have hm1 : -9223372036854775808 ≤ m := by omega
  rw [← hm]
  clear hm
  go_enter Try.func120, Try.ntmps120
  go_wp2
  go_ret
  exact ⟨rfl, rfl⟩
theorem size_any (a : Int) (h0 : -9223372036854775808 ≤ a) (h1 : a ≤ 9223372036854775807) (w : World) :
    Calls Try.prog 120 #[.int .i64 a] w fun e w' => e = .returned (.int .u64 a.natAbs) ∧ w = w' := by
  rcases Int.lt_or_le a 0 with h | h
  · have := size_neg a.natAbs (by omega) (by omega) w
    rwa [show -(a.natAbs : Int) = a by omega] at this
  · have := size_nat a.natAbs (by omega) w
    rw [show (a.natAbs : Int) = a by omega] at this ⊢
    exact this
theorem signed_pos (n : Nat) (h : n ≤ 9223372036854775807) (w : World) :
    Calls Try.prog 121 #[.bool false, .int .u64 n] w fun e w' => e = .returned (.tuple #[.int .i64 n, .bool true]) ∧ w = w' := by
  have h0 : ¬ (9223372036854775807 : Int) < (n : Int) := by omega
  go_enter Try.func121, Try.ntmps121
  go_wp2
  all_goals go_ret2
  all_goals exact ⟨rfl, rfl⟩
theorem signed_great (n : Nat) (h : 9223372036854775807 < n) (w : World) :
    Calls Try.prog 121 #[.bool false, .int .u64 n] w fun e w' => e = .returned (.tuple #[.int .i64 0, .bool false]) ∧ w = w' := by
  have h0 : (9223372036854775807 : Int) < (n : Int) := by omega
  go_enter Try.func121, Try.ntmps121
  go_wp2
  all_goals go_ret2
  all_goals exact ⟨rfl, rfl⟩
theorem signed_low (n : Nat) (h : 9223372036854775808 < n) (w : World) :
    Calls Try.prog 121 #[.bool true, .int .u64 n] w fun e w' => e = .returned (.tuple #[.int .i64 0, .bool false]) ∧ w = w' := by
  have h0 : ¬ (n : Int) ≤ (9223372036854775808 : Int) := by omega
  go_enter Try.func121, Try.ntmps121
  go_wp2
  all_goals go_ret2
  all_goals exact ⟨rfl, rfl⟩
theorem signed_neg (n : Nat) (h : n ≤ 9223372036854775808) (w : World) :
    Calls Try.prog 121 #[.bool true, .int .u64 n] w fun e w' => e = .returned (.tuple #[.int .i64 (-(n : Int)), .bool true]) ∧ w = w' := by
  have h0 : (n : Int) ≤ (9223372036854775808 : Int) := by omega
  have y2 : IntKind.i64.wrap (IntKind.u64.wrap (-(n : Int))) = -(n : Int) := by rw [IntKind.wrap_u64, IntKind.wrap_i64]; omega
  go_enter Try.func121, Try.ntmps121
  go_wp2
  all_goals go_ret2
  all_goals exact ⟨rfl, rfl⟩
theorem div_small (lo y : Nat) (h : lo < 18446744073709551616) (hy : 1 ≤ y) (hy' : y < 18446744073709551616) (w : World) :
    Calls Try.prog 122 #[.int .u64 0, .int .u64 lo, .int .u64 y] w fun e w' => e = .returned (.tuple #[.int .u64 (lo / y : Nat), .int .u64 (lo % y : Nat)]) ∧ ∃ n, w' = w.drewN n := by
  have h0 : ((y : Int) == 0) = false := by rw [beq_eq_false_iff_ne]; omega
  have h1 : ¬ (y : Int) ≤ 0 := by omega
  have h2 : ¬ (y : Int) = 0 := by omega
  have h4 : (y = 0) = False := by simp; omega
  have q1 : IntKind.u64.wrap ((lo : Int) / (y : Int)) = ((lo / y : Nat) : Int) := by
    have := Nat.div_le_self lo y
    rw [← Int.natCast_ediv, IntKind.wrap_u64]
    generalize lo / y = q at *
    omega
  have h3 : ((lo : Int) / (y : Int)) = ((lo / y : Nat) : Int) := by rw [Int.natCast_ediv]
  have h5 : ((lo : Int) % (y : Int)) = ((lo % y : Nat) : Int) := by rw [Int.natCast_emod]
  obtain ⟨q, hq⟩ : ∃ q, q = lo / y := ⟨_, rfl⟩
  obtain ⟨r, hr⟩ : ∃ r, r = lo % y := ⟨_, rfl⟩
  rw [← hq] at h3 q1 ⊢
  rw [← hr] at h5 ⊢
  rw [h3] at q1
  clear hq hr
  go_enter Try.func122, Try.ntmps122
  go_wp2_with fail
  go_quiet (fail)
  go_wp2_with fail
  go_ret2
  exact ⟨by rw [← h5]; rfl, _, rfl⟩
theorem mul64_any (x y : Nat) (hx : x < 18446744073709551616) (hy : y < 18446744073709551616) (w : World) :
    Calls Try.prog 119 #[.int .u64 x, .int .u64 y] w fun e w' => e = .returned (.tuple #[.int .u64 (x * y / 18446744073709551616 : Nat), .int .u64 (x * y % 18446744073709551616 : Nat)]) ∧ Below w.heap.size w w' :=
  (Try.bits_Mul64 x y hx hy w).mono fun e w' h => ⟨h.1, by rw [h.2]; exact Below.refl _ _⟩

theorem below_of_eq {B : Nat} {w w' : World} (h : w = w') : Below B w w' := h ▸ Below.refl _ _
theorem size7 (w : World) : Calls Try.prog 120 #[.int .i64 7] w fun e w' => e = .returned (.int .u64 7) ∧ w = w' := size_nat 7 (by omega) w
theorem size10 (w : World) : Calls Try.prog 120 #[.int .i64 10] w fun e w' => e = .returned (.int .u64 10) ∧ w = w' := size_nat 10 (by omega) w
theorem size1 (w : World) : Calls Try.prog 120 #[.int .i64 1] w fun e w' => e = .returned (.int .u64 1) ∧ w = w' := size_nat 1 (by omega) w
theorem size2 (w : World) : Calls Try.prog 120 #[.int .i64 2] w fun e w' => e = .returned (.int .u64 2) ∧ w = w' := size_nat 2 (by omega) w
theorem size3 (w : World) : Calls Try.prog 120 #[.int .i64 3] w fun e w' => e = .returned (.int .u64 3) ∧ w = w' := size_nat 3 (by omega) w
theorem mul7 (w : World) : Calls Try.prog 119 #[.int .u64 7, .int .u64 1] w fun e w' => e = .returned (.tuple #[.int .u64 0, .int .u64 7]) ∧ w' = w := Try.bits_Mul64 7 1 (by omega) (by omega) w
theorem mul10 (w : World) : Calls Try.prog 119 #[.int .u64 10, .int .u64 1] w fun e w' => e = .returned (.tuple #[.int .u64 0, .int .u64 10]) ∧ w' = w := Try.bits_Mul64 10 1 (by omega) (by omega) w
theorem div7 (w : World) : Calls Try.prog 122 #[.int .u64 0, .int .u64 7, .int .u64 2] w fun e w' => e = .returned (.tuple #[.int .u64 3, .int .u64 1]) ∧ ∃ n, w' = w.drewN n := div_small 7 2 (by omega) (by omega) (by omega) w
theorem div10 (w : World) : Calls Try.prog 122 #[.int .u64 0, .int .u64 10, .int .u64 3] w fun e w' => e = .returned (.tuple #[.int .u64 3, .int .u64 1]) ∧ ∃ n, w' = w.drewN n := div_small 10 3 (by omega) (by omega) (by omega) w
theorem sign4 (w : World) : Calls Try.prog 121 #[.bool false, .int .u64 4] w fun e w' => e = .returned (.tuple #[.int .i64 4, .bool true]) ∧ w = w' := signed_pos 4 (by omega) w
theorem sign3 (w : World) : Calls Try.prog 121 #[.bool false, .int .u64 3] w fun e w' => e = .returned (.tuple #[.int .i64 3, .bool true]) ∧ w = w' := signed_pos 3 (by omega) w
theorem away7 (w : World) : Calls Try.prog 123 #[.int .u64 3, .int .u64 1, .int .u64 2, .bool false, .int .i64 3] w fun e w' => e = .returned (.bool true) ∧ w = w' := by
  go_enter Try.func123, Try.ntmps123
  go_wp2_with fail
  go_ret
  exact ⟨rfl, rfl⟩
theorem away10 (w : World) : Calls Try.prog 123 #[.int .u64 3, .int .u64 1, .int .u64 3, .bool false, .int .i64 1] w fun e w' => e = .returned (.bool false) ∧ w = w' := by
  go_enter Try.func123, Try.ntmps123
  go_wp2_with fail
  go_ret
  exact ⟨rfl, rfl⟩
set_option maxHeartbeats 1000000 in
/-- Seven halves are four, to the even; ten thirds are three, downwards. -/
theorem seven_halves (w : World) : Calls Try.prog 109 #[.int .i64 7, .int .i64 1, .int .i64 2, .int .i64 3] w fun e w' => e = .returned (.tuple #[.int .i64 4, .bool true]) ∧ ∃ n, w' = w.drewN n := by
  go_enter Try.func109, Try.ntmps109
  go_wp2_with (go_at_call 120; first | ((with_reducible refine (size7 _).mono ?_); rintro e w' ⟨rfl, rfl⟩) | ((with_reducible refine (size1 _).mono ?_); rintro e w' ⟨rfl, rfl⟩) | ((with_reducible refine (size2 _).mono ?_); rintro e w' ⟨rfl, rfl⟩))
  refine (mul7 _).mono ?_
  rintro e w1 ⟨rfl, rfl⟩
  go_wp2_with (go_at_call 120; (with_reducible refine (size2 _).mono ?_); rintro e w' ⟨rfl, rfl⟩)
  refine (div7 _).mono ?_
  rintro e w2 ⟨rfl, n, rfl⟩
  go_wp2_with (go_at_call 120; (with_reducible refine (size2 _).mono ?_); rintro e w' ⟨rfl, rfl⟩)
  refine (away7 _).mono ?_
  rintro e w3 ⟨rfl, rfl⟩
  go_wp2_with fail
  refine (sign4 _).mono ?_
  rintro e w3 ⟨rfl, rfl⟩
  go_wp2_with fail
  go_ret2
  exact ⟨rfl, n, rfl⟩
set_option maxHeartbeats 1000000 in
theorem ten_thirds (w : World) : Calls Try.prog 109 #[.int .i64 10, .int .i64 1, .int .i64 3, .int .i64 1] w fun e w' => e = .returned (.tuple #[.int .i64 3, .bool true]) ∧ ∃ n, w' = w.drewN n := by
  go_enter Try.func109, Try.ntmps109
  go_wp2_with (go_at_call 120; first | ((with_reducible refine (size10 _).mono ?_); rintro e w' ⟨rfl, rfl⟩) | ((with_reducible refine (size1 _).mono ?_); rintro e w' ⟨rfl, rfl⟩) | ((with_reducible refine (size3 _).mono ?_); rintro e w' ⟨rfl, rfl⟩))
  refine (mul10 _).mono ?_
  rintro e w1 ⟨rfl, rfl⟩
  go_wp2_with (go_at_call 120; (with_reducible refine (size3 _).mono ?_); rintro e w' ⟨rfl, rfl⟩)
  refine (div10 _).mono ?_
  rintro e w2 ⟨rfl, n, rfl⟩
  go_wp2_with (go_at_call 120; (with_reducible refine (size3 _).mono ?_); rintro e w' ⟨rfl, rfl⟩)
  refine (away10 _).mono ?_
  rintro e w3 ⟨rfl, rfl⟩
  go_wp2_with fail
  refine (sign3 _).mono ?_
  rintro e w3 ⟨rfl, rfl⟩
  go_wp2_with fail
  go_ret2
  exact ⟨rfl, n, rfl⟩
def Ans (z n : Int) (ok : Bool) : Prop := (-9223372036854775808 ≤ z ∧ z ≤ 9223372036854775807 → n = z ∧ ok = true) ∧ (¬ (-9223372036854775808 ≤ z ∧ z ≤ 9223372036854775807) → n = 0 ∧ ok = false)
end Go.Proofs.Ytidldlhhmophjaa.Nu
namespace Go.Proofs.Ytidldlhhmophjaa.Nu
open Go.RowKit Go.Sort
set_option linter.unusedSimpArgs false
set_option linter.unusedVariables false

theorem ans_in {z : Int} (h0 : -9223372036854775808 ≤ z) (h1 : z ≤ 9223372036854775807) : Ans z z true := ⟨fun _ => ⟨rfl, rfl⟩, fun h => absurd ⟨h0, h1⟩ h⟩
theorem ans_out {z : Int} (h : z < -9223372036854775808 ∨ 9223372036854775807 < z) : Ans z 0 false := ⟨fun h' => by omega, fun _ => ⟨rfl, rfl⟩⟩
/-- Does a function answer the number, where it fits? -/
def GivesAns (z : Int) (w : World) (e : Ending) (w' : World) : Prop := ∃ n ok, e = .returned (.tuple #[.int .i64 n, .bool ok]) ∧ Ans z n ok ∧ Below w.heap.size w w'
theorem add_num (a b : Int) (a0 : -9223372036854775808 ≤ a) (a1 : a ≤ 9223372036854775807) (b0 : -9223372036854775808 ≤ b) (b1 : b ≤ 9223372036854775807) (w : World) :
    Calls Try.prog 106 #[.int .i64 a, .int .i64 b] w (GivesAns (a + b) w) := by
  obtain ⟨c, hc⟩ : ∃ c, c = IntKind.i64.wrap (a + b) := ⟨_, rfl⟩
  have y1 : IntKind.i64.wrap (a + b) = c := hc.symm
  have hc' := hc
  rw [IntKind.wrap_i64] at hc'
  by_cases h1 : c < a <;> by_cases h2 : b < 0
  · have hz : Ans (a + b) c true := by
      have : c = a + b := by omega
      rw [this]; exact ans_in (by omega) (by omega)
    clear hc hc'
    go_enter Try.func106, Try.ntmps106
    go_wp2
    all_goals go_ret2
    all_goals exact ⟨_, _, rfl, hz, Below.refl _ _⟩
  · have hz : Ans (a + b) 0 false := ans_out (by omega)
    clear hc hc'
    go_enter Try.func106, Try.ntmps106
    go_wp2
    all_goals go_ret2
    all_goals exact ⟨_, _, rfl, hz, Below.refl _ _⟩
  · have hz : Ans (a + b) 0 false := ans_out (by omega)
    clear hc hc'
    go_enter Try.func106, Try.ntmps106
    go_wp2
    all_goals go_ret2
    all_goals exact ⟨_, _, rfl, hz, Below.refl _ _⟩
  · have hz : Ans (a + b) c true := by
      have : c = a + b := by omega
      rw [this]; exact ans_in (by omega) (by omega)
    clear hc hc'
    go_enter Try.func106, Try.ntmps106
    go_wp2
    all_goals go_ret2
    all_goals exact ⟨_, _, rfl, hz, Below.refl _ _⟩
theorem sub_num (a b : Int) (a0 : -9223372036854775808 ≤ a) (a1 : a ≤ 9223372036854775807) (b0 : -9223372036854775808 ≤ b) (b1 : b ≤ 9223372036854775807) (w : World) :
    Calls Try.prog 107 #[.int .i64 a, .int .i64 b] w (GivesAns (a - b) w) := by
  obtain ⟨c, hc⟩ : ∃ c, c = IntKind.i64.wrap (a - b) := ⟨_, rfl⟩
  have y1 : IntKind.i64.wrap (a - b) = c := hc.symm
  have hc' := hc
  rw [IntKind.wrap_i64] at hc'
  by_cases h1 : a < c <;> by_cases h2 : b < 0
  · have hz : Ans (a - b) c true := by
      have : c = a - b := by omega
      rw [this]; exact ans_in (by omega) (by omega)
    clear hc hc'
    go_enter Try.func107, Try.ntmps107
    go_wp2
    all_goals go_ret2
    all_goals exact ⟨_, _, rfl, hz, Below.refl _ _⟩
  · have hz : Ans (a - b) 0 false := ans_out (by omega)
    clear hc hc'
    go_enter Try.func107, Try.ntmps107
    go_wp2
    all_goals go_ret2
    all_goals exact ⟨_, _, rfl, hz, Below.refl _ _⟩
  · have hz : Ans (a - b) 0 false := ans_out (by omega)
    clear hc hc'
    go_enter Try.func107, Try.ntmps107
    go_wp2
    all_goals go_ret2
    all_goals exact ⟨_, _, rfl, hz, Below.refl _ _⟩
  · have hz : Ans (a - b) c true := by
      have : c = a - b := by omega
      rw [this]; exact ans_in (by omega) (by omega)
    clear hc hc'
    go_enter Try.func107, Try.ntmps107
    go_wp2
    all_goals go_ret2
    all_goals exact ⟨_, _, rfl, hz, Below.refl _ _⟩
theorem neg_num (a : Int) (a0 : -9223372036854775808 ≤ a) (a1 : a ≤ 9223372036854775807) (w : World) :
    Calls Try.prog 110 #[.int .i64 a] w (GivesAns (-a) w) := by
  have G := Lib.hid (fun W : World => sub_num 0 a (by omega) (by omega) a0 a1 W)
  rw [show (0 : Int) - a = -a by omega] at G
  go_enter Try.func110, Try.ntmps110
  go_wp2_with fail
  refine (G.out _).mono ?_
  rintro e w1 ⟨n, ok, rfl, hz, hB⟩
  have HB := Lib.hid hB
  clear hB
  go_wp2_with fail
  go_ret2
  exact ⟨_, _, rfl, hz, HB.out⟩
theorem signed_ans (g : Bool) (n : Nat) (w : World) : Calls Try.prog 121 #[.bool g, .int .u64 n] w (GivesAns (if g then -(n : Int) else n) w) := by
  cases g
  · rcases Nat.lt_or_ge 9223372036854775807 n with h | h
    · exact (signed_great n h w).mono fun e w' ⟨h1, h2⟩ => ⟨_, _, h1, ans_out (by simp; omega), h2 ▸ Below.refl _ _⟩
    · exact (signed_pos n h w).mono fun e w' ⟨h1, h2⟩ => ⟨_, _, h1, ans_in (by simp <;> omega) (by simp <;> omega), h2 ▸ Below.refl _ _⟩
  · rcases Nat.lt_or_ge 9223372036854775808 n with h | h
    · exact (signed_low n h w).mono fun e w' ⟨h1, h2⟩ => ⟨_, _, h1, ans_out (by simp; omega), h2 ▸ Below.refl _ _⟩
    · exact (signed_neg n h w).mono fun e w' ⟨h1, h2⟩ => ⟨_, _, h1, ans_in (by simp <;> omega) (by simp <;> omega), h2 ▸ Below.refl _ _⟩
theorem mul_parts (a b : Int) : a * b = if (!(decide (a < 0) == decide (b < 0))) then -((a.natAbs * b.natAbs : Nat) : Int) else ((a.natAbs * b.natAbs : Nat) : Int) := by
  have e1 : a = if a < 0 then -(a.natAbs : Int) else (a.natAbs : Int) := by split <;> omega
  have e2 : b = if b < 0 then -(b.natAbs : Int) else (b.natAbs : Int) := by split <;> omega
  generalize a.natAbs = m at *
  generalize b.natAbs = n at *
  by_cases h1 : a < 0 <;> by_cases h2 : b < 0 <;> simp only [h1, h2, if_true, if_false] at e1 e2 <;> simp [h1, h2] <;> rw [e1, e2] <;> simp [Int.neg_mul, Int.mul_neg]
set_option maxRecDepth 100000 in
theorem mul_num (a b : Int) (a0 : -9223372036854775808 ≤ a) (a1 : a ≤ 9223372036854775807) (b0 : -9223372036854775808 ≤ b) (b1 : b ≤ 9223372036854775807) (w : World) :
    Calls Try.prog 108 #[.int .i64 a, .int .i64 b] w (GivesAns (a * b) w) := by
  have S1 := Lib.hid (fun W : World => size_any a a0 a1 W)
  have S2 := Lib.hid (fun W : World => size_any b b0 b1 W)
  have hp := mul_parts a b
  obtain ⟨x, hx⟩ : ∃ x, x = a.natAbs := ⟨_, rfl⟩
  obtain ⟨y, hy⟩ : ∃ y, y = b.natAbs := ⟨_, rfl⟩
  have xb : x < 18446744073709551616 := by omega
  have yb : y < 18446744073709551616 := by omega
  rw [← hx, ← hy] at hp
  rw [← hx] at S1
  rw [← hy] at S2
  have M1 := Lib.hid (fun W : World => mul64_any x y xb yb W)
  obtain ⟨g, hg⟩ : ∃ g, g = decide (a < 0) := ⟨_, rfl⟩
  obtain ⟨h, hh⟩ : ∃ g, g = decide (b < 0) := ⟨_, rfl⟩
  rw [← hg, ← hh] at hp
  obtain ⟨hi, hhi⟩ : ∃ hi, hi = x * y / 18446744073709551616 := ⟨_, rfl⟩
  obtain ⟨lo, hlo⟩ : ∃ lo, lo = x * y % 18446744073709551616 := ⟨_, rfl⟩
  rw [← hhi, ← hlo] at M1
  obtain ⟨z, hz⟩ : ∃ z, z = a * b := ⟨_, rfl⟩
  rw [← hz] at hp ⊢
  by_cases h0 : hi = 0
  · have hl : lo = x * y := by omega
    have N1 := Lib.hid (fun W : World => signed_ans (!(g == h)) lo W)
    rw [hl, ← hp, ← hl] at N1
    subst h0
    subst hg hh
    clear hp hx hy hhi hlo hl hz
    go_enter Try.func108, Try.ntmps108
    go_wp2_with (first
      | (go_at_call 120; first | ((with_reducible refine (S1.out _).mono ?_); rintro e w' ⟨rfl, rfl⟩) | ((with_reducible refine (S2.out _).mono ?_); rintro e w' ⟨rfl, rfl⟩)))
    refine (M1.out _).mono ?_
    rintro e w1 ⟨rfl, hB⟩
    have HB := Lib.hid hB
    clear hB
    go_wp2_with fail
    refine (N1.out _).mono ?_
    rintro e w2 ⟨n, ok, rfl, hz, hB2⟩
    have HC := Lib.hid (below_mono HB.out hB2 (Nat.le_refl _))
    clear hB2
    go_wp2_with fail
    go_ret2
    exact ⟨_, _, rfl, hz, HC.out⟩
  · have hz' : Ans z 0 false := ans_out (by
      have hl : 18446744073709551616 ≤ x * y := by omega
      rw [hp]; split <;> omega)
    have h1 : (hi : Int) ≠ 0 := by omega
    clear hp hx hy hhi hlo hz
    go_enter Try.func108, Try.ntmps108
    go_wp2_with (first
      | (go_at_call 120; first | ((with_reducible refine (S1.out _).mono ?_); rintro e w' ⟨rfl, rfl⟩) | ((with_reducible refine (S2.out _).mono ?_); rintro e w' ⟨rfl, rfl⟩)))
    refine (M1.out _).mono ?_
    rintro e w1 ⟨rfl, hB⟩
    have HB := Lib.hid hB
    clear hB
    go_wp2_with fail
    go_ret2
    exact ⟨_, _, rfl, hz', HB.out⟩
end Go.Proofs.Ytidldlhhmophjaa.Nu
