/- The document's digits in memory: trim, cmp. Conditions: those written at each theorem. -/
import Derived.Test.YthodlkacfcnhnaaHelp
import Derived.Test.YthodlkacfcnhnaaNuM
import Derived.BigQuiet
import Derived.Deep.QuietTactic
import Derived.RegionTactic
import Derived.ChangeAlike
import Derived.Lib.QuietBelow
namespace Go.Proofs.Ythodlkacfcnhnaa.Nu
open Go.RowKit Go.Sort
set_option linter.unusedSimpArgs false
set_option linter.unusedVariables false

/-- A slice whose cells, below block B, hold these values. -/
def SAt (B : Nat) (ao : Option Addr) (vs : List Value) (w : World) : Prop :=
  (0 < vs.length → ∃ a, ao = some a) ∧ ∀ a, ao = some a → 0 < vs.length → a.block < B ∧ ∀ i u, vs[i]? = some u → w.cell? (a.add i) = some u
theorem SAt.under {B : Nat} {ao : Option Addr} {vs : List Value} {w w' : World} (h : SAt B ao vs w) (k : Below B w w') : SAt B ao vs w' :=
  ⟨h.1, fun a e hp => ⟨(h.2 a e hp).1, fun i u hu => (k.cell (p := a.add i) (by have := (h.2 a e hp).1; unfold Addr.add; split <;> exact this)).trans ((h.2 a e hp).2 i u hu)⟩⟩
theorem SAt.mono {B B' : Nat} {ao : Option Addr} {vs : List Value} {w : World} (h : SAt B ao vs w) (hb : B ≤ B') : SAt B' ao vs w :=
  ⟨h.1, fun a e hp => ⟨Nat.lt_of_lt_of_le (h.2 a e hp).1 hb, (h.2 a e hp).2⟩⟩
theorem SAt.next {ao : Option Addr} {vs : List Value} {w w' : World} (h : SAt w.heap.size ao vs w) (k : Below w.heap.size w w') : SAt w'.heap.size ao vs w' :=
  (h.under k).mono k.size
theorem add_none (b off j : Nat) : (⟨b, off, none⟩ : Addr).add j = ⟨b, off + j, none⟩ := by
  unfold Addr.add
  split
  · rename_i h; subst h; rfl
  · rfl
/-- Digits as values. -/
def us (l : List Nat) : List Value := l.map fun (d : Nat) => Value.int .u64 (d : Int)
theorem us_length (l : List Nat) : (us l).length = l.length := by simp [us]
theorem SAt.nil (B : Nat) (ao : Option Addr) (w : World) : SAt B ao (us []) w := ⟨fun h => by simp [us] at h, fun _ _ h => by simp [us] at h⟩
theorem SAt.cells {B : Nat} {ao : Option Addr} {xs : List Nat} {w : World} (h : SAt B ao (us xs) w) (hp : 0 < xs.length) :
    ∃ b off, ao = some ⟨b, off, none⟩ ∧ b < B ∧ ∀ j, (hj : j < xs.length) → w.cell? ⟨b, off + j, none⟩ = some (.int .u64 (xs[j] : Int)) := by
  have hp' : 0 < (us xs).length := by rw [us_length]; exact hp
  obtain ⟨a, rfl⟩ := h.1 hp'
  obtain ⟨hb, hc⟩ := h.2 a rfl hp'
  have hc' : ∀ j, (hj : j < xs.length) → w.cell? (a.add j) = some (.int .u64 (xs[j] : Int)) := by
    intro j hj
    apply hc
    unfold us
    rw [List.getElem?_map, List.getElem?_eq_getElem hj]
    simp
  obtain ⟨b, off, spot⟩ := a
  cases spot with
  | some s =>
    have := hc' 0 hp
    simp [World.cell?, Addr.add] at this
    split at this <;> cases this
  | none => exact ⟨b, off, rfl, hb, fun j hj => by rw [← add_none]; exact hc' j hj⟩
theorem SAt.take {B : Nat} {ao : Option Addr} {xs : List Nat} {w : World} (h : SAt B ao (us xs) w) (k : Nat) : SAt B ao (us (xs.take k)) w := by
  have hl : 0 < (us (xs.take k)).length → 0 < (us xs).length := by
    rw [us_length, us_length, List.length_take]; omega
  refine ⟨fun hp => h.1 (hl hp), fun a e hp => ⟨(h.2 a e (hl hp)).1, fun i u hu => (h.2 a e (hl hp)).2 i u ?_⟩⟩
  unfold us at hu ⊢
  rw [List.map_take, List.getElem?_take] at hu
  split at hu
  · exact hu
  · cases hu

/-- A slice of the digits of n. -/
def MagIs (n : Nat) (v : Value) (w : World) : Prop := ∃ ao cap, v = .slice ao (dg n).length cap ∧ (dg n).length ≤ cap ∧ SAt w.heap.size ao (us (dg n)) w
theorem MagIs.next {n : Nat} {v : Value} {w w' : World} (h : MagIs n v w) (k : Below w.heap.size w w') : MagIs n v w' := by
  obtain ⟨ao, cap, h1, h2, h3⟩ := h
  exact ⟨ao, cap, h1, h2, h3.next k⟩

theorem take_zero {l : List Nat} {j : Nat} (hj : j < l.length) (h0 : l[j] = 0) (e : dval (l.take (j + 1)) = dval l) : dval (l.take j) = dval l := by
  rw [dval_take_succ hj, h0] at e
  omega
theorem take_done {l : List Nat} {j : Nat} (hl : Low l) (hj : j < l.length) (h0 : l[j] ≠ 0) (e : dval (l.take (j + 1)) = dval l) : l.take (j + 1) = dg (dval l) := by
  rw [← e, dg_of (hl.take _)]
  intro hne
  rw [List.getLast_eq_getElem]
  simp only [List.getElem_take, List.length_take]
  have e2 : min (j + 1) l.length - 1 = j := by omega
  simp only [e2]
  exact h0
theorem take_none {l : List Nat} (e : dval (l.take 0) = dval l) : dg (dval l) = [] := by
  rw [← e]; rfl

theorem SAt.set {B : Nat} {ao : Option Addr} {vs : List Value} {w : World} (h : SAt B ao vs w) (p : Addr) (u : Value) (hp : ∀ a, ao = some a → a.block ≠ p.block) : SAt B ao vs (w.setCell p u) :=
  ⟨h.1, fun a e hl => ⟨(h.2 a e hl).1, fun i x hx => by
    rw [World.cell?_setCell_other (a := p) (b := a.add i) _ _ (fun e' => hp a e (by rw [e']; unfold Addr.add; split <;> rfl))]
    exact (h.2 a e hl).2 i x hx⟩⟩
theorem MagIs.set {n : Nat} {v : Value} {w : World} (h : MagIs n v w) (p : Addr) (u : Value) (hp : ∀ a k c, v = .slice (some a) k c → a.block ≠ p.block) : MagIs n v (w.setCell p u) := by
  obtain ⟨ao, cap, rfl, h2, h3⟩ := h
  refine ⟨ao, cap, rfl, h2, ?_⟩
  have := h3.set p u (fun a e => hp a _ _ (by rw [e]))
  simpa using this
def Trimmed (B : Nat) (ao : Option Addr) (cap : Nat) (l : List Nat) (w : World) (e : Ending) (w' : World) : Prop :=
  ∃ k, k ≤ l.length ∧ l.take k = dg (dval l) ∧ e = .returned (.slice ao k cap) ∧ w = w'
set_option maxHeartbeats 400000 in
theorem trim_any {B : Nat} (ao : Option Addr) (cap : Nat) (l : List Nat) (w : World) (hl : Low l) (hn : l.length ≤ 5000) (hc : l.length ≤ cap) (h : SAt B ao (us l) w) :
    Calls Try.prog 36 #[.slice ao l.length cap] w (Trimmed B ao cap l w) := by
  rcases Nat.eq_zero_or_pos l.length with hz | hp
  · obtain rfl : l = [] := List.length_eq_zero_iff.1 hz
    have hd : Trimmed B ao cap [] w (.returned (.slice ao 0 cap)) w := ⟨0, by simp, rfl, rfl, rfl⟩
    have HD := Lib.hid hd
    clear hz h hd
    simp only [List.length_nil]
    go_enter Try.func36, Try.ntmps36
    go_wp2_with fail
    go_loop [0] (fun t => t = .slice ao 0 cap) (fun _ => 0)
    case atStart => rfl
    case round =>
      subst hrel
      go_wp2_with fail
      go_ret
      exact HD.out
  · obtain ⟨b, off, rfl, hb, hcell⟩ := h.cells hp
    have HC := Lib.hid hcell
    have H0 : Hid (dval (l.take l.length) = dval l) := Lib.hid (by rw [List.take_length])
    clear h hcell
    go_enter Try.func36, Try.ntmps36
    go_wp2_with fail
    go_loop [0] (fun t => ∃ k : Nat, k ≤ l.length ∧ t = .slice (some ⟨b, off, none⟩) k cap ∧ Hid (dval (l.take k) = dval l)) (fun t => match t with | .slice _ k _ => k | _ => 0)
    case atStart => exact ⟨l.length, Nat.le_refl _, rfl, H0⟩
    case round =>
      obtain ⟨k, hk, rfl, HK⟩ := hrel
      clear H0
      cases k with
      | zero =>
        have HD : Hid (Trimmed B (some ⟨b, off, none⟩) cap l w (.returned (.slice (some ⟨b, off, none⟩) 0 cap)) w) := Lib.hid ⟨0, by omega, by rw [take_none HK.out]; rfl, rfl, rfl⟩
        go_wp2_with fail
        go_ret
        exact HD.out
      | succ j =>
        have hc1 := HC.out j (by omega)
        by_cases h0 : l[j] = 0
        · have HK' := Lib.hid (take_zero (by omega) h0 HK.out)
          have hb0 : ((l[j] : Int) == 0) = true := by simp; omega
          rw [h0] at hc1
          clear h0 hb0
          go_wp2_with fail
          go_round
          case rel => exact ⟨j, by omega, rfl, HK'⟩
          case measure => simp
        · have HD : Hid (Trimmed B (some ⟨b, off, none⟩) cap l w (.returned (.slice (some ⟨b, off, none⟩) (j + 1) cap)) w) := Lib.hid ⟨j + 1, hk, take_done hl (by omega) h0 HK.out, rfl, rfl⟩
          obtain ⟨x, hx⟩ : ∃ x : Int, x = (l[j] : Int) := ⟨_, rfl⟩
          have hb0 : (x == 0) = false := by rw [beq_eq_false_iff_ne]; omega
          rw [← hx] at hc1
          clear h0 hx
          go_wp2_with fail
          go_ret
          exact HD.out
theorem Trimmed.mag {B : Nat} {ao : Option Addr} {cap : Nat} {l : List Nat} {w w' : World} {e : Ending} (h : SAt w.heap.size ao (us l) w) (hc : l.length ≤ cap) (ht : Trimmed B ao cap l w e w') : w = w' ∧ ∃ k, e = .returned (.slice ao k cap) ∧ MagIs (dval l) (.slice ao k cap) w := by
  obtain ⟨k, hk, hd, rfl, rfl⟩ := ht
  have hlen : (dg (dval l)).length = k := by rw [← hd, List.length_take]; omega
  refine ⟨rfl, _, rfl, ao, cap, by rw [hlen], by omega, ?_⟩
  rw [← hd]
  exact h.take k

theorem cmp_len {x y : Nat} (h : (dg x).length < (dg y).length) : cmpI x y = -1 ∧ cmpI y x = 1 := by
  have := lt_of_len h
  unfold cmpI
  constructor
  · rw [if_pos this]
  · rw [if_neg (by omega), if_pos this]
theorem cmp_less {x y i : Nat} (hx : i < (dg x).length) (hy : i < (dg y).length) (hd : (dg x).drop (i + 1) = (dg y).drop (i + 1)) (h : (dg x)[i] < (dg y)[i]) : cmpI x y = -1 ∧ cmpI y x = 1 := by
  have := lt_of_digit (dg_low x) (dg_low y) hx hy hd h
  rw [dg_val, dg_val] at this
  unfold cmpI
  constructor
  · rw [if_pos this]
  · rw [if_neg (by omega), if_pos this]
theorem cmp_same {x y : Nat} (h : dg x = dg y) : cmpI x y = 0 := by
  have : x = y := by rw [← dg_val x, h, dg_val]
  subst this; simp [cmpI]
theorem drop_same {x y i : Nat} (hx : i < (dg x).length) (hy : i < (dg y).length) (hd : (dg x).drop (i + 1) = (dg y).drop (i + 1)) (h : (dg x)[i] = (dg y)[i]) : (dg x).drop i = (dg y).drop i := by
  rw [List.drop_eq_getElem_cons hx, List.drop_eq_getElem_cons hy, hd, h]

set_option maxHeartbeats 1000000 in
theorem cmp_any (x y : Nat) (va vb : Value) (w : World) (hx : (dg x).length ≤ 1000) (hy : (dg y).length ≤ 1000) (ha : MagIs x va w) (hb : MagIs y vb w) :
    Calls Try.prog 57 #[va, vb] w fun e w' => e = .returned (.int .i64 (cmpI x y)) ∧ Below w.heap.size w w' := by
  obtain ⟨ao, ca, rfl, _, sa⟩ := ha
  obtain ⟨bo, cb, rfl, _, sb⟩ := hb
  rcases Nat.lt_trichotomy (dg x).length (dg y).length with h | h | h
  · have HC := Lib.hid (cmp_len h).1
    have h' : ((dg x).length : Int) < ((dg y).length : Int) := by omega
    have hne : (((dg x).length : Int) != ((dg y).length : Int)) = true := by simp; omega
    go_enter Try.func57, Try.ntmps57
    go_wp2_with fail
    go_ret
    exact ⟨by rw [HC.out]; rfl, Below.refl _ _⟩
  · obtain ⟨n, hn⟩ : ∃ n, n = (dg x).length := ⟨_, rfl⟩
    rw [← h, ← hn]
    have hyn : (dg y).length = n := by omega
    have HX := Lib.hid hn
    have HY := Lib.hid hyn
    have hn1 : n ≤ 1000 := by omega
    have HDr : Hid ((dg x).drop n = (dg y).drop n) := Lib.hid (by rw [List.drop_eq_nil_of_le (by omega), List.drop_eq_nil_of_le (by omega)])
    rcases Nat.eq_zero_or_pos n with hz | hp
    · subst hz
      have HC : Hid (cmpI x y = 0) := Lib.hid (cmp_same (by simpa using HDr.out))
      clear h hyn hx hy hn sa sb
      go_enter Try.func57, Try.ntmps57
      go_wp2_with fail
      go_loop [5] (fun t => t = .int .i64 (-1)) (fun _ => 0)
      case atStart => rfl
      case round =>
        subst hrel
        go_wp2_with fail
        go_ret
        exact ⟨by rw [HC.out]; rfl, Below.refl _ _⟩
    · obtain ⟨b1, o1, rfl, _, c1⟩ := sa.cells (by omega)
      obtain ⟨b2, o2, rfl, _, c2⟩ := sb.cells (by omega)
      have C1 := Lib.hid c1
      have C2 := Lib.hid c2
      have K0 := Lib.hid (Below.refl w.heap.size w)
      clear h hyn hx hy hn sa sb c1 c2
      go_enter Try.func57, Try.ntmps57
      go_wp2_with fail
      go_loopw [5] (fun t wr => ∃ k : Nat, k ≤ n ∧ t = .int .i64 ((k : Int) - 1) ∧ Hid ((dg x).drop k = (dg y).drop k) ∧ ∃ q, wr = w.drewN q) (fun t _ => (intOf t + 1).toNat)
      case atStart => exact ⟨n, Nat.le_refl _, rfl, HDr, 0, rfl⟩
      case round =>
        obtain ⟨k, hk, rfl, HK, q, rfl⟩ := hrel
        clear HDr
        cases k with
        | zero =>
          have HC : Hid (cmpI x y = 0) := Lib.hid (cmp_same (by simpa using HK.out))
          simp only [Int.natCast_zero, Int.zero_sub]
          go_wp2_with fail
          go_ret
          exact ⟨by rw [HC.out]; rfl, below_drewN K0.out _⟩
        | succ j =>
          have ej : ((j + 1 : Nat) : Int) - 1 = (j : Int) := by omega
          rw [ej]
          have hj1 : j < (dg x).length := by rw [← HX.out]; omega
          have hj2 : j < (dg y).length := by rw [HY.out]; omega
          have d1 := C1.out j hj1
          have d2 := C2.out j hj2
          have HL := fun h => Lib.hid (cmp_less hj1 hj2 HK.out h).1
          have HG := fun h => Lib.hid (cmp_less hj2 hj1 HK.out.symm h).2
          have HS := fun h => Lib.hid (drop_same hj1 hj2 HK.out h)
          obtain ⟨p, hp'⟩ : ∃ p, p = (dg x)[j] := ⟨_, rfl⟩
          obtain ⟨r, hr'⟩ : ∃ r, r = (dg y)[j] := ⟨_, rfl⟩
          rw [← hp'] at d1 HL HG HS
          rw [← hr'] at d2 HL HG HS
          clear ej hj1 hj2 hp' hr'
          rcases Nat.lt_trichotomy p r with hlt | heq | hgt
          · have HC := HL hlt
            have hi : (p : Int) < (r : Int) := by omega
            clear HL HG HS
            go_wp2_with fail
            go_quiet (fail)
            go_wp2_with fail
            go_ret
            exact ⟨by rw [HC.out]; rfl, below_drewN (below_drewN K0.out _) _⟩
          · have HC := HS heq
            have hi : ¬ (p : Int) < (r : Int) := by omega
            have hi2 : ¬ (r : Int) < (p : Int) := by omega
            clear HL HG HS heq
            go_wp2_with fail
            go_quiet (fail)
            go_wp2_with fail
            go_quiet (fail)
            go_wp2_with fail
            go_roundw
            case rel => exact ⟨j, by omega, rfl, HC, _, rfl⟩
            case measure => simp [intOf]
          · have HC := HG hgt
            have hi : ¬ (p : Int) < (r : Int) := by omega
            have hi2 : (r : Int) < (p : Int) := by omega
            clear HL HG HS
            go_wp2_with fail
            go_quiet (fail)
            go_wp2_with fail
            go_quiet (fail)
            go_wp2_with fail
            go_ret
            exact ⟨by rw [HC.out]; rfl, below_drewN (below_drewN (below_drewN K0.out _) _) _⟩
  · have HC := Lib.hid (cmp_len h).2
    have h' : ¬ ((dg x).length : Int) < ((dg y).length : Int) := by omega
    have hne : (((dg x).length : Int) != ((dg y).length : Int)) = true := by simp; omega
    go_enter Try.func57, Try.ntmps57
    go_wp2_with fail
    go_ret
    exact ⟨by rw [HC.out]; rfl, Below.refl _ _⟩
end Go.Proofs.Ythodlkacfcnhnaa.Nu
