/- Plain: what is read of a text with digits behind a point is just the number whose text it is. -/
import Derived.Test.YtkfkoopfoiekoaaDoorAmM
namespace Go.Proofs.YtkfkoopfoiekoaaDoor
set_option linter.unusedVariables false

/-- What is read of the pieces of a text. -/
def parseW (neg : Bool) (whole behind : List UInt8) (point : Bool) (d : Nat) : Option Int :=
  if whole = [] ∨ point ≠ decide (0 < d) ∨ behind.length ≠ d then none
  else if whole.head? = some 48 ∧ 1 < whole.length then none
  else match readL whole 0 with
    | none => none
    | some a => match readL behind a with
      | none => none
      | some n => if neg = true ∧ n = 0 then none else if neg = true then some (-(n : Int)) else if n ≤ 9223372036854775807 then some (n : Int) else none
/-- The pieces of a text. -/
structure Pieces (s : List UInt8) (neg : Bool) (whole behind : List UInt8) (point : Bool) : Prop where
  all : s = (if neg = true then [45] else []) ++ (whole ++ if point = true then 46 :: behind else [])
  sign : neg = false → s.head? ≠ some 45
  dot : 46 ∉ whole
  rest : point = false → behind = []
abbrev in64 (x : Int) : Prop := -9223372036854775808 ≤ x ∧ x ≤ 9223372036854775807
theorem body_head (m d : Nat) : ∃ c l, body m d = c :: l ∧ 48 ≤ c.toNat ∧ c.toNat ≤ 57 := by
  have hw := wide_le m d
  obtain ⟨k, hk⟩ : ∃ k, wide m d - d = k + 1 := ⟨wide m d - d - 1, by omega⟩
  refine ⟨_, _, by unfold body; rw [hk, rt, List.cons_append], rt_dig (k + 1) (m / 10 ^ d) _ (by rw [rt]; exact List.mem_cons_self)⟩
theorem dot_split : ∀ {a b r r' : List UInt8}, 46 ∉ a → 46 ∉ b → a ++ 46 :: r = b ++ 46 :: r' → a = b ∧ r = r'
  | [], [], r, r', _, _, h => by simpa using h
  | [], y :: b, r, r', _, hb, h => by simp at h; exact absurd (by rw [h.1]; exact List.mem_cons_self) hb
  | x :: a, [], r, r', ha, _, h => by simp at h; exact absurd (by rw [← h.1]; exact List.mem_cons_self) ha
  | x :: a, y :: b, r, r', ha, hb, h => by
    simp only [List.cons_append, List.cons.injEq] at h
    obtain ⟨h1, h2⟩ := dot_split (fun m => ha (List.mem_cons_of_mem _ m)) (fun m => hb (List.mem_cons_of_mem _ m)) h.2
    exact ⟨by rw [h.1, h1], h2⟩
theorem rt_no_dot (i m : Nat) : (46 : UInt8) ∉ rt i m := fun h => by have := rt_dig i m 46 h; simp at this
theorem tail_no_dot {a b : List UInt8} {t : Bool} {r r' : List UInt8} {u : Bool} (ha : 46 ∉ a) (hb : 46 ∉ b) (h : (a ++ if t = true then 46 :: r else []) = (b ++ if u = true then 46 :: r' else [])) : t = u ∧ a = b ∧ (t = true → r = r') := by
  cases t <;> cases u
  · simpa using h
  · simp at h; exact absurd (by rw [h]; simp) ha
  · simp at h; exact absurd (by rw [← h]; simp) hb
  · simp only [if_true] at h
    obtain ⟨h1, h2⟩ := dot_split ha hb h
    exact ⟨rfl, h1, fun _ => h2⟩
theorem pieces_txt {s : List UInt8} {neg : Bool} {whole behind : List UInt8} {point : Bool} (h : Pieces s neg whole behind point) {x : Int} {d : Nat} (hs : s = txt x d) :
    neg = decide (x < 0) ∧ point = decide (0 < d) ∧ whole = rt (wide x.natAbs d - d) (x.natAbs / 10 ^ d) ∧ behind = rt d x.natAbs := by
  obtain ⟨c, l, hb, hc⟩ := body_head x.natAbs d
  have hn : neg = decide (x < 0) := by
    by_cases hx : x < 0
    · cases neg with
      | true => simp [hx]
      | false =>
        have := h.sign rfl
        rw [hs] at this
        unfold txt at this
        rw [if_pos hx] at this
        exact absurd rfl this
    · cases neg with
      | false => simp [hx]
      | true =>
        have := h.all
        rw [hs] at this
        unfold txt at this
        rw [if_neg hx, if_pos rfl, hb] at this
        simp at this
        rw [this.1] at hc
        simp at hc
  have ha := h.all
  rw [hs] at ha
  unfold txt at ha
  have e : (if neg = true then [45] else []) = (if x < 0 then [45] else ([] : List UInt8)) := by
    rw [hn]
    by_cases hx : x < 0
    · simp [hx]
    · simp [hx]
  rw [e, List.append_cancel_left_eq] at ha
  unfold body at ha
  have e2 : (if d = 0 then ([] : List UInt8) else 46 :: rt d x.natAbs) = if decide (0 < d) = true then 46 :: rt d x.natAbs else [] := by
    by_cases hd : d = 0
    · simp [hd]
    · simp [hd, Nat.pos_of_ne_zero hd]
  rw [e2] at ha
  obtain ⟨h1, h2, h3⟩ := tail_no_dot (rt_no_dot _ _) h.dot ha
  refine ⟨hn, h1.symm, h2.symm, ?_⟩
  by_cases hd : d = 0
  · subst hd
    rw [h.rest (by rw [← h1]; simp)]
    rfl
  · exact (h3 (by simp; omega)).symm
theorem parse_iff {s : List UInt8} {neg : Bool} {whole behind : List UInt8} {point : Bool} (h : Pieces s neg whole behind point) (d : Nat) (x : Int) :
    parseW neg whole behind point d = some x ↔ in64 x ∧ s = txt x d := by
  constructor
  · intro hp
    unfold parseW at hp
    split at hp
    · cases hp
    rename_i hc
    split at hp
    · cases hp
    rename_i hz
    split at hp
    · cases hp
    rename_i a hra
    split at hp
    · cases hp
    rename_i n hrn
    split at hp
    · cases hp
    rename_i hnz
    obtain ⟨a1, a2, a3⟩ := readL_some _ _ _ hra
    obtain ⟨b1, b2, b3⟩ := readL_some _ _ _ hrn
    have hw : whole ≠ [] := fun e => hc (.inl e)
    have hpt : point = decide (0 < d) := Classical.byContradiction fun e => hc (.inr (.inl e))
    have hbl : behind.length = d := Classical.byContradiction fun e => hc (.inr (.inr e))
    rw [hbl] at b1 b2
    obtain ⟨k, hk⟩ : ∃ k, whole.length = k + 1 := ⟨whole.length - 1, by have := List.length_pos_iff.2 hw; omega⟩
    have ha10 : a < 10 ^ (k + 1) := by
      rw [hk] at a1
      rcases Nat.lt_or_ge a (10 ^ (k + 1)) with hl | hg
      · exact hl
      · have := Nat.div_pos hg (Nat.pow_pos (by omega)); omega
    have hn10 : n < 10 ^ (k + 1 + d) := by
      rw [← b1] at ha10
      rw [Nat.div_lt_iff_lt_mul (Nat.pow_pos (by omega)), ← Nat.pow_add] at ha10
      exact ha10
    have hwide : wide n d = k + 1 + d := by
      unfold wide
      have h1 := nDigits_le (m := n) (k := k + 1 + d) (by omega) hn10
      rcases Nat.eq_zero_or_pos k with hk0 | hk0
      · subst hk0; omega
      · have hne : whole.head? ≠ some 48 := fun e => hz ⟨e, by omega⟩
        rw [a2, hk, rt] at hne
        have hd1 : a / 10 ^ k % 10 ≠ 0 := fun e => hne (by
          simp only [List.head?_cons, Option.some.injEq]
          apply UInt8.toNat_inj.1
          rw [dg_toNat, e]; rfl)
        have hge : 10 ^ k ≤ a := by
          rcases Nat.lt_or_ge a (10 ^ k) with hl | hg
          · rw [Nat.div_eq_of_lt hl] at hd1; exact absurd rfl hd1
          · exact hg
        have hge2 : 10 ^ (k + d) ≤ n := by
          rw [Nat.pow_add]
          rw [← b1] at hge
          exact (Nat.le_div_iff_mul_le (Nat.pow_pos (by omega))).1 hge
        have := Lib.nDigits_unique (k + d) n hge2 (by rw [show k + d + 1 = k + 1 + d by omega]; exact hn10)
        omega
    have hle := b3 (a3 (by omega))
    have hs : s = (if neg = true then [45] else []) ++ body n d := by
      rw [h.all]
      congr 1
      unfold body
      rw [hwide, show k + 1 + d - d = k + 1 by omega, b1, ← hk, ← a2]
      congr 1
      rw [hpt]
      by_cases hd : d = 0
      · simp [hd]
      · rw [if_pos (by simp; omega), if_neg hd, ← b2]
    cases neg with
    | true =>
      simp only [if_true] at hp
      injection hp with hp
      subst hp
      refine ⟨⟨by omega, by omega⟩, ?_⟩
      have h0 : n ≠ 0 := fun e => hnz ⟨rfl, e⟩
      rw [hs]
      unfold txt
      rw [if_pos rfl, if_pos (by omega), show (-(n : Int)).natAbs = n by omega]
    | false =>
      simp only [Bool.false_eq_true, if_false] at hp
      split at hp
      · injection hp with hp
        subst hp
        refine ⟨⟨by omega, by omega⟩, ?_⟩
        rw [hs]
        unfold txt
        rw [if_neg (by simp), if_neg (by omega), show ((n : Int)).natAbs = n by omega]
      · cases hp
  · rintro ⟨hx, hs⟩
    obtain ⟨h1, h2, h3, h4⟩ := pieces_txt h hs
    obtain ⟨m, hm⟩ : ∃ m, m = x.natAbs := ⟨_, rfl⟩
    rw [← hm] at h3 h4
    have hwl := wide_le m d
    have hwt := wide_lt m d
    obtain ⟨k, hk⟩ : ∃ k, wide m d - d = k + 1 := ⟨wide m d - d - 1, by omega⟩
    rw [hk] at h3
    have hq : m / 10 ^ d < 10 ^ (k + 1) := by
      rw [Nat.div_lt_iff_lt_mul (Nat.pow_pos (by omega)), ← Nat.pow_add, show k + 1 + d = wide m d by omega]
      exact hwt
    have hm63 : m ≤ 9223372036854775808 := by omega
    have hqm : m / 10 ^ d ≤ m := Nat.div_le_self _ _
    have r1 : readL whole 0 = some (m / 10 ^ d) := by
      rw [h3]
      have := readL_rt (m / 10 ^ d) (k + 1) 0 (by rw [Nat.mod_eq_of_lt hq]; omega)
      rw [this, Nat.mod_eq_of_lt hq]; simp
    have e3 : m / 10 ^ d * 10 ^ d + m % 10 ^ d = m := by
      have := Nat.div_add_mod m (10 ^ d)
      rw [Nat.mul_comm] at this
      exact this
    have r2 : readL behind (m / 10 ^ d) = some m := by
      rw [h4]
      have := readL_rt m d (m / 10 ^ d) (by rw [e3]; exact hm63)
      rw [this, e3]
    unfold parseW
    rw [if_neg (by
      rw [h2, h3, h4]
      simp [rt, rt_len])]
    rw [if_neg (by
      rintro ⟨e1, e2⟩
      rw [h3, rt_len] at e2
      rw [h3, rt] at e1
      simp only [List.head?_cons, Option.some.injEq] at e1
      have e4 := congrArg UInt8.toNat e1
      rw [dg_toNat] at e4
      have hm0 : m ≠ 0 := fun e => by
        subst e
        have : wide 0 d = d + 1 := by unfold wide; rw [Lib.nDigits_small (by omega)]; omega
        omega
      have hN : Lib.nDigits m = d + k + 1 := by unfold wide at hk; omega
      have hge := nDigits_ge hm0
      rw [hN, show d + k + 1 - 1 = d + k by omega, Nat.pow_add] at hge
      have hg2 : 10 ^ k ≤ m / 10 ^ d := (Nat.le_div_iff_mul_le (Nat.pow_pos (by omega))).2 (by rw [Nat.mul_comm]; exact hge)
      have hg3 : 1 ≤ m / 10 ^ d / 10 ^ k := Nat.div_pos hg2 (Nat.pow_pos (by omega))
      have hg4 : m / 10 ^ d / 10 ^ k < 10 := by
        rw [Nat.div_lt_iff_lt_mul (Nat.pow_pos (by omega))]
        rw [Nat.pow_succ] at hq
        omega
      rw [show (48 : UInt8).toNat = 48 from rfl] at e4
      omega)]
    rw [r1]
    dsimp only
    rw [r2]
    dsimp only
    rw [h1]
    by_cases hn : x < 0
    · simp only [hn, decide_true, true_and, if_true]
      rw [if_neg (by omega)]
      congr 1; omega
    · simp only [hn, decide_false, Bool.false_eq_true, false_and, if_false]
      rw [if_pos (by omega)]
      congr 1; omega
theorem txt_inj {x y : Int} {d : Nat} (h : txt x d = txt y d) (hx : in64 x) (hy : in64 y) : x = y := by
  have e := congrArg (fun l => cvL l 0) h
  simp only [cvL_txt] at e
  have hh : (x < 0 ↔ y < 0) := by
    obtain ⟨c, l, hb, hc⟩ := body_head x.natAbs d
    obtain ⟨c', l', hb', hc'⟩ := body_head y.natAbs d
    unfold txt at h
    rw [hb, hb'] at h
    constructor
    · intro h1
      rcases Int.lt_or_le y 0 with h2 | h2
      · exact h2
      · rw [if_pos h1, if_neg (by omega)] at h
        simp at h
        rw [← h.1] at hc'; simp at hc'
    · intro h1
      rcases Int.lt_or_le x 0 with h2 | h2
      · exact h2
      · rw [if_neg (by omega), if_pos h1] at h
        simp at h
        rw [h.1] at hc; simp at hc
  omega
end Go.Proofs.YtkfkoopfoiekoaaDoor
