/- A word with a blank behind it is that word. Plain. Conditions: those written at each theorem. -/
import Derived.Test.YtkfkoopfoiekoaaDoorLxJ
namespace Go.Proofs.YtkfkoopfoiekoaaDoor
open Go.RowKit Go.PlainAid
set_option linter.unusedVariables false
set_option linter.unusedSimpArgs false
theorem rn_all {p : Int → Bool} : ∀ (l : List UInt8), (∀ c ∈ l, p (c.toNat : Int) = true) → ∀ (b : UInt8) (r : List UInt8), p (b.toNat : Int) = false → rn p (l ++ b :: r) = l.length
  | [], _, b, r, hb => by simp [rn, hb]
  | c :: l, h, b, r, hb => by
    show (if p (c.toNat : Int) then rn p (l ++ b :: r) + 1 else 0) = l.length + 1
    rw [if_pos (h c (by simp)), rn_all l (fun x hx => h x (by simp [hx])) b r hb]
theorem rn_take {p : Int → Bool} : ∀ (l : List UInt8), ∀ c ∈ l.take (rn p l), p (c.toNat : Int) = true
  | [], c, h => by simp at h
  | x :: l, c, h => by
    unfold rn at h
    split at h
    · rename_i hx
      rw [List.take_succ_cons] at h
      rcases List.mem_cons.1 h with rfl | h
      · exact hx
      · exact rn_take l c h
    · simp at h
theorem take_rn {p : Int → Bool} (l : List UInt8) (b : UInt8) (r : List UInt8) (hb : p (b.toNat : Int) = false) : rn p (l.take (rn p l) ++ b :: r) = rn p l := by
  rw [rn_all _ (rn_take l) b r hb, List.length_take]
  have := rn_le p l
  omega
theorem pd_len {s : ByteArray} {n : Int} (h : pd s = some n) : ∃ y m d, Cal.Is n y m d ∧ s = dayStr y m d := by
  have := pd_is s
  rw [h] at this
  exact this
theorem pd_bytes {l : List UInt8} {n : Int} (h : pd ⟨l.toArray⟩ = some n) : bt ⟨l.toArray⟩ 4 = 45 ∧ ∀ i, i < 4 → 48 ≤ bt ⟨l.toArray⟩ i := by
  obtain ⟨y, m, d, _, hs⟩ := pd_len h
  rw [hs]
  refine ⟨dayStr_4 _ _ _, fun i hi => ?_⟩
  have : i = 0 ∨ i = 1 ∨ i = 2 ∨ i = 3 := by omega
  rcases this with rfl | rfl | rfl | rfl
  · rw [dayStr_0]; omega
  · rw [dayStr_1]; omega
  · rw [dayStr_2]; omega
  · rw [dayStr_3]; omega
theorem bt_mk {l : List UInt8} {i : Nat} {c : UInt8} (h : l[i]? = some c) : bt ⟨l.toArray⟩ i = (c.toNat : Int) := by
  obtain ⟨hi, hc⟩ := List.getElem?_eq_some_iff.1 h
  exact (bt_list (s := ⟨l.toArray⟩) (l := []) (r := l.drop (i + 1)) (c := c) (by
    show (l.toArray.toList).drop i = _
    rw [List.toList_toArray, List.drop_eq_getElem_cons hi, hc])).1
theorem isF32 : isF (((32 : UInt8).toNat : Nat) : Int) = false := by decide
theorem isF_ge {c : Int} (h : isF c = true) : c ≠ 45 := by rintro rfl; revert h; decide
/-- No day begins with letters, digits and a blank. -/
theorem dy_none {x : List UInt8} (hx : ∀ c ∈ x, isF (c.toNat : Int) = true) (r : List UInt8) : dy (x ++ 32 :: r) = none := by
  unfold dy
  split
  · rfl
  · rename_i hn
    cases hp : pd ⟨((x ++ 32 :: r).take 10).toArray⟩ with
    | none => rfl
    | some n =>
      exfalso
      obtain ⟨h4, h03⟩ := pd_bytes hp
      have hlen : 10 ≤ (x ++ (32 : UInt8) :: r).length := by omega
      rcases Nat.lt_or_ge 4 x.length with hl | hl
      · have hg : ((x ++ (32 : UInt8) :: r).take 10)[4]? = some x[4] := by
          rw [List.getElem?_take_of_lt (by omega), List.getElem?_append_left hl, List.getElem?_eq_getElem hl]
        rw [bt_mk hg] at h4
        exact isF_ge (hx _ (List.getElem_mem hl)) h4
      · have hg : ((x ++ (32 : UInt8) :: r).take 10)[x.length]? = some 32 := by
          rw [List.getElem?_take_of_lt (by omega), List.getElem?_append_right (Nat.le_refl _)]
          simp
        have hb := bt_mk hg
        have h32 : (((32 : UInt8).toNat : Nat) : Int) = 32 := rfl
        rw [h32] at hb
        rcases Nat.lt_or_ge x.length 4 with h | h
        · have := h03 x.length h
          omega
        · have h5 : x.length = 4 := by omega
          rw [h5] at hb
          omega
theorem take_app {α : Type} {l : List α} {n : Nat} (h : n ≤ l.length) (r : List α) : (l.take n ++ r).take n = l.take n := by
  rw [List.take_append_of_le_length (by rw [List.length_take]; omega), List.take_take, Nat.min_self]
theorem drop_app {α : Type} {l : List α} {n : Nat} (h : n ≤ l.length) (r : List α) : (l.take n ++ r).drop n = r := by
  have h1 : (l.take n).length = n := by rw [List.length_take]; omega
  rw [show (l.take n ++ r).drop n = (l.take n ++ r).drop (l.take n).length from by rw [h1]]
  exact List.drop_left
/-- The word with a blank behind it. -/
theorem fs_blank {l : List UInt8} {k : Int} {len : Nat} {n : Int} (h : fs l = some (k, len, n)) (r : List UInt8) : fs (l.take len ++ 32 :: r) = some (k, len, n) := by
  have hl := fs_len h
  cases l with
  | nil => simp [fs] at h
  | cons c q =>
    obtain ⟨m, rfl⟩ : ∃ m, len = m + 1 := ⟨len - 1, by omega⟩
    have e : (c :: q).take (m + 1) ++ 32 :: r = c :: (q.take m ++ 32 :: r) := rfl
    unfold fs at h
    dsimp only at h
    rw [e]
    unfold fs
    dsimp only
    rw [← e]
    split at h
    · rename_i hd
      rw [if_pos hd]
      split at h
      · rename_i v hv
        simp only [Option.some.injEq, Prod.mk.injEq] at h
        obtain ⟨h1, h2, h3⟩ := h
        have hm : m + 1 = 10 := by omega
        rw [hm]
        have hlen := dy_size hv
        have : dy ((c :: q).take 10 ++ 32 :: r) = some v := by
          unfold dy at hv ⊢
          split at hv
          · cases hv
          · rw [if_neg, take_app hlen]
            · exact hv
            · rw [drop_app hlen, List.length_append, List.length_take]
              have : rn isF (32 :: r) = 0 := by unfold rn; rw [if_neg (by rw [isF32]; decide)]
              omega
        rw [this]
        simp only [← h1, ← h3]
      · rename_i hv
        split at h
        · rename_i v hnu
          simp only [Option.some.injEq, Prod.mk.injEq] at h
          obtain ⟨h1, h2, h3⟩ := h
          rw [← h2, dy_none (rn_take (c :: q)) r]
          have hr := take_rn (c :: q) 32 r isF32
          have : nu ((c :: q).take (rn isF (c :: q)) ++ 32 :: r) = some v := by
            unfold nu at hnu ⊢
            rw [hr, take_app (rn_le isF _)]
            exact hnu
          rw [this, hr]
          simp only [← h1, ← h3]
        · cases h
    · rename_i hd
      rw [if_neg hd]
      split at h
      · rename_i ha
        rw [if_pos ha]
        split at h
        · rename_i hn
          simp only [Option.some.injEq, Prod.mk.injEq] at h
          obtain ⟨h1, h2, h3⟩ := h
          rw [← h2, take_rn (c :: q) 32 r isF32, take_app (rn_le isF _), if_pos hn, h1, h3]
        · cases h
      · rename_i ha
        rw [if_neg ha]
        split at h
        · rename_i h2
          simp only [Option.some.injEq, Prod.mk.injEq] at h
          obtain ⟨g1, g2, g3⟩ := h
          have hm : m = 1 := by omega
          subst hm
          cases q with
          | nil => simp at hl
          | cons d q =>
            rw [if_pos (by
              unfold two at h2 ⊢
              simpa [Lib.hasPrefix, List.isPrefixOf] using h2), ← g1, ← g3]
        · rename_i h2
          split at h
          · rename_i hs
            simp only [Option.some.injEq, Prod.mk.injEq] at h
            obtain ⟨g1, g2, g3⟩ := h
            have hm : m = 0 := by omega
            subst hm
            rw [if_neg (by
              unfold two
              simp [Lib.hasPrefix, List.isPrefixOf]), if_pos hs, ← g1, ← g3]
          · cases h
/-- No word begins with a blank. -/
theorem fs_head {c : UInt8} {r : List UInt8} {k : Int} {len : Nat} {n : Int} (h : fs (c :: r) = some (k, len, n)) : bk false (c.toNat : Int) = false := by
  have hc : c.toNat < 256 := c.toNat_lt
  by_cases hb : bk false (c.toNat : Int) = false
  · exact hb
  · exfalso
    have hx : c.toNat = 10 ∨ c.toNat = 35 ∨ c.toNat = 32 ∨ c.toNat = 9 := by
      simp [bk] at hb
      omega
    have hcc : c = 10 ∨ c = 35 ∨ c = 32 ∨ c = 9 := by
      rcases hx with h | h | h | h
      · exact .inl (UInt8.toNat_inj.1 h)
      · exact .inr (.inl (UInt8.toNat_inj.1 h))
      · exact .inr (.inr (.inl (UInt8.toNat_inj.1 h)))
      · exact .inr (.inr (.inr (UInt8.toNat_inj.1 h)))
    have h2 : two (c :: r) = false := by rcases hcc with rfl | rfl | rfl | rfl <;> rfl
    have h3 : isD (c.toNat : Int) = false ∧ isL (c.toNat : Int) = false ∧ sgn (c.toNat : Int) = false := by rcases hcc with rfl | rfl | rfl | rfl <;> decide
    unfold fs at h
    dsimp only at h
    rw [h2, h3.1, h3.2.1, h3.2.2] at h
    simp at h
end Go.Proofs.YtkfkoopfoiekoaaDoor
