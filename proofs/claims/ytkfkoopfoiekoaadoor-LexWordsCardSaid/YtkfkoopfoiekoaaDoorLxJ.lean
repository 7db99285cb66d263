/- The words of a text, one by one. Conditions: those written at each theorem. -/
import Derived.Test.YtkfkoopfoiekoaaDoorLxI
namespace Go.Proofs.YtkfkoopfoiekoaaDoor
open Go.RowKit Go.PlainAid
set_option linter.unusedVariables false
set_option linter.unusedSimpArgs false
theorem it_le (s : ByteArray) (j : Nat) : (it s j).1.length ≤ j := by
  induction j with
  | zero => exact Nat.le_refl _
  | succ j ih => rw [it_succ]; split <;> (try simp) <;> omega
theorem it_len (s : ByteArray) (j : Nat) : ∃ m, m ≤ j ∧ it s j = it s m ∧ (it s m).1.length = m := by
  induction j with
  | zero => exact ⟨0, Nat.le_refl _, rfl, rfl⟩
  | succ j ih =>
    obtain ⟨m, h1, h2, h3⟩ := ih
    cases h : stp s (it s j).2 with
    | none => exact ⟨m, by omega, by rw [it_succ, h]; exact h2, h3⟩
    | some q =>
      obtain ⟨x, i⟩ := q
      have e : it s (m + 1) = ((it s m).1 ++ [x], i) := by rw [it_succ, ← h2, h]
      exact ⟨m + 1, by omega, by rw [e, it_succ, h, h2], by rw [e]; simp [h3]⟩
/-- All of a text's words, as so many steps. -/
theorem fin_is (s : ByteArray) : ∃ n, n ≤ s.size ∧ fin s = it s n ∧ (it s n).1.length = n := it_len s s.size
theorem it_get (s : ByteArray) (n : Nat) : (it s n).1.length = n → ∀ i, i < n → (it s i).1.length = i ∧ ∃ k len v, (it s n).1[i]? = some ⟨k, s.extract (it s i).2 ((it s i).2 + len), v, (it s i).2⟩ ∧ (it s i).2 < s.size ∧ fs (s.data.toList.drop (it s i).2) = some (k, len, v) ∧ (it s (i + 1)).2 = (it s i).2 + len + bl false (s.data.toList.drop ((it s i).2 + len)) ∧ 1 ≤ len ∧ (it s i).2 + len ≤ s.size := by
  induction n with
  | zero => intro _ i hi; omega
  | succ n ih =>
    intro hl i hi
    have hle := it_le s n
    cases h : stp s (it s n).2 with
    | none => rw [it_succ, h] at hl; simp only at hl; omega
    | some q =>
      obtain ⟨x, j⟩ := q
      have e : it s (n + 1) = ((it s n).1 ++ [x], j) := by rw [it_succ, h]
      have hn : (it s n).1.length = n := by rw [e] at hl; simp at hl; exact hl
      rcases Nat.lt_or_ge i n with h1 | h1
      · obtain ⟨a, k, len, v, b, c⟩ := ih hn i h1
        exact ⟨a, k, len, v, by rw [e]; exact (List.getElem?_append_left (by omega)).trans b, c⟩
      · obtain rfl : i = n := by omega
        obtain ⟨h2, k, len, v, h3, h4, h5, h6, h7, _⟩ := stp_some h
        refine ⟨hn, k, len, v, ?_, h2, h3, by rw [e]; exact h5, h6, h7⟩
        rw [e]
        simp only
        rw [List.getElem?_append_right (by omega), hn, h4]
        simp
/-- A row of words: each where it stands. -/
theorem row_four {B n c : Nat} {va : Option Addr} {l : List Wd} {w : World} (h : w.ownsRow B 36 4 (.slice va n c) n (wds l)) {i : Nat} {x : Wd} (hx : l[i]? = some x) (hp : 0 < n) : ∃ a, va = some a ∧ FourAt w (a.add (i * 4)) x := by
  obtain ⟨b, hv, _, _, hc⟩ := row_cells h hp
  have hw : ∀ (l : List Wd) (i : Nat), l[i]? = some x → ∀ m y, (wd x)[m]? = some y → m < 4 → (wds l)[i * 4 + m]? = some y := by
    intro l
    induction l with
    | nil => intro i h; simp at h
    | cons z l ih =>
      intro i h m y hy hm
      cases i with
      | zero =>
        simp only [List.getElem?_cons_zero, Option.some.injEq] at h
        subst h
        show (wd z ++ wds l)[0 * 4 + m]? = some y
        rw [List.getElem?_append_left (by simp [wd]; omega), Nat.zero_mul, Nat.zero_add]
        exact hy
      | succ i =>
        simp only [List.getElem?_cons_succ] at h
        show (wd z ++ wds l)[(i + 1) * 4 + m]? = some y
        rw [List.getElem?_append_right (by simp [wd]; omega)]
        have := ih i h m y hy hm
        rw [show (i + 1) * 4 + m - (wd z).length = i * 4 + m by simp [wd]; omega]
        exact this
  have ea : (⟨b, 0, none⟩ : Addr).add (i * 4) = ⟨b, i * 4, none⟩ := by unfold Addr.add; split <;> simp_all
  refine ⟨⟨b, 0, none⟩, hv, ?_⟩
  rw [ea]
  exact ⟨hc _ _ (hw l i hx 0 _ rfl (by decide)), hc _ _ (hw l i hx 1 _ rfl (by decide)), hc _ _ (hw l i hx 2 _ rfl (by decide)), hc _ _ (hw l i hx 3 _ rfl (by decide))⟩
set_option maxRecDepth 100000 in
theorem words_long (s : ByteArray) (hs : s.size ≤ maxLen) (h : (4000 : Int) < (s.size : Int)) (w : World) : Calls Tryd.prog 7 #[.string s] w fun e w' => e = .returned (.tuple #[.slice none 0 0, .int .i64 0, .int .i64 4]) ∧ w = w' := by
  have hs63 : s.size < 9223372036854775808 := by unfold maxLen at hs; omega
  go_enter Tryd.func7, Tryd.ntmps7
  go_wp2_with fail
  go_ret3
  exact ⟨rfl, rfl⟩
end Go.Proofs.YtkfkoopfoiekoaaDoor
