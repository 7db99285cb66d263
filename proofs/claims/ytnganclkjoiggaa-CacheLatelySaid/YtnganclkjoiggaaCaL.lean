/- What was used last, each once, as lists. No conditions beyond those written. -/
import Derived.Test.YtnganclkjoiggaaHelp
namespace Go.Proofs.Ytnganclkjoiggaa
set_option linter.unusedVariables false
set_option linter.unusedSimpArgs false
/-- Each once, where it stands first. -/
def nub : List Int → List Int
  | [] => []
  | x :: r => x :: (nub r).filter (fun y => decide (y ≠ x))
/-- The last n that were used, eldest first. -/
def lately (n : Nat) (p : List Int) : List Int := ((nub p.reverse).take n).reverse
theorem lately_len (n : Nat) (p : List Int) : (lately n p).length ≤ n := by unfold lately; simp; omega
theorem lately_snoc (n : Nat) (p : List Int) (x : Int) : lately n (p ++ [x]) = ((x :: (nub p.reverse).filter (fun y => decide (y ≠ x))).take n).reverse := by
  unfold lately; rw [List.reverse_append]; rfl
theorem filter_out (l : List Int) (x : Int) (h : x ∉ l) : l.filter (fun y => decide (y ≠ x)) = l := by
  rw [List.filter_eq_self]
  intro a ha
  have : a ≠ x := fun e => h (e ▸ ha)
  simpa using this
theorem lately_take (n : Nat) (p : List Int) : (nub p.reverse).take n = (lately n p).reverse := by unfold lately; rw [List.reverse_reverse]
theorem take_self {α : Type} {l m : List α} (h : l = m) : l.take m.length = m := by rw [h, List.take_length]
/-- the rest behind the first n that are taken: either all n are there, or nothing is left -/
theorem lately_drop (n : Nat) (p : List Int) : ∃ D, nub p.reverse = (lately n p).reverse ++ D ∧ ((lately n p).length = n ∨ D = []) := by
  refine ⟨(nub p.reverse).drop n, by rw [← lately_take, List.take_append_drop], ?_⟩
  rcases Nat.lt_or_ge (nub p.reverse).length n with h | h
  · right; exact List.drop_eq_nil_of_le (by omega)
  · left; unfold lately; simp; omega
theorem take_part {A D : List Int} {k : Nat} (h : A.length = k ∨ (A.length ≤ k ∧ D = [])) : (A ++ D).take k = A := by
  rcases h with h | ⟨h, rfl⟩
  · exact List.take_left' h
  · rw [List.append_nil, List.take_of_length_le h]
theorem lately_yes {n : Nat} {p : List Int} {x : Int} {KA KT : List Int} (hn : 1 ≤ n) (h : lately n p = KA ++ x :: KT) (nd : (lately n p).Nodup) : lately n (p ++ [x]) = KA ++ KT ++ [x] := by
  obtain ⟨D, hD, hl⟩ := lately_drop n p
  rw [lately_snoc, hD, h]
  have nd' := nd
  rw [h] at nd' hl
  rw [List.nodup_append] at nd'
  obtain ⟨_, n2, n3⟩ := nd'
  rw [List.nodup_cons] at n2
  have hxA : x ∉ KA := fun hx => n3 x hx x (List.mem_cons_self ..) rfl
  have e : ((KA ++ x :: KT).reverse ++ D).filter (fun y => decide (y ≠ x)) = (KT.reverse ++ KA.reverse) ++ D.filter (fun y => decide (y ≠ x)) := by
    rw [List.filter_append, List.reverse_append, List.reverse_cons, List.filter_append, List.filter_append, filter_out KT.reverse x (by simpa using n2.1), filter_out KA.reverse x (by simpa using hxA)]
    simp
  rw [e]
  obtain ⟨m, rfl⟩ : ∃ m, n = m + 1 := ⟨n - 1, by omega⟩
  rw [List.take_succ_cons, take_part]
  · simp
  · have hh := congrArg List.length h
    have := lately_len (m + 1) p
    simp only [List.length_append, List.length_cons, List.length_reverse] at hl hh ⊢
    rcases hl with hl | rfl
    · left; omega
    · right; exact ⟨by omega, rfl⟩
theorem lately_fits {n : Nat} {p : List Int} {x : Int} (h : x ∉ lately n p) (hl : (lately n p).length + 1 ≤ n) : lately n (p ++ [x]) = lately n p ++ [x] := by
  obtain ⟨D, hD, hh⟩ := lately_drop n p
  obtain rfl : D = [] := by rcases hh with h | h; · omega
                            · exact h
  rw [lately_snoc, hD, List.append_nil, filter_out _ x (by simpa using h), List.take_of_length_le (by simp; omega)]
  simp
theorem lately_out {n : Nat} {p : List Int} {x : Int} (h : x ∉ lately n p) (hn : 1 ≤ n) (hl : n < (lately n p).length + 1) {a : Int} {t : List Int} (ht : lately n p ++ [x] = a :: t) : lately n (p ++ [x]) = t := by
  obtain ⟨D, hD, hh⟩ := lately_drop n p
  have hle := lately_len n p
  have hlen : (lately n p).length = n := by omega
  cases hk : lately n p with
  | nil => rw [hk] at hlen; simp at hlen; omega
  | cons b k =>
    rw [hk] at ht
    simp only [List.cons_append, List.cons.injEq] at ht
    obtain ⟨rfl, rfl⟩ := ht
    have hxk : x ∉ k := fun hx => h (by rw [hk]; exact List.mem_cons_of_mem _ hx)
    have hxb : b ≠ x := fun e => h (by rw [hk, e]; exact List.mem_cons_self ..)
    rw [lately_snoc, hD, hk, List.filter_append, List.reverse_cons, List.filter_append, filter_out k.reverse x (by simpa using hxk)]
    obtain ⟨m, rfl⟩ : ∃ m, n = m + 1 := ⟨n - 1, by omega⟩
    rw [hk] at hlen
    simp only [List.length_cons] at hlen
    rw [List.take_succ_cons, List.append_assoc, List.take_left' (by simp; omega)]
    simp
/-- what the second loop still adds -/
def more (n : Nat) (acc r : List Int) : List Int := ((nub r).filter (fun y => decide (y ∉ acc))).take (n - acc.length)
theorem more_start (n : Nat) (r : List Int) : [] ++ more n [] r = (nub r).take n := by
  unfold more
  simp only [List.nil_append, List.length_nil, Nat.sub_zero]
  rw [List.filter_eq_self.2 (fun y _ => by simp)]
theorem more_end (n : Nat) (acc : List Int) : acc ++ more n acc [] = acc := by unfold more nub; simp
theorem more_full {n : Nat} {acc r : List Int} (h : n ≤ acc.length) : acc ++ more n acc r = acc := by
  unfold more
  rw [show n - acc.length = 0 by omega]; simp
theorem more_old {n : Nat} {acc r : List Int} {x : Int} (h : x ∈ acc) : acc ++ more n acc (x :: r) = acc ++ more n acc r := by
  unfold more
  have e : nub (x :: r) = x :: (nub r).filter (fun y => decide (y ≠ x)) := rfl
  rw [e, List.filter_cons, if_neg (by simpa using h), List.filter_filter]
  congr 2
  apply List.filter_congr
  intro y _
  by_cases hy : y ∈ acc
  · simp [hy]
  · have : y ≠ x := fun e => hy (e ▸ h)
    simp [hy, this]
theorem more_new {n : Nat} {acc r : List Int} {x : Int} (h : x ∉ acc) (hl : acc.length < n) : acc ++ more n acc (x :: r) = (acc ++ [x]) ++ more n (acc ++ [x]) r := by
  unfold more
  have e : nub (x :: r) = x :: (nub r).filter (fun y => decide (y ≠ x)) := rfl
  rw [e, List.filter_cons, if_pos (by simpa using h), List.filter_filter]
  obtain ⟨m, hm⟩ : ∃ m, n - acc.length = m + 1 := ⟨n - acc.length - 1, by omega⟩
  rw [hm, List.take_succ_cons, List.append_assoc]
  have e2 : n - (acc ++ [x]).length = m := by simp; omega
  rw [e2]
  have e3 : (nub r).filter (fun y => decide (y ∉ acc) && decide (y ≠ x)) = (nub r).filter (fun y => decide (y ∉ acc ++ [x])) := by
    apply List.filter_congr
    intro y _
    by_cases hy : y ∈ acc <;> by_cases hx : y = x <;> simp [hy, hx]
  rw [e3]
  rfl
theorem rev_take_step (l : List Int) (j : Nat) (x : Int) (h : l[j]? = some x) : (l.take (j + 1)).reverse = x :: (l.take j).reverse := by
  rw [List.take_add_one, h]; simp
end Go.Proofs.Ytnganclkjoiggaa
