/- Blocks as plain bytes: which bytes are a block's, and what stands next. No conditions beyond those written. -/
import Derived.Test.YtolmbccdkfbppaaBkH
namespace Go.Proofs.Ytolmbccdkfbppaa
open Go.RowKit
set_option linter.unusedVariables false
set_option linter.unusedSimpArgs false

/-- Pairs that are a block's. -/
structure Rise (ps : List PB) : Prop where
  len : ps.length ≤ 4096
  ok : ∀ p ∈ ps, rightP p = true
  up : ∀ i p, ps[i]? = some p → leS p.k (lastB (ps.take i)) = false
theorem Rise.nil : Rise [] := ⟨by simp, (fun p h => by cases h), (fun i p h => by simp at h)⟩
theorem Rise.snoc {ps : List PB} (h : Rise ps) {p : PB} (hp : rightP p = true) (hl : leS p.k (lastB ps) = false) (hn : ps.length < 4096) : Rise (ps ++ [p]) := by
  refine ⟨by simp; omega, fun q hq => ?_, fun i q hi => ?_⟩
  · rcases List.mem_append.1 hq with h1 | h1
    · exact h.ok q h1
    · rw [List.mem_singleton] at h1; rw [h1]; exact hp
  · by_cases hlt : i < ps.length
    · rw [List.getElem?_append_left hlt] at hi
      rw [List.take_append_of_le_length (by omega)]
      exact h.up i q hi
    · rw [List.getElem?_append_right (by omega)] at hi
      have : i - ps.length = 0 := by
        rcases Nat.eq_zero_or_pos (i - ps.length) with h1 | h1
        · exact h1
        · rw [List.getElem?_eq_none (by simp; omega)] at hi; cases hi
      have e : i = ps.length := by omega
      subst e
      simp at hi
      subst hi
      rw [List.take_left]
      exact hl
theorem Rise.mid {a : List PB} {p : PB} {r : List PB} (h : Rise (a ++ p :: r)) : rightP p = true ∧ leS p.k (lastB a) = false ∧ a.length < 4096 := by
  refine ⟨h.ok p (by simp), ?_, by have := h.len; simp at this; omega⟩
  have := h.up a.length p (by simp)
  rwa [List.take_left] at this
theorem Rise.pre {a r : List PB} (h : Rise (a ++ r)) : Rise a := by
  refine ⟨by have := h.len; simp at this; omega, fun p hp => h.ok p (by simp [hp]), fun i p hi => ?_⟩
  have hlt : i < a.length := (List.getElem?_eq_some_iff.1 hi).1
  have := h.up i p (by rw [List.getElem?_append_left hlt]; exact hi)
  rwa [List.take_append_of_le_length (by omega)] at this
theorem Rise.bok {a : List PB} (h : Rise a) : BOk (foldB a) := by
  have := foldB_ok a h.ok h.len a.length
  rwa [List.take_length] at this
/-- Bytes of a block. -/
def IsB (s : List UInt8) (ps : List PB) : Prop := Rise ps ∧ s = outB (foldB ps)
theorem laid_more : ∀ (r a : List PB), ∃ m, (foldB (a ++ r)).laid = (foldB a).laid ++ m
  | [], a => ⟨[], by simp⟩
  | p :: r, a => by
    obtain ⟨m, hm⟩ := laid_more r (a ++ [p])
    refine ⟨one1 (shr (foldB a) p.k) p ++ m, ?_⟩
    have e : a ++ p :: r = (a ++ [p]) ++ r := by simp
    rw [e, hm, foldB_snoc]
    show ((foldB a).laid ++ one1 (shr (foldB a) p.k) p) ++ m = _
    rw [List.append_assoc]
theorem one1_pos (sh : Nat) (p : PB) : 1 ≤ (one1 sh p).length := by
  have := grp_pos sh
  unfold one1
  simp only [List.length_append]
  omega
/-- What a block's bytes have behind pairs. -/
def Hyp (s : List UInt8) (a : List PB) (rest : List UInt8) : Prop := ∀ ps, IsB s ps → ∃ tl, ps = a ++ tl ∧ (foldB ps).laid = (foldB a).laid ++ rest
theorem Hyp.next {s : List UInt8} {a : List PB} {rest : List UInt8} (h : Hyp s a rest) (hne : rest ≠ []) : ∀ ps, IsB s ps → ∃ p tl m, ps = a ++ p :: tl ∧ rest = one1 (shr (foldB a) p.k) p ++ m ∧ (foldB ps).laid = (foldB (a ++ [p])).laid ++ m := by
  intro ps hps
  obtain ⟨tl, e1, e2⟩ := h ps hps
  cases tl with
  | nil =>
    rw [e1, List.append_nil] at e2
    exact absurd (by simpa using e2) hne
  | cons p tl =>
    obtain ⟨m, hm⟩ := laid_more tl (a ++ [p])
    have e3 : ps = (a ++ [p]) ++ tl := by rw [e1]; simp
    rw [← e3] at hm
    refine ⟨p, tl, m, e1, ?_, hm⟩
    rw [hm, foldB_snoc] at e2
    have e4 : (addB (foldB a) p).laid = (foldB a).laid ++ one1 (shr (foldB a) p.k) p := rfl
    rw [e4, List.append_assoc] at e2
    exact (List.append_cancel_left e2).symm
theorem Hyp.done {s : List UInt8} {a : List PB} (h : Hyp s a []) : ∀ ps, IsB s ps → ps = a := by
  intro ps hps
  obtain ⟨tl, e1, e2⟩ := h ps hps
  cases tl with
  | nil => simpa using e1
  | cons p tl =>
    obtain ⟨m, hm⟩ := laid_more tl (a ++ [p])
    have e3 : ps = (a ++ [p]) ++ tl := by rw [e1]; simp
    rw [← e3, foldB_snoc] at hm
    have e4 : (addB (foldB a) p).laid = (foldB a).laid ++ one1 (shr (foldB a) p.k) p := rfl
    rw [e2, e4] at hm
    have := congrArg List.length hm
    have h1 := one1_pos (shr (foldB a) p.k) p
    simp only [List.length_append, List.length_nil] at this
    omega
theorem com_take : ∀ a b : List UInt8, a.take (com a b) = b.take (com a b)
  | [], _ => by simp [com]
  | _ :: _, [] => by simp [com]
  | a :: x, b :: y => by
    simp only [com]
    split
    · rename_i h; subst h; simp [com_take x y]
    · simp
theorem shr_take (S : BS) (k : ByteArray) : S.last.data.toList.take (shr S k) = k.data.toList.take (shr S k) := by
  unfold shr
  split
  · simp
  · exact com_take _ _
/-- A pair that is read. -/
def rdP (last : ByteArray) (sh : Nat) (key val : List UInt8) : PB := ⟨⟨(last.data.toList.take sh ++ key).toArray⟩, ⟨val.toArray⟩⟩
theorem shr_last (S : BS) (k : ByteArray) : shr S k ≤ S.last.size := by
  unfold shr
  split
  · omega
  · have := (com_le S.last.data.toList k.data.toList).1
    simpa using this
theorem PB.ext' {p q : PB} (h1 : p.k.data.toList = q.k.data.toList) (h2 : p.v.data.toList = q.v.data.toList) : p = q := by
  obtain ⟨⟨⟨k⟩⟩, ⟨⟨v⟩⟩⟩ := p
  obtain ⟨⟨⟨k'⟩⟩, ⟨⟨v'⟩⟩⟩ := q
  simp at h1 h2
  subst h1 h2
  rfl
/-- What is read at the beginning of what a pair lays is that pair. -/
theorem read_one {S : BS} {p : PB} {m : List UInt8} {l : List UInt8} (h : l = one1 (shr S p.k) p ++ m) (hp : rightP p = true) :
    gt 9223372036854775807 l 0 0 = some (shr S p.k, grp (p.k.size - shr S p.k) ++ (grp p.v.size ++ (p.k.data.toList.drop (shr S p.k) ++ (p.v.data.toList ++ m)))) ∧
    gt 9223372036854775807 (grp (p.k.size - shr S p.k) ++ (grp p.v.size ++ (p.k.data.toList.drop (shr S p.k) ++ (p.v.data.toList ++ m)))) 0 0 = some (p.k.size - shr S p.k, grp p.v.size ++ (p.k.data.toList.drop (shr S p.k) ++ (p.v.data.toList ++ m))) ∧
    gt 9223372036854775807 (grp p.v.size ++ (p.k.data.toList.drop (shr S p.k) ++ (p.v.data.toList ++ m))) 0 0 = some (p.v.size, p.k.data.toList.drop (shr S p.k) ++ (p.v.data.toList ++ m)) := by
  have h1 := rightP_iff.1 hp
  have h2 := shr_le S p.k
  have e : l = grp (shr S p.k) ++ (grp (p.k.size - shr S p.k) ++ (grp p.v.size ++ (p.k.data.toList.drop (shr S p.k) ++ (p.v.data.toList ++ m)))) := by
    rw [h]; unfold one1; simp [List.append_assoc]
  rw [e]
  exact ⟨gt_grp0 _ (by omega) _ _ (by omega), gt_grp0 _ (by omega) _ _ (by omega), gt_grp0 _ (by omega) _ _ (by omega)⟩
theorem rdP_eq {S : BS} {p : PB} : rdP S.last (shr S p.k) (p.k.data.toList.drop (shr S p.k)) p.v.data.toList = p := by
  apply PB.ext'
  · unfold rdP
    dsimp only
    rw [shr_take]
    simp
  · rfl
end Go.Proofs.Ytolmbccdkfbppaa
