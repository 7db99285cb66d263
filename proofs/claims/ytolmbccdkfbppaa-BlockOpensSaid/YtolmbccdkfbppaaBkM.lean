/- Blocks of pairs as plain lists of bytes: what a builder holds. No conditions beyond those written. -/
import Derived.Test.YtolmbccdkfbppaaCoX
namespace Go.Proofs.Ytolmbccdkfbppaa
open Go.RowKit
set_option linter.unusedSimpArgs false
set_option linter.unusedVariables false

/-- A pair. -/
structure PB where
  k : ByteArray
  v : ByteArray
/-- How many first bytes two lists have in common. -/
def com : List UInt8 → List UInt8 → Nat
  | a :: x, b :: y => if a = b then com x y + 1 else 0
  | [], _ => 0
  | _ :: _, [] => 0
theorem com_nil (l : List UInt8) : com l [] = 0 := by cases l <;> rfl
theorem com_comm : ∀ a b : List UInt8, com a b = com b a
  | [], [] => rfl
  | [], _ :: _ => rfl
  | _ :: _, [] => rfl
  | a :: x, b :: y => by
    simp only [com]
    by_cases h : a = b
    · subst h; simp [com_comm x y]
    · rw [if_neg h, if_neg (fun e => h e.symm)]
theorem com_le : ∀ a b : List UInt8, com a b ≤ a.length ∧ com a b ≤ b.length
  | [], _ => by simp [com]
  | _ :: _, [] => by simp [com]
  | a :: x, b :: y => by
    have := com_le x y
    simp only [com, List.length_cons]
    split <;> omega
theorem com_stop (a b : List UInt8) (k : Nat) (h : k = a.length ∨ k = b.length) : com (a.drop k) (b.drop k) = 0 := by
  rcases h with h | h
  · rw [List.drop_of_length_le (l := a) (by omega)]; rfl
  · rw [List.drop_of_length_le (l := b) (by omega)]; exact com_nil _
theorem com_step (a b : List UInt8) (k : Nat) (ha : k < a.length) (hb : k < b.length) : com (a.drop k) (b.drop k) = if a[k] = b[k] then com (a.drop (k + 1)) (b.drop (k + 1)) + 1 else 0 := by
  rw [List.drop_eq_getElem_cons ha, List.drop_eq_getElem_cons hb]; rfl
/-- What a builder holds. -/
structure BS where
  laid : List UInt8
  rs : List Nat
  count : Nat
  last : ByteArray
/-- How many bytes of a key are not laid again. -/
def shr (S : BS) (k : ByteArray) : Nat := if S.count % 8 = 0 then 0 else com S.last.data.toList k.data.toList
theorem shr_le (S : BS) (k : ByteArray) : shr S k ≤ k.size := by
  unfold shr
  split
  · omega
  · have := (com_le S.last.data.toList k.data.toList).2
    simpa using this
/-- What is laid of a pair. -/
def one1 (sh : Nat) (p : PB) : List UInt8 := grp sh ++ grp (p.k.size - sh) ++ grp p.v.size ++ p.k.data.toList.drop sh ++ p.v.data.toList
def addB (S : BS) (p : PB) : BS :=
  { laid := S.laid ++ one1 (shr S p.k) p
    rs := if S.count % 8 = 0 then S.rs ++ [S.laid.length] else S.rs
    count := S.count + 1
    last := p.k }
theorem addB_count (S : BS) (p : PB) : (addB S p).count = S.count + 1 := by unfold addB; rfl
theorem addB_last (S : BS) (p : PB) : (addB S p).last = p.k := by unfold addB; rfl
def none1 : BS := ⟨[], [], 0, ⟨#[]⟩⟩
def foldB (l : List PB) : BS := l.foldl addB none1
theorem foldB_snoc (l : List PB) (p : PB) : foldB (l ++ [p]) = addB (foldB l) p := by simp [foldB]
theorem foldB_take (l : List PB) (k : Nat) (h : k < l.length) : foldB (l.take (k + 1)) = addB (foldB (l.take k)) l[k] := by
  rw [List.take_succ_eq_append_getElem h, foldB_snoc]
theorem foldB_count (l : List PB) : (foldB l).count = l.length := by
  have : ∀ (l : List PB) (S : BS), (l.foldl addB S).count = S.count + l.length := by
    intro l
    induction l with
    | nil => intro S; rfl
    | cons p l ih => intro S; rw [List.foldl_cons, ih]; simp [addB]; omega
  unfold foldB
  rw [this]
  simp [none1]
def lastB (l : List PB) : ByteArray := (l.getLast?.map (·.k)).getD ⟨#[]⟩
theorem foldB_last (l : List PB) : (foldB l).last = lastB l := by
  cases h : l.getLast? with
  | none =>
    rw [List.getLast?_eq_none_iff] at h
    subst h; rfl
  | some p =>
    obtain ⟨r, rfl⟩ := List.getLast?_eq_some_iff.1 h
    rw [foldB_snoc]
    simp [addB, lastB]
def fx4s (rs : List Nat) : List UInt8 := rs.flatMap fun n => fx n 4
theorem fx4s_take (rs : List Nat) (k : Nat) (h : k < rs.length) : fx4s (rs.take (k + 1)) = fx4s (rs.take k) ++ fx rs[k] 4 := by
  unfold fx4s
  rw [List.take_succ_eq_append_getElem h, List.flatMap_append]; simp [List.flatMap_cons]
theorem fx4s_len (rs : List Nat) : (fx4s rs).length = 4 * rs.length := by
  unfold fx4s
  induction rs with
  | nil => rfl
  | cons n r ih => simp only [List.flatMap_cons, List.length_append, fx_length, ih, List.length_cons]; omega
/-- The block of what a builder holds. -/
def outB (S : BS) : List UInt8 := S.laid ++ (fx4s S.rs ++ fx S.rs.length 4)
theorem outB_len (S : BS) : (outB S).length = S.laid.length + 4 * S.rs.length + 4 := by unfold outB; simp [fx4s_len, fx_length]; omega
/-- A pair that may be. -/
def rightP (p : PB) : Bool := decide (1 ≤ p.k.size) && decide (p.k.size ≤ 80) && decide (p.v.size ≤ 16000)
theorem rightP_iff {p : PB} : rightP p = true ↔ 1 ≤ p.k.size ∧ p.k.size ≤ 80 ∧ p.v.size ≤ 16000 := by unfold rightP; simp [and_assoc]
theorem one1_len (sh : Nat) (p : PB) (hs : sh ≤ p.k.size) (h : rightP p = true) : (one1 sh p).length ≤ 16110 := by
  have h1 := rightP_iff.1 h
  have a1 := grp_len10 (n := sh) (by omega)
  have a2 := grp_len10 (n := p.k.size - sh) (by omega)
  have a3 := grp_len10 (n := p.v.size) (by omega)
  have e1 : p.k.data.toList.length = p.k.size := by simp
  have e2 : p.v.data.toList.length = p.v.size := by simp
  unfold one1
  simp only [List.length_append, List.length_drop, e1, e2]
  omega
/-- The bounds of a builder. -/
structure BOk (S : BS) : Prop where
  laid : S.laid.length ≤ S.count * 16110
  rs : S.rs.length ≤ S.count
  at_ : ∀ r ∈ S.rs, r ≤ S.count * 16110
  count : S.count ≤ 4096
  last : S.last.size ≤ 80
theorem BOk.none : BOk none1 := by
  refine ⟨by simp [none1], by simp [none1], by simp [none1], by simp [none1], ?_⟩
  have : none1.last.size = 0 := rfl
  omega
theorem BOk.add {S : BS} (h : BOk S) (p : PB) (hp : rightP p = true) (hc : S.count < 4096) : BOk (addB S p) := by
  have h1 := one1_len (shr S p.k) p (shr_le S p.k) hp
  have h2 := rightP_iff.1 hp
  refine ⟨?_, ?_, ?_, ?_, ?_⟩
  · show (S.laid ++ one1 (shr S p.k) p).length ≤ (S.count + 1) * 16110
    rw [List.length_append]; have := h.laid; omega
  · show (if S.count % 8 = 0 then S.rs ++ [S.laid.length] else S.rs).length ≤ S.count + 1
    have := h.rs
    split <;> simp <;> omega
  · intro r hr
    show r ≤ (S.count + 1) * 16110
    have h3 := h.at_
    have h4 := h.laid
    have hr' : r ∈ (if S.count % 8 = 0 then S.rs ++ [S.laid.length] else S.rs) := hr
    split at hr'
    · rcases List.mem_append.1 hr' with h5 | h5
      · exact Nat.le_trans (h3 r h5) (Nat.mul_le_mul_right _ (Nat.le_succ _))
      · rw [List.mem_singleton] at h5
        rw [h5]
        exact Nat.le_trans h4 (Nat.mul_le_mul_right _ (Nat.le_succ _))
    · exact Nat.le_trans (h3 r hr') (Nat.mul_le_mul_right _ (Nat.le_succ _))
  · rw [addB_count]; omega
  · rw [addB_last]; exact h2.2.1
end Go.Proofs.Ytolmbccdkfbppaa
