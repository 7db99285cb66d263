/- The words of a text: lex.Words. Conditions: those written at each theorem. -/
import Derived.Test.YtkfkoopfoiekoaaDoorLxF
import Derived.Laws.AppendOwn
import Derived.Laws.Rows
namespace Go.Proofs.YtkfkoopfoiekoaaDoor
open Go.RowKit Go.PlainAid
set_option linter.unusedVariables false
set_option linter.unusedSimpArgs false
structure Wd where
  k : Int
  t : ByteArray
  n : Int
  at_ : Int
def wd (x : Wd) : List Value := [.int .i64 x.k, .string x.t, .int .i64 x.n, .int .i64 x.at_]
def wds (l : List Wd) : List Value := l.flatMap wd
theorem wds_snoc (l : List Wd) (x : Wd) : wds (l ++ [x]) = wds l ++ wd x := by simp [wds]
theorem wordInfo : (Tryd.prog.info? 36).map (fun i => (i.zero, i.size, i.bytes)) = some (some (.agg #[.int .i64 0, .string ⟨#[]⟩, .int .i64 0, .int .i64 0]), 4, 40) := by kernel_rfl
def FourAt (w : World) (a : Addr) (x : Wd) : Prop := w.cell? a = some (.int .i64 x.k) ∧ w.cell? ⟨a.block, a.off + 1, none⟩ = some (.string x.t) ∧ w.cell? ⟨a.block, a.off + 2, none⟩ = some (.int .i64 x.n) ∧ w.cell? ⟨a.block, a.off + 3, none⟩ = some (.int .i64 x.at_)
/-- append(l, x), at a slice of the walk's own with one word. -/
theorem wpList_appW {w : World} {ops : Array Oper} {rest : List Oper} {o : Oper} {a : Act} {Q : Exit → Act → World → Prop} (hgd : o.guard = none) (s x : Operand)
    (ho : o.op = .call { callee := .builtin .append, args := #[s, x], argTypes := #[22, 22] })
    (B : Nat) (v : Value) (n : Nat) (l : List Wd) (f : Wd) (hs : a.eval s = v) (hown : w.ownsRow B 36 4 v n (wds l)) (g : Nat) (hx : a.eval x = .slice (some ⟨g, 0, none⟩) 1 1)
    (hc : FourAt w ⟨g, 0, none⟩ f) (hl : n ≤ 100000) (hB : B ≤ w.heap.size)
    (h : ∀ v' w', w'.ownsRow B 36 4 v' (n + 1) (wds (l ++ [f])) → w.grownBy w' v.ownBlock → wpList Tryd.prog ops Q rest (a.put o.dst v') w') :
    wpList Tryd.prog ops Q (o :: rest) a w := by
  obtain ⟨i, hi, hz0, hz1, hz2⟩ := info_parts wordInfo
  obtain ⟨c0, c1, c2, c3⟩ := hc
  refine wpList_append_own w hgd s x 22 ho B 36 i (.agg #[.int .i64 0, .string ⟨#[]⟩, .int .i64 0, .int .i64 0]) 4 40 Tryd.underlying22 hi hz0 hz1 hz2 rfl (by decide) v n (wds l) hs hown ⟨g, 0, none⟩ 1 1 (wd f) hx rfl ?_ ?_ ?_ ?_ hB ?_
  · intro j u hj
    match j, hj with
    | 0, hj => simp [wd] at hj; subst hj; exact c0
    | 1, hj => simp [wd] at hj; subst hj; exact c1
    | 2, hj => simp [wd] at hj; subst hj; exact c2
    | 3, hj => simp [wd] at hj; subst hj; exact c3
  · intro u hu
    simp [wd] at hu
    rcases hu with rfl | rfl | rfl | rfl <;> rfl
  · unfold maxLen; omega
  · omega
  · intro v' w' h1 h2 _
    refine h v' w' ?_ h2
    rw [wds_snoc]
    exact h1
/-- From a place on: the word there, and where the next one may be. -/
noncomputable def stp (s : ByteArray) (i : Nat) : Option (Wd × Nat) :=
  if i < s.size then
    match fs (s.data.toList.drop i) with
    | some (k, len, n) => some (⟨k, s.extract i (i + len), n, i⟩, i + len + bl false (s.data.toList.drop (i + len)))
    | none => none
  else none
/-- Some words, one behind the other. -/
noncomputable def it (s : ByteArray) : Nat → List Wd × Nat
  | 0 => ([], bl false s.data.toList)
  | j + 1 => match stp s (it s j).2 with
    | some (x, i) => ((it s j).1 ++ [x], i)
    | none => it s j
theorem it_succ (s : ByteArray) (j : Nat) : it s (j + 1) = match stp s (it s j).2 with
    | some (x, i) => ((it s j).1 ++ [x], i)
    | none => it s j := rfl
theorem rn_pos {p : Int → Bool} {c : UInt8} {r : List UInt8} (h : p (c.toNat : Int) = true) : 1 ≤ rn p (c :: r) := by unfold rn; rw [if_pos h]; omega
theorem fs_len {l : List UInt8} {k : Int} {len : Nat} {n : Int} (h : fs l = some (k, len, n)) : 1 ≤ len ∧ len ≤ l.length := by
  cases l with
  | nil => simp [fs] at h
  | cons c r =>
    have hr := rn_le isF (c :: r)
    unfold fs at h
    dsimp only at h
    split at h
    · rename_i hd
      have hF : isF (c.toNat : Int) = true := by simp [isF, hd]
      have h1 := rn_pos (r := r) hF
      split at h
      · rename_i m hm
        have := dy_size hm
        simp only [Option.some.injEq, Prod.mk.injEq] at h
        omega
      · split at h
        · simp only [Option.some.injEq, Prod.mk.injEq] at h
          omega
        · cases h
    · split at h
      · rename_i hd ha
        have hF : isF (c.toNat : Int) = true := by simp [isF, ha]
        have h1 := rn_pos (r := r) hF
        split at h
        · simp only [Option.some.injEq, Prod.mk.injEq] at h
          omega
        · cases h
      · split at h
        · rename_i h2
          have : 2 ≤ (c :: r).length := by
            unfold two at h2
            simp only [Bool.or_eq_true] at h2
            rcases h2 with (h2 | h2) | h2 <;> exact pre_size h2
          simp only [Option.some.injEq, Prod.mk.injEq] at h
          omega
        · split at h
          · simp only [Option.some.injEq, Prod.mk.injEq] at h
            simp only [List.length_cons]
            omega
          · cases h
theorem stp_some {s : ByteArray} {i : Nat} {x : Wd} {j : Nat} (h : stp s i = some (x, j)) : i < s.size ∧ ∃ k len n, fs (s.data.toList.drop i) = some (k, len, n) ∧ x = ⟨k, s.extract i (i + len), n, i⟩ ∧ j = i + len + bl false (s.data.toList.drop (i + len)) ∧ 1 ≤ len ∧ i + len ≤ s.size ∧ j ≤ s.size := by
  unfold stp at h
  split at h
  · rename_i hi
    split at h
    · rename_i k len n hf
      have h1 := fs_len hf
      have hz := str_len s
      rw [List.length_drop, hz] at h1
      simp only [Option.some.injEq, Prod.mk.injEq] at h
      have h2 := bl_le (s.data.toList.drop (i + len)) false
      rw [List.length_drop, hz] at h2
      exact ⟨hi, k, len, n, hf, h.1.symm, h.2.symm, h1.1, by omega, by omega⟩
    · cases h
  · cases h
theorem it_at (s : ByteArray) (j : Nat) : (it s j).2 ≤ s.size := by
  induction j with
  | zero => have := bl_le s.data.toList false; rw [str_len] at this; exact this
  | succ j ih =>
    rw [it_succ]
    split
    · rename_i x i h
      obtain ⟨_, _, _, _, _, _, _, _, _, h2⟩ := stp_some h
      exact h2
    · exact ih
theorem it_stop {s : ByteArray} {j : Nat} (h : stp s (it s j).2 = none) (d : Nat) : it s (j + d) = it s j := by
  induction d with
  | zero => rfl
  | succ d ih =>
    rw [show j + (d + 1) = j + d + 1 from rfl, it_succ, ih, h]
/-- Steps so far: each went on. -/
theorem it_go (s : ByteArray) (j : Nat) (h : (it s j).1.length = j) : j ≤ (it s j).2 := by
  induction j with
  | zero => omega
  | succ j ih =>
    rw [it_succ] at h ⊢
    split at h
    · rename_i x i hs
      simp only [List.length_append, List.length_cons, List.length_nil] at h
      obtain ⟨_, k, len, n, _, _, h2, h3, _, _⟩ := stp_some hs
      have := ih (by omega)
      simp only
      omega
    · exfalso
      have : ∀ j, (it s j).1.length ≤ j := fun j => by
        induction j with
        | zero => simp [it]
        | succ j ih => rw [it_succ]; split <;> (try simp) <;> omega
      have := this j
      omega
noncomputable def fin (s : ByteArray) : List Wd × Nat := it s s.size
theorem it_fin {s : ByteArray} {j : Nat} (h : stp s (it s j).2 = none) (hl : (it s j).1.length = j) : it s j = fin s := by
  have h1 := it_go s j hl
  have h2 := it_at s j
  unfold fin
  rw [show s.size = j + (s.size - j) by omega]
  exact (it_stop h _).symm
end Go.Proofs.YtkfkoopfoiekoaaDoor
