/- A builder of blocks in memory: its block, its two rows; what an append leaves of it. Conditions: those written at each theorem. -/
import Derived.Test.YtolmbccdkfbppaaBkM
import Derived.Test.YtolmbccdkfbppaaShelf
import Derived.Laws.Rows
import Derived.Laws.OwnMore
import Derived.Lib.SmallJoins
namespace Go.Proofs.Ytolmbccdkfbppaa
open Go.RowKit
set_option linter.unusedVariables false
set_option linter.unusedSimpArgs false

theorem lt_of_heap {w : World} {k : Nat} {o : Obj} (h : w.heap[k]? = some o) : k < w.heap.size := (Array.getElem?_eq_some_iff.1 h).1
theorem cell_blk {w : World} {k : Nat} {cs : Array Value} {t : TypeId} (h : w.heap[k]? = some (.cells cs t (0, 0))) (i : Nat) : w.cell? ⟨k, i, none⟩ = cs[i]? := Joins.cell_of_block h i
theorem free_blk {w : World} {k : Nat} {cs : Array Value} {t : TypeId} (h : w.heap[k]? = some (.cells cs t (0, 0))) (i : Nat) : w.frozen? ⟨k, i, none⟩ = false := Joins.unfrozen_of_block h i
theorem row_form {B n : Nat} {e : TypeId} {z : Nat} {v : Value} {xs : List Value} {w : World} (h : w.ownsRow B e z v n xs) : ∃ a c, v = .slice a n c := by
  rcases h.2 with ⟨rfl, h0⟩ | ⟨g, cap, cur, rfl, _⟩
  · subst h0; exact ⟨none, 0, rfl⟩
  · exact ⟨_, _, rfl⟩
theorem row_stay {B n : Nat} {e : TypeId} {z : Nat} {v : Value} {xs : List Value} {w w' : World} (h : w.ownsRow B e z v n xs) (hg : ∀ g, v.ownBlock = some g → w'.heap[g]? = w.heap[g]?) : w'.ownsRow B e z v n xs := by
  refine ⟨h.1, ?_⟩
  rcases h.2 with hn | ⟨g, cap, cur, rfl, hb, hgg, rest⟩
  · exact .inl hn
  · exact .inr ⟨g, cap, cur, rfl, hb, (hg g rfl).trans hgg, rest⟩
theorem row_blk {B n : Nat} {e : TypeId} {z : Nat} {v : Value} {xs : List Value} {w : World} (h : w.ownsRow B e z v n xs) {k : Nat} (hk : v.ownBlock = some k) : ∃ cur, w.heap[k]? = some (.cells cur e (0, 0)) := by
  rcases h.2 with ⟨rfl, _⟩ | ⟨g, cap, cur, rfl, _, hg, _⟩
  · simp [Value.ownBlock] at hk
  · simp only [Value.ownBlock, Option.some.injEq] at hk
    subst hk
    exact ⟨cur, hg⟩
/-- Rows of two kinds lie in two blocks. -/
theorem row_two {B B' n n' z z' : Nat} {e e' : TypeId} {v v' : Value} {xs xs' : List Value} {w : World} (h : w.ownsRow B e z v n xs) (h' : w.ownsRow B' e' z' v' n' xs') (hne : e ≠ e') {k : Nat} (hk : v.ownBlock = some k) : v'.ownBlock ≠ some k := by
  intro hk'
  obtain ⟨c1, h1⟩ := row_blk h hk
  obtain ⟨c2, h2⟩ := row_blk h' hk'
  rw [h1] at h2
  injection h2 with h2
  injection h2 with _ h3 _
  exact hne h3
def natCells (l : List Nat) : List Value := l.map fun (n : Nat) => Value.int .i64 (n : Int)
/-- A builder in block b. -/
def BkAt (B b : Nat) (S : BS) (w : World) : Prop :=
  B ≤ b ∧ ∃ v1 v2, w.heap[b]? = some (.cells #[v1, v2, .int .i64 S.count, .string S.last] 29 (0, 0)) ∧ w.ownsRow B 5 1 v1 S.laid.length (Lib.byteCells S.laid) ∧ w.ownsRow B 3 1 v2 S.rs.length (natCells S.rs)
/-- A block of another kind than a builder's. -/
def Oth (w : World) (k : Nat) : Prop := ∃ cs t, w.heap[k]? = some (.cells cs t (0, 0)) ∧ t ≠ 5 ∧ t ≠ 3 ∧ t ≠ 29
/-- All below B, and all of other kinds than a builder's, is as it was. -/
structure Bek (B : Nat) (w w' : World) : Prop where
  os : w'.os = w.os
  tape : w'.tape = w.tape
  output : w'.output = w.output
  size : w.heap.size ≤ w'.heap.size
  block : ∀ k, k < w.heap.size → (k < B ∨ Oth w k) → w'.heap[k]? = w.heap[k]?
theorem Bek.refl (B : Nat) (w : World) : Bek B w w := ⟨rfl, rfl, rfl, Nat.le_refl _, fun _ _ _ => rfl⟩
theorem Bek.trans {B : Nat} {w w1 w2 : World} (h : Bek B w w1) (k : Bek B w1 w2) : Bek B w w2 :=
  ⟨k.os.trans h.os, k.tape.trans h.tape, k.output.trans h.output, Nat.le_trans h.size k.size, fun x hx ho => by
    have e := h.block x hx ho
    rw [k.block x (Nat.lt_of_lt_of_le hx h.size) (ho.imp id fun ⟨cs, t, h1, h2⟩ => ⟨cs, t, e.trans h1, h2⟩), e]⟩
theorem Bek.of_below {B : Nat} {w w' : World} (h : Below w.heap.size w w') : Bek B w w' := ⟨h.os, h.tape, h.output, h.size, fun k hk _ => h.block k hk⟩
theorem Bek.below {B : Nat} {w w' : World} (h : Bek B w w') (hB : B ≤ w.heap.size) : Below B w w' := ⟨h.os, h.tape, h.output, h.size, fun k hk => h.block k (by omega) (.inl hk)⟩
theorem BkAt.lt {B b : Nat} {S : BS} {w : World} (h : BkAt B b S w) : b < w.heap.size := by obtain ⟨_, _, _, hb, _⟩ := h; exact lt_of_heap hb
/-- Changes elsewhere leave a builder as it is. -/
theorem BkAt.stay {B b : Nat} {S : BS} {w w' : World} (h : BkAt B b S w) (hk : ∀ k, k < w.heap.size → (∃ cs t, w.heap[k]? = some (.cells cs t (0, 0)) ∧ (t = 5 ∨ t = 3 ∨ t = 29)) → w'.heap[k]? = w.heap[k]?) : BkAt B b S w' := by
  obtain ⟨hB, v1, v2, hb, h1, h2⟩ := h
  refine ⟨hB, v1, v2, (hk b (lt_of_heap hb) ⟨_, _, hb, .inr (.inr rfl)⟩).trans hb, row_stay h1 fun g hg => ?_, row_stay h2 fun g hg => ?_⟩
  · obtain ⟨c, hc⟩ := row_blk h1 hg
    exact hk g (lt_of_heap hc) ⟨_, _, hc, .inl rfl⟩
  · obtain ⟨c, hc⟩ := row_blk h2 hg
    exact hk g (lt_of_heap hc) ⟨_, _, hc, .inr (.inl rfl)⟩
theorem BkAt.under {B b : Nat} {S : BS} {w w' : World} (h : BkAt B b S w) (k : Below w.heap.size w w') : BkAt B b S w' := h.stay fun x hx _ => k.block x hx
theorem BkAt.drewN {B b : Nat} {S : BS} {w : World} (h : BkAt B b S w) (n : Nat) : BkAt B b S (w.drewN n) := h.stay fun _ _ _ => rfl
/-- A row of another kind grows. -/
theorem BkAt.grown {B b : Nat} {S : BS} {w w' : World} {B' n z : Nat} {e : TypeId} {v : Value} {xs : List Value} (h : BkAt B b S w) (R : w.ownsRow B' e z v n xs) (hg : w.grownBy w' v.ownBlock) (h1 : e ≠ 5) (h2 : e ≠ 3) (h3 : e ≠ 29) : BkAt B b S w' :=
  h.stay fun k hk ⟨cs, t, hc, ht⟩ => hg.block k hk fun he => by
    obtain ⟨cur, hcur⟩ := row_blk R he.symm
    rw [hc] at hcur
    injection hcur with hcur
    injection hcur with _ e1 _
    subst e1
    rcases ht with ht | ht | ht
    · exact h1 ht
    · exact h2 ht
    · exact h3 ht
/-- A row of another kind stays where a builder changes. -/
theorem Bek.row {B B' n z : Nat} {e : TypeId} {v : Value} {xs : List Value} {w w' : World} (h : Bek B w w') (R : w.ownsRow B' e z v n xs) (h1 : e ≠ 5) (h2 : e ≠ 3) (h3 : e ≠ 29) : w'.ownsRow B' e z v n xs :=
  row_stay R fun g hg => by
    obtain ⟨c, hc⟩ := row_blk R hg
    exact h.block g (lt_of_heap hc) (.inr ⟨c, e, hc, h1, h2, h3⟩)
theorem heap_set_at {w : World} {b i : Nat} {cs : Array Value} {T : TypeId} (u : Value) (hb : w.heap[b]? = some (.cells cs T (0, 0))) : (w.setCell ⟨b, i, none⟩ u).heap[b]? = some (.cells (cs.setIfInBounds i u) T (0, 0)) := by
  simp [World.setCell, Array.getElem?_modify, hb]
/-- What is stored in a builder's own block. -/
theorem Bek.set {B b i : Nat} {w w' : World} {cs : Array Value} (h : Bek B w w') (hB : B ≤ b) (hb : w'.heap[b]? = some (.cells cs 29 (0, 0))) (u : Value) : Bek B w (w'.setCell ⟨b, i, none⟩ u) :=
  ⟨h.os, h.tape, h.output, by simpa using h.size, fun k hk ho => by
    have e := h.block k hk ho
    rw [Below.heap_setCell _ _ _ _ (fun e2 => by
      have e2 : k = b := e2
      subst e2
      rcases ho with ho | ⟨c2, t, h1, _, _, h4⟩
      · omega
      · rw [← e, hb] at h1
        injection h1 with h1
        injection h1 with _ h5 _
        exact h4 h5.symm), e]⟩
theorem Bek.grow {B n z : Nat} {e : TypeId} {v : Value} {xs : List Value} {w w1 w2 : World} (h : Bek B w w1) (R : w1.ownsRow B e z v n xs) (he : e = 5 ∨ e = 3) (hg : w1.grownBy w2 v.ownBlock) : Bek B w w2 :=
  h.trans ⟨hg.os, hg.tape, hg.output, hg.size, fun k hk ho => hg.block k hk fun e2 => by
    obtain ⟨c, hc⟩ := row_blk R e2.symm
    rcases ho with ho | ⟨c2, t, h1, h2, h3, _⟩
    · have := (R.lt k e2.symm).1; omega
    · rw [hc] at h1
      injection h1 with h1
      injection h1 with _ h5 _
      subst h5
      exact he.elim h2 h3⟩
/-- The bytes grow, and the slice is stored. -/
theorem BkAt.more1 {B b n m : Nat} {l' : List UInt8} {v1 v2 v' : Value} {xs : List Value} {w w1 w2 : World} {C : Int} {L : ByteArray} {rs : List Nat} (hm : m = rs.length) (hB : B ≤ b)
    (hb : w1.heap[b]? = some (.cells #[v1, v2, .int .i64 C, .string L] 29 (0, 0))) (R1 : w1.ownsRow B 5 1 v1 n xs) (R2 : w1.ownsRow B 3 1 v2 m (natCells rs)) (hx : Bek B w w1)
    (hg : w1.grownBy w2 v1.ownBlock) (R' : w2.ownsRow B 5 1 v' l'.length (Lib.byteCells l')) :
    w2.heap[b]? = some (.cells #[v1, v2, .int .i64 C, .string L] 29 (0, 0)) ∧ Bek B w (w2.setCell ⟨b, 0, none⟩ v') ∧
      ∀ c : Nat, C = c → BkAt B b ⟨l', rs, c, L⟩ (w2.setCell ⟨b, 0, none⟩ v') := by
  subst hm
  have hb2 : w2.heap[b]? = some (.cells #[v1, v2, .int .i64 C, .string L] 29 (0, 0)) := (hg.block b (lt_of_heap hb) (fun e => by
    obtain ⟨c, hc⟩ := row_blk R1 e.symm
    rw [hb] at hc
    injection hc with hc
    injection hc with _ h5 _
    exact absurd h5 (by decide))).trans hb
  refine ⟨hb2, (hx.grow R1 (.inl rfl) hg).set hB hb2 _, fun c hc => ⟨hB, v', v2, ?_, ?_, ?_⟩⟩
  · rw [heap_set_at v' hb2, hc]; rfl
  · exact row_stay R' fun g hg' => Below.heap_setCell _ _ _ _ (fun e => by
      have e : g = b := e
      subst e
      obtain ⟨c, hc⟩ := row_blk R' hg'
      rw [hb2] at hc
      injection hc with hc
      injection hc with _ h5 _
      exact absurd h5 (by decide))
  · have R3 : w2.ownsRow B 3 1 v2 rs.length (natCells rs) := row_stay R2 fun g hg' => hg.block g (R2.lt g hg').2 (fun e => row_two R2 R1 (by decide) hg' e.symm)
    exact row_stay R3 fun g hg' => Below.heap_setCell _ _ _ _ (fun e => by
      have e : g = b := e
      subst e
      obtain ⟨c, hc⟩ := row_blk R3 hg'
      rw [hb2] at hc
      injection hc with hc
      injection hc with _ h5 _
      exact absurd h5 (by decide))
/-- The restarts grow, and the slice is stored. -/
theorem BkAt.more2 {B b n m : Nat} {rs' : List Nat} {v1 v2 v' : Value} {xs : List Value} {w w1 w2 : World} {C : Int} {L : ByteArray} {l : List UInt8} (hm : m = l.length) (hB : B ≤ b)
    (hb : w1.heap[b]? = some (.cells #[v1, v2, .int .i64 C, .string L] 29 (0, 0))) (R1 : w1.ownsRow B 5 1 v1 m (Lib.byteCells l)) (R2 : w1.ownsRow B 3 1 v2 n xs) (hx : Bek B w w1)
    (hg : w1.grownBy w2 v2.ownBlock) (R' : w2.ownsRow B 3 1 v' rs'.length (natCells rs')) :
    w2.heap[b]? = some (.cells #[v1, v2, .int .i64 C, .string L] 29 (0, 0)) ∧ Bek B w (w2.setCell ⟨b, 1, none⟩ v') ∧
      ∀ c : Nat, C = c → BkAt B b ⟨l, rs', c, L⟩ (w2.setCell ⟨b, 1, none⟩ v') := by
  subst hm
  have hb2 : w2.heap[b]? = some (.cells #[v1, v2, .int .i64 C, .string L] 29 (0, 0)) := (hg.block b (lt_of_heap hb) (fun e => by
    obtain ⟨c, hc⟩ := row_blk R2 e.symm
    rw [hb] at hc
    injection hc with hc
    injection hc with _ h5 _
    exact absurd h5 (by decide))).trans hb
  refine ⟨hb2, (hx.grow R2 (.inr rfl) hg).set hB hb2 _, fun c hc => ⟨hB, v1, v', ?_, ?_, ?_⟩⟩
  · rw [heap_set_at v' hb2, hc]; rfl
  · have R3 : w2.ownsRow B 5 1 v1 l.length (Lib.byteCells l) := row_stay R1 fun g hg' => hg.block g (R1.lt g hg').2 (fun e => row_two R1 R2 (by decide) hg' e.symm)
    exact row_stay R3 fun g hg' => Below.heap_setCell _ _ _ _ (fun e => by
      have e : g = b := e
      subst e
      obtain ⟨c, hc⟩ := row_blk R3 hg'
      rw [hb2] at hc
      injection hc with hc
      injection hc with _ h5 _
      exact absurd h5 (by decide))
  · exact row_stay R' fun g hg' => Below.heap_setCell _ _ _ _ (fun e => by
      have e : g = b := e
      subst e
      obtain ⟨c, hc⟩ := row_blk R' hg'
      rw [hb2] at hc
      injection hc with hc
      injection hc with _ h5 _
      exact absurd h5 (by decide))
/-- The builder's own cells are stored. -/
theorem BkAt.own {B b i : Nat} {S S' : BS} {v1 v2 u : Value} {w : World} {C : Int} {L : ByteArray} (hB : B ≤ b) (hb : w.heap[b]? = some (.cells #[v1, v2, .int .i64 C, .string L] 29 (0, 0)))
    (R1 : w.ownsRow B 5 1 v1 S.laid.length (Lib.byteCells S.laid)) (R2 : w.ownsRow B 3 1 v2 S.rs.length (natCells S.rs)) (h1 : S'.laid = S.laid) (h2 : S'.rs = S.rs)
    (hc : (#[v1, v2, .int .i64 C, .string L] : Array Value).setIfInBounds i u = #[v1, v2, .int .i64 S'.count, .string S'.last]) : BkAt B b S' (w.setCell ⟨b, i, none⟩ u) := by
  refine ⟨hB, v1, v2, ?_, ?_, ?_⟩
  · rw [heap_set_at u hb, hc]
  · rw [h1]
    exact row_stay R1 fun g hg' => Below.heap_setCell _ _ _ _ (fun e => by
      have e : g = b := e
      subst e
      obtain ⟨c, hc⟩ := row_blk R1 hg'
      rw [hb] at hc
      injection hc with hc
      injection hc with _ h5 _
      exact absurd h5 (by decide))
  · rw [h2]
    exact row_stay R2 fun g hg' => Below.heap_setCell _ _ _ _ (fun e => by
      have e : g = b := e
      subst e
      obtain ⟨c, hc⟩ := row_blk R2 hg'
      rw [hb] at hc
      injection hc with hc
      injection hc with _ h5 _
      exact absurd h5 (by decide))
theorem BkAt.fresh (w : World) : BkAt w.heap.size w.heap.size none1 (w.alloc (.cells #[.slice none 0 0, .slice none 0 0, .int .i64 0, .string ⟨#[]⟩] 29)) :=
  ⟨Nat.le_refl _, .slice none 0 0, .slice none 0 0, heap_alloc_new w _, World.ownsRow_nil _ _ _ _, World.ownsRow_nil _ _ _ _⟩
theorem wp_letter {P : Program} {c : Code} {Q : Exit → Act → World → Prop} {a : Act} {w : World} (S : World → Prop) (hs : S w) (h : ∀ W, S W → c.wp P Q a W) : c.wp P Q a w := h w hs
theorem intInfo0 : (Try.prog.info? 3).map (fun i => (i.zero, i.size, i.bytes)) = some (some (.int .i64 0), 1, 8) := by kernel_rfl
/-- A number behind a row of numbers, as one step of a region that draws its order. -/
theorem step_num {ops : Array Oper} {o : Oper} {a : Act} {K : Act → World → Prop} {Q : Exit → Act → World → Prop} {E : Prop} {B g n : Nat} {v : Value} {rs : List Nat} {w : World} {c : Nat} (hn : n = rs.length)
    (hg : o.guard = none) (s x : Operand) (hop : o.op = Op.call { callee := Callee.builtin Builtin.append, args := #[s, x], argTypes := #[27, 27] })
    (hs : a.eval s = v) (hx : a.eval x = .slice (some ⟨g, 0, none⟩) 1 1) (hown : w.ownsRow B 3 1 v n (natCells rs)) (hc : w.cell? ⟨g, 0, none⟩ = some (.int .i64 c)) (hl : n ≤ 100000) (hB : B ≤ w.heap.size)
    (hK : ∀ v' w2, Hid (w2.ownsRow B 3 1 v' (rs ++ [c]).length (natCells (rs ++ [c]))) → Hid (w.grownBy w2 v.ownBlock) → K (a.put o.dst v') w2) :
    if Region.wanted o (yielded ops a.tmps) = true then Oper.wp Try.prog o a w K Q else E := by
  subst hn
  obtain ⟨i0, hi, hz0, hz1, hz2⟩ := info_parts intInfo0
  have hw : Region.wanted o (yielded ops a.tmps) = true := by simp [Region.wanted, hg]
  rw [if_pos hw]
  obtain ⟨v', w2, hr, hown', hgrow, _⟩ := run_append_own (P := Try.prog) w B 27 o.type 3 i0 (.int .i64 0) 1 8 Try.underlying27 hi hz0 hz1 hz2 rfl (by decide) v rs.length (natCells rs) hown ⟨g, 0, none⟩ 1 1 [.int .i64 (c : Int)] rfl (fun j u hj => by
    match j, hj with
    | 0, hj => simp at hj; subst hj; simpa [Addr.add] using hc) (fun u hu => by simp at hu; subst hu; rfl) (by unfold maxLen; omega) (by omega) hB
  unfold Oper.wp execOp
  simp only [hop, resolve, invoke, builtin, Sem.run_bind, Sem.run_pure, Result.andThen_ok, List.map_toArray, List.map_cons, List.map_nil, hs, hx, hr]
  refine hK v' w2 (Lib.hid ?_) (Lib.hid hgrow)
  have e : natCells (rs ++ [c]) = natCells rs ++ [.int .i64 (c : Int)] := by simp [natCells]
  rw [e, List.length_append]
  exact hown'
theorem run_appS {w : World} {B n : Nat} {v : Value} {l : List UInt8} {s : ByteArray} (hn : n = l.length) (ty : TypeId) (R : w.ownsRow B 5 1 v n (Lib.byteCells l)) (hl : n ≤ 1000000000) (hs : s.size ≤ 1000000000) (hB : B ≤ w.heap.size) :
    ∃ v' w2, (Builtin.append_ #[26, 9] ty #[v, .string s]).run Try.prog w = .ok v' w2 ∧ w2.ownsRow B 5 1 v' (l ++ s.data.toList).length (Lib.byteCells (l ++ s.data.toList)) ∧ w.grownBy w2 v.ownBlock := by
  subst hn
  obtain ⟨i0, hi, hz0, hz1, hz2⟩ := info_parts byteInfo
  obtain ⟨v', w2, hr, h2, h3, _⟩ := Lib.run_append_own_string (P := Try.prog) w B 26 9 ty 5 i0 Try.underlying26 Try.underlying9 hi hz0 hz1 hz2 v l.length (Lib.byteCells l) R s (by unfold maxLen; omega) (by omega) hB
  have e1 : (l ++ s.data.toList).length = l.length + s.size := by simp
  have e2 : Lib.byteCells (l ++ s.data.toList) = Lib.byteCells l ++ Lib.strCells s := by simp [Lib.byteCells, Lib.strCells_eq]
  exact ⟨v', w2, hr, by rw [e1, e2]; exact h2, h3⟩
/-- A string's bytes behind a row of bytes, as one step of a region that draws its order. -/
theorem step_str {ops : Array Oper} {o : Oper} {a : Act} {K : Act → World → Prop} {Q : Exit → Act → World → Prop} {E : Prop} {B n : Nat} {v : Value} {l : List UInt8} {d : ByteArray} {w : World} (hn : n = l.length)
    (hg : o.guard = none) (s x : Operand) (hop : o.op = Op.call { callee := Callee.builtin Builtin.append, args := #[s, x], argTypes := #[26, 9] })
    (hs : a.eval s = v) (hx : a.eval x = .string d) (R : w.ownsRow B 5 1 v n (Lib.byteCells l)) (hl : n ≤ 1000000000) (hd : d.size ≤ 1000000000) (hB : B ≤ w.heap.size)
    (hK : ∀ v' w2, Hid (w2.ownsRow B 5 1 v' (l ++ d.data.toList).length (Lib.byteCells (l ++ d.data.toList))) → Hid (w.grownBy w2 v.ownBlock) → K (a.put o.dst v') w2) :
    if Region.wanted o (yielded ops a.tmps) = true then Oper.wp Try.prog o a w K Q else E := by
  have hw : Region.wanted o (yielded ops a.tmps) = true := by simp [Region.wanted, hg]
  rw [if_pos hw]
  obtain ⟨v', w2, hr, h2, h3⟩ := run_appS hn o.type R hl hd hB
  unfold Oper.wp execOp
  simp only [hop, resolve, invoke, builtin, Sem.run_bind, Sem.run_pure, Result.andThen_ok, List.map_toArray, List.map_cons, List.map_nil, hs, hx, hr]
  exact hK v' w2 (Lib.hid h2) (Lib.hid h3)
theorem wpList_appStr {w w' : World} {ops : Array Oper} {rest : List Oper} {o : Oper} {a : Act} {Q : Exit → Act → World → Prop} (hgd : o.guard = none) (s x : Operand)
    (ho : o.op = .call { callee := .builtin .append, args := #[s, x], argTypes := #[26, 9] }) (v v' : Value) (d : ByteArray) (hs : a.eval s = v) (hx : a.eval x = .string d)
    (hr : (Builtin.append_ #[26, 9] o.type #[v, .string d]).run Try.prog w = .ok v' w') (h : wpList Try.prog ops Q rest (a.put o.dst v') w') : wpList Try.prog ops Q (o :: rest) a w := by
  refine wpList_plain hgd fun K hK => ?_
  unfold Oper.wp execOp
  simp only [ho, resolve, invoke, builtin, Sem.run_bind, Sem.run_pure, Result.andThen_ok, List.map_toArray, List.map_cons, List.map_nil, hs, hx, hr]
  exact hK _ _ h
end Go.Proofs.Ytolmbccdkfbppaa
