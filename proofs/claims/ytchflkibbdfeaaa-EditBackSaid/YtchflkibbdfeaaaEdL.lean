/- Lists and files read from codec's reader; the state behind them. Conditions: those written at each theorem. -/
import Derived.Test.YtchflkibbdfeaaaEdJ
import Derived.Test.YtchflkibbdfeaaaEdI
namespace Go.Proofs.Ytchflkibbdfeaaa
open Go.RowKit Go.Sort
set_option linter.unusedVariables false
set_option linter.unusedSimpArgs false
/-- A file's state, and the file. -/
def sF (σ : Option (List UInt8)) : Fl × Option (List UInt8) :=
  let a := sI σ
  let b := sI a.2
  let c := sT b.2
  let d := sT c.2
  let e := sI d.2
  let f := sI e.2
  (⟨a.1, b.1, c.1, d.1, e.1, f.1⟩, f.2)
/-- Some takings, one behind the other. -/
def nT {α : Type} (s : Option (List UInt8) → α × Option (List UInt8)) (σ : Option (List UInt8)) : Nat → Option (List UInt8)
  | 0 => σ
  | k + 1 => (s (nT s σ k)).2
def vT {α : Type} (s : Option (List UInt8) → α × Option (List UInt8)) (σ : Option (List UInt8)) : Nat → List α
  | 0 => []
  | k + 1 => vT s σ k ++ [(s (nT s σ k)).1]
theorem vT_len {α : Type} (s : Option (List UInt8) → α × Option (List UInt8)) (σ : Option (List UInt8)) (k : Nat) : (vT s σ k).length = k := by
  induction k with
  | zero => rfl
  | succ k ih => simp [vT, ih]
theorem sI_none : sI none = (0, none) := rfl
theorem sF_none : (sF none).2 = none := rfl
theorem nI_none (k : Nat) : nT sI none k = none := by
  induction k with
  | zero => rfl
  | succ k ih => simp [nT, ih, sI_none]
theorem nF_none (k : Nat) : nT sF none k = none := by
  induction k with
  | zero => rfl
  | succ k ih => simp [nT, ih, sF_none]
theorem sI_range {σ : Option (List UInt8)} : 0 ≤ (sI σ).1 := by
  cases σ with
  | none => exact Int.le_refl _
  | some L =>
    cases hg : gt 9223372036854775807 L 0 0 with
    | none => simp [sI, hg]
    | some q => obtain ⟨n, r⟩ := q; simp [sI, hg]
set_option maxRecDepth 100000 in
set_option maxHeartbeats 4000000 in
theorem list_over {b : Nat} {σ : Option (List UInt8)} {w : World} (h : Rd b σ w) (hn : 100 < (sI σ).1) : Calls Try.prog 32 #[.pointer (some ⟨b, 0, none⟩), .func (.func 33) #[] #[]] w fun e w' => e = .returned (.tuple #[.slice none 0 0, .bool false]) ∧ Rd b (sI σ).2 w' ∧ w.grownBy w' (some b) := by
  have CS := Lib.hid (rd_size h)
  generalize (sI σ).1 = n at *
  generalize (sI σ).2 = τ at *
  clear h
  go_enter Try.func32, Try.ntmps32
  go_wp2_with (go_at_call 33; (with_reducible refine CS.out.mono ?_); rintro e w1 ⟨rfl, hp, hg⟩; have HP := Lib.hid hp; have HG := Lib.hid hg; clear hp hg CS)
  go_ret2
  exact ⟨rfl, HP.out, HG.out⟩
theorem grown_below2 {b : Nat} {w w' : World} (h : Below w.heap.size w w') : w.grownBy w' (some b) := ⟨h.os, h.tape, h.output, h.size, fun k hk _ => h.block k hk⟩
theorem heap_set_at {w : World} {b i : Nat} {cs : Array Value} {T : TypeId} (u : Value) (hb : w.heap[b]? = some (.cells cs T (0, 0))) : (w.setCell ⟨b, i, none⟩ u).heap[b]? = some (.cells (cs.setIfInBounds i u) T (0, 0)) := by
  simp [World.setCell, Array.getElem?_modify, hb]
theorem only_alloc {b : Nat} {w0 w : World} (h : w0.grownBy w (some b)) (o : Obj) : w0.grownBy (w.alloc o) (some b) := only_trans h (grown_below2 ((Below.refl _ _).alloc (Nat.le_refl _) o))
theorem only_row {b : Nat} {w0 w1 w2 : World} {row : Option Nat} (h : w0.grownBy w1 (some b)) (k : w1.grownBy w2 row) (hr : ∀ g, row = some g → w0.heap.size ≤ g) : w0.grownBy w2 (some b) :=
  ⟨k.os.trans h.os, k.tape.trans h.tape, k.output.trans h.output, Nat.le_trans h.size k.size, fun i hi hne => (k.block i (Nat.lt_of_lt_of_le hi h.size) (fun e => by have := hr i e.symm; omega)).trans (h.block i hi hne)⟩
theorem intInfo : (Try.prog.info? 3).map (fun i => (i.zero, i.size, i.bytes)) = some (some (.int .i64 0), 1, 8) := by kernel_rfl
def ivs (l : List Int) : List Value := l.map (Value.int .i64)
/-- append(l, n), at a slice of the walk's own with one int. -/
theorem wpList_appI {w : World} {ops : Array Oper} {rest : List Oper} {o : Oper} {a : Act} {Q : Exit → Act → World → Prop} (hgd : o.guard = none) (s x : Operand)
    (ho : o.op = .call { callee := .builtin .append, args := #[s, x], argTypes := #[22, 22] })
    (B : Nat) (v : Value) (n : Nat) (l : List Int) (f : Int) (hs : a.eval s = v) (hown : w.ownsRow B 3 1 v n (ivs l)) (g : Nat) (hx : a.eval x = .slice (some ⟨g, 0, none⟩) 1 1)
    (hc : w.cell? ⟨g, 0, none⟩ = some (.int .i64 f)) (hl : n ≤ 1000) (hB : B ≤ w.heap.size)
    (h : ∀ v' w', w'.ownsRow B 3 1 v' (n + 1) (ivs (l ++ [f])) → w.grownBy w' v.ownBlock → wpList Try.prog ops Q rest (a.put o.dst v') w') :
    wpList Try.prog ops Q (o :: rest) a w := by
  obtain ⟨i, hi, hz0, hz1, hz2⟩ := info_parts intInfo
  refine wpList_append_own w hgd s x 22 ho B 3 i (.int .i64 0) 1 8 Try.underlying22 hi hz0 hz1 hz2 rfl (by decide) v n (ivs l) hs hown ⟨g, 0, none⟩ 1 1 [.int .i64 f] hx rfl ?_ ?_ ?_ ?_ hB ?_
  · intro j u hj
    match j, hj with
    | 0, hj => simp at hj; subst hj; exact hc
  · intro u hu
    simp at hu
    subst hu
    rfl
  · unfold maxLen; omega
  · omega
  · intro v' w' h1 h2 _
    refine h v' w' ?_ h2
    have e : ivs (l ++ [f]) = ivs l ++ [.int .i64 f] := by simp [ivs]
    rw [e]
    exact h1
theorem VAt.row {B T n c : Nat} {va : Option Addr} {l : List Int} {w : World} (h : w.ownsRow B T 1 (.slice va n c) n (ivs l)) (hn : n = l.length) : VAt w.heap.size va (l.map (Value.int .i64)) w := by
  rcases h.2 with ⟨hv, h0⟩ | ⟨b, cp, cur, hv, hb, hg, hc, _, hsz, htk⟩
  · refine ⟨fun hp => by simp at hp; omega, fun a e hp => by simp at hp; omega⟩
  · injection hv with e1 _ e3
    subst e1 e3
    refine ⟨fun _ => ⟨_, rfl⟩, fun a e hp => ?_⟩
    cases e
    refine ⟨lt_of_heap hg, fun i x hx => ?_⟩
    have hi : i < l.length := by have := (List.getElem?_eq_some_iff.1 hx).1; simpa using this
    have ea : (⟨b, 0, none⟩ : Addr).add i = ⟨b, i, none⟩ := by unfold Addr.add; split <;> simp_all
    rw [ea, cell_blk hg, ← hx, show l.map (Value.int .i64) = ivs l from rfl, ← htk, List.getElem?_take_of_lt (by omega)]
    simp
set_option maxRecDepth 100000 in
set_option maxHeartbeats 4000000 in
theorem list_ints {b : Nat} {σ τ : Option (List UInt8)} {n : Nat} {w : World} (h : Rd b σ w) (hq : sI σ = ((n : Int), τ)) (hn : n ≤ 100) : Calls Try.prog 32 #[.pointer (some ⟨b, 0, none⟩), .func (.func 33) #[] #[]] w fun e w' => (∃ va vc, e = .returned (.tuple #[.slice va n vc, .bool true]) ∧ n ≤ vc ∧ vc ≤ maxLen ∧ VAt w'.heap.size va ((vT sI τ n).map (Value.int .i64)) w' ∧ ∀ a, va = some a → w.heap.size ≤ a.block) ∧ Rd b (nT sI τ n) w' ∧ w.grownBy w' (some b) := by
  have CS := Lib.hid (rd_size h)
  rw [hq] at CS
  have HLT := Lib.hid h.lt
  clear h hq
  go_enter Try.func32, Try.ntmps32
  go_upto_region 6 with (go_at_call 33; (with_reducible refine CS.out.mono ?_); rintro e w1 ⟨rfl, hp, hg⟩; have HP0 := Lib.hid hp; have HG0 := Lib.hid hg; clear hp hg CS)
  go_loopw [7, 13] (fun v i wr => ∃ j : Nat, j ≤ n ∧ i = .int .i64 j ∧ Hid (wr.ownsRow w.heap.size 3 1 v j (ivs (vT sI τ j))) ∧ Hid (Rd b (nT sI τ j) wr) ∧ Hid (w.grownBy wr (some b))) (fun _ i _ => n - (intOf i).toNat)
  case atStart => exact ⟨0, by omega, rfl, Lib.hid (World.ownsRow_nil w1 w.heap.size 3 1), HP0, HG0⟩
  case round =>
    clear HP0 HG0
    obtain ⟨j, hj, rfl, HR, HP, HG⟩ := hrel
    obtain ⟨va, vc, rfl⟩ := row_form HR.out
    by_cases hlt : j < n
    · have CS := Lib.hid (rd_size HP.out)
      obtain ⟨d, hd⟩ : ∃ d, d = (sI (nT sI τ j)).1 := ⟨_, rfl⟩
      have HDD := Lib.hid hd
      rw [← hd] at CS
      clear hd
      go_wp2_with (first | (go_at_call 33; (with_reducible refine CS.out.mono ?_); rintro e w2 ⟨rfl, hp, hg⟩; have HP2 := Lib.hid hp; have HG2 := Lib.hid (only_trans HG.out hg); have HR2 := Lib.hid (row_stay HR.out fun q hq => hg.block q (lt_of_heap (rowKind HR.out hq).choose_spec) (fun e => by have h1 := (HR.out.lt q hq).1; have h2 := HLT.out; injection e with e; omega)); clear hp hg CS) | (at_builtin; refine wpList_appI rfl _ _ rfl w.heap.size _ j (vT sI τ j) d rfl (HR2.out.alloc _) w2.heap.size rfl (cell_blk (heap_alloc_new w2 (.cells #[.int .i64 d] 3)) 0) (by omega) (by have := HG2.out.size; simp; omega) ?_; intro v' w3 hown3 hgr3; have HR3 := Lib.hid hown3; have HP3 : Hid (Rd b (sI (nT sI τ j)).2 w3) := Lib.hid (HP2.out.under ((hgr3.block b (by have := HP2.out.lt; simp; omega) (fun e => by have h1 := (HR2.out.lt b e.symm).1; have h2 := HLT.out; omega)).trans (Below.heap_alloc _ _ _ HP2.out.lt))); have HG3 := Lib.hid (only_row (only_alloc HG2.out (.cells #[.int .i64 d] 3)) hgr3 (fun q hq => (HR2.out.lt q hq).1)); clear hown3 hgr3))
      go_roundw
      case rel => exact ⟨j + 1, by omega, by go_num, Lib.hid (by rw [HDD.out] at HR3; exact HR3.out), HP3, HG3⟩
      case measure => simp [intOf]; omega
    · obtain rfl : j = n := by omega
      have hrow := HR.out
      have HL : Hid (j ≤ vc ∧ vc ≤ maxLen ∧ VAt wr.heap.size va ((vT sI τ j).map (Value.int .i64)) wr ∧ ∀ a, va = some a → w.heap.size ≤ a.block) := Lib.hid (by
        refine (fun (q : j ≤ vc ∧ vc ≤ maxLen) => ⟨q.1, q.2, VAt.row hrow (vT_len _ _ _).symm, fun a ha => hrow.lt a.block (by rw [ha]; rfl) |>.1⟩) ?_
        rcases hrow.2 with ⟨hv, h0⟩ | ⟨b, cp, cur, hv, hb, hg, hc, hcm, hsz, htk⟩
        · injection hv with e1 _ e3
          unfold maxLen
          omega
        · injection hv with e1 _ e3
          subst e3
          exact ⟨hc, hcm⟩)
      clear hrow
      go_wp2_with fail
      go_ret2
      exact ⟨⟨va, vc, rfl, HL.out.1, HL.out.2.1, HL.out.2.2.1, HL.out.2.2.2⟩, HP.out, HG.out⟩
end Go.Proofs.Ytchflkibbdfeaaa
