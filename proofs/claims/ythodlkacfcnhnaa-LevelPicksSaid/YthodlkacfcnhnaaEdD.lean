/- Files as a model of ints and texts; a slice of them in memory; the law's great, files, of. Conditions: those written at each theorem. -/
import Derived.Test.YthodlkacfcnhnaaEdC
import Derived.Deep.RegionHeld3
namespace Go.Proofs.Ythodlkacfcnhnaa
open Go.RowKit Go.Sort
set_option linter.unusedVariables false
set_option linter.unusedSimpArgs false
/-- A file. -/
structure Fl where
  num : Int
  lvl : Int
  fst : ByteArray
  lst : ByteArray
  cnt : Int
  sz : Int
def fl (f : Fl) : List Value := [.int .i64 f.num, .int .i64 f.lvl, .string f.fst, .string f.lst, .int .i64 f.cnt, .int .i64 f.sz]
def fls (l : List Fl) : List Value := l.flatMap fl
theorem fls_cons (f : Fl) (l : List Fl) : fls (f :: l) = fl f ++ fls l := rfl
theorem fls_snoc (l : List Fl) (f : Fl) : fls (l ++ [f]) = fls l ++ fl f := by simp [fls]
theorem fls_get : ∀ (l : List Fl) (i k : Nat) (f : Fl), l[i]? = some f → k < 6 → (fls l)[i * 6 + k]? = (fl f)[k]?
  | x :: l, 0, k, f, h, hk => by
    simp at h
    subst h
    rw [fls_cons, List.getElem?_append_left (by simp [fl]; omega)]
    simp
  | x :: l, i + 1, k, f, h, hk => by
    rw [fls_cons, List.getElem?_append_right (by simp [fl]; omega)]
    have := fls_get l i k f (by simpa using h) hk
    rw [← this]
    congr 1
    simp [fl]
    omega
/-- A file's cells at an address. -/
def SixAt (w : World) (a : Addr) (f : Fl) : Prop :=
  w.cell? a = some (.int .i64 f.num) ∧ w.cell? ⟨a.block, a.off + 1, none⟩ = some (.int .i64 f.lvl) ∧ w.cell? ⟨a.block, a.off + 2, none⟩ = some (.string f.fst) ∧ w.cell? ⟨a.block, a.off + 3, none⟩ = some (.string f.lst) ∧ w.cell? ⟨a.block, a.off + 4, none⟩ = some (.int .i64 f.cnt) ∧ w.cell? ⟨a.block, a.off + 5, none⟩ = some (.int .i64 f.sz)
theorem SixAt.under {B : Nat} {w w' : World} {a : Addr} {f : Fl} (h : SixAt w a f) (hb : a.block < B) (k : Below B w w') : SixAt w' a f := by
  obtain ⟨h0, h1, h2, h3, h4, h5⟩ := h
  exact ⟨(k.cell (p := a) hb).trans h0, (k.cell (p := ⟨_, _, none⟩) hb).trans h1, (k.cell (p := ⟨_, _, none⟩) hb).trans h2, (k.cell (p := ⟨_, _, none⟩) hb).trans h3, (k.cell (p := ⟨_, _, none⟩) hb).trans h4, (k.cell (p := ⟨_, _, none⟩) hb).trans h5⟩
theorem add_blk (a : Addr) (j : Nat) : (a.add j).block = a.block := by unfold Addr.add; split <;> rfl
/-- Files in memory below a block. -/
structure FlAt (B : Nat) (ao : Option Addr) (l : List Fl) (w : World) : Prop where
  there : 0 < l.length → ∃ a, ao = some a
  cells : ∀ a, ao = some a → 0 < l.length → a.block < B ∧ ∀ (i : Nat) f, l[i]? = some f → SixAt w (a.add (i * 6)) f
theorem FlAt.under {B : Nat} {ao : Option Addr} {l : List Fl} {w w' : World} (h : FlAt B ao l w) (k : Below B w w') : FlAt B ao l w' :=
  ⟨h.there, fun a e hp => ⟨(h.cells a e hp).1, fun i x hi => ((h.cells a e hp).2 i x hi).under (by rw [add_blk]; exact (h.cells a e hp).1) k⟩⟩
theorem FlAt.more {B C : Nat} {ao : Option Addr} {l : List Fl} {w : World} (h : FlAt B ao l w) (k : B ≤ C) : FlAt C ao l w :=
  ⟨h.there, fun a e hp => ⟨Nat.lt_of_lt_of_le (h.cells a e hp).1 k, (h.cells a e hp).2⟩⟩
/-- Ints in memory below a block. -/
structure VAt (B : Nat) (ao : Option Addr) (l : List Value) (w : World) : Prop where
  there : 0 < l.length → ∃ a, ao = some a
  cells : ∀ a, ao = some a → 0 < l.length → a.block < B ∧ ∀ (i : Nat) x, l[i]? = some x → w.cell? (a.add i) = some x
theorem VAt.under {B : Nat} {ao : Option Addr} {l : List Value} {w w' : World} (h : VAt B ao l w) (k : Below B w w') : VAt B ao l w' :=
  ⟨h.there, fun a e hp => ⟨(h.cells a e hp).1, fun i x hi => (k.cell (p := a.add i) (by
    have : (a.add i).block = a.block := by unfold Addr.add; split <;> rfl
    rw [this]; exact (h.cells a e hp).1)).trans ((h.cells a e hp).2 i x hi)⟩⟩
theorem FlAt.row {B T n c : Nat} {va : Option Addr} {l : List Fl} {w : World} (h : w.ownsRow B T 6 (.slice va n c) n (fls l)) (hn : n = l.length) : FlAt w.heap.size va l w := by
  rcases h.2 with ⟨hv, h0⟩ | ⟨b, cp, cur, hv, hb, hg, hc, _, hsz, htk⟩
  · refine ⟨fun hp => by omega, fun a e hp => by omega⟩
  · injection hv with e1 _ e3
    subst e1 e3
    refine ⟨fun _ => ⟨_, rfl⟩, fun a e hp => ?_⟩
    cases e
    refine ⟨lt_of_heap hg, fun i f hf => ?_⟩
    have hi : i < l.length := (List.getElem?_eq_some_iff.1 hf).1
    have hcell : ∀ k, k < 6 → w.cell? ⟨b, i * 6 + k, none⟩ = (fl f)[k]? := by
      intro k hk
      rw [cell_blk hg, ← fls_get l i k f hf hk, ← htk, List.getElem?_take_of_lt (by omega)]
      simp
    have ea : ∀ j, (⟨b, 0, none⟩ : Addr).add j = ⟨b, j, none⟩ := fun j => by unfold Addr.add; split <;> simp_all
    rw [ea]
    exact ⟨hcell 0 (by omega), hcell 1 (by omega), hcell 2 (by omega), hcell 3 (by omega), hcell 4 (by omega), hcell 5 (by omega)⟩
theorem FlAt.set {B : Nat} {ao : Option Addr} {l : List Fl} {w : World} (h : FlAt B ao l w) (p : Addr) (v : Value) (hne : ∀ a, ao = some a → p.block ≠ a.block) : FlAt B ao l (w.setCell p v) :=
  ⟨h.there, fun a e hp => ⟨(h.cells a e hp).1, fun i x hi => by
    obtain ⟨h0, h1, h2, h3, h4, h5⟩ := (h.cells a e hp).2 i x hi
    have hb : p.block ≠ (a.add (i * 6)).block := by rw [add_blk]; exact hne a e
    refine ⟨?_, ?_, ?_, ?_, ?_, ?_⟩
    · rw [World.cell?_setCell_far _ _ _ _ hb]; exact h0
    · rw [World.cell?_setCell_far _ _ _ _ (by exact hb)]; exact h1
    · rw [World.cell?_setCell_far _ _ _ _ (by exact hb)]; exact h2
    · rw [World.cell?_setCell_far _ _ _ _ (by exact hb)]; exact h3
    · rw [World.cell?_setCell_far _ _ _ _ (by exact hb)]; exact h4
    · rw [World.cell?_setCell_far _ _ _ _ (by exact hb)]; exact h5⟩⟩
/-- append(l, f), at a slice of the walk's own with one file. -/
theorem wpList_appFl {w : World} {ops : Array Oper} {rest : List Oper} {o : Oper} {a : Act} {Q : Exit → Act → World → Prop} (hgd : o.guard = none) (s x : Operand)
    (ho : o.op = .call { callee := .builtin .append, args := #[s, x], argTypes := #[32, 32] })
    (B : Nat) (v : Value) (n : Nat) (l : List Fl) (f : Fl) (hs : a.eval s = v) (hown : w.ownsRow B 60 6 v n (fls l)) (g : Nat) (hx : a.eval x = .slice (some ⟨g, 0, none⟩) 1 1)
    (hc : SixAt w ⟨g, 0, none⟩ f) (hl : n ≤ 1000) (hB : B ≤ w.heap.size)
    (h : ∀ v' w', w'.ownsRow B 60 6 v' (n + 1) (fls (l ++ [f])) → w.grownBy w' v.ownBlock → wpList Try.prog ops Q rest (a.put o.dst v') w') :
    wpList Try.prog ops Q (o :: rest) a w := by
  obtain ⟨i, hi, hz0, hz1, hz2⟩ := info_parts fileInfo
  obtain ⟨c0, c1, c2, c3, c4, c5⟩ := hc
  refine wpList_append_own w hgd s x 32 ho B 60 i (.agg #[.int .i64 0, .int .i64 0, .string ⟨#[]⟩, .string ⟨#[]⟩, .int .i64 0, .int .i64 0]) 6 64 Try.underlying32 hi hz0 hz1 hz2 rfl (by decide) v n (fls l) hs hown ⟨g, 0, none⟩ 1 1 (fl f) hx rfl ?_ ?_ ?_ ?_ hB ?_
  · intro j u hj
    match j, hj with
    | 0, hj => simp [fl] at hj; subst hj; exact c0
    | 1, hj => simp [fl] at hj; subst hj; exact c1
    | 2, hj => simp [fl] at hj; subst hj; exact c2
    | 3, hj => simp [fl] at hj; subst hj; exact c3
    | 4, hj => simp [fl] at hj; subst hj; exact c4
    | 5, hj => simp [fl] at hj; subst hj; exact c5
  · intro u hu
    simp [fl] at hu
    rcases hu with rfl | rfl | rfl | rfl | rfl | rfl <;> rfl
  · unfold maxLen; omega
  · omega
  · intro v' w' h1 h2 _
    refine h v' w' ?_ h2
    rw [fls_snoc]
    exact h1
def Rg (n : Nat) (e : Ending) : Prop := ∃ r, e = .returned (.bool r) ∧ (r = false → n ≤ 101)
theorem Rg.yes (n : Nat) : Rg n (.returned (.bool true)) := ⟨_, rfl, fun h => by cases h⟩
theorem Rg.no {n : Nat} (h : n ≤ 101) : Rg n (.returned (.bool false)) := ⟨_, rfl, fun _ => h⟩
theorem undraw {B : Nat} {w W : World} (h : Below B w.drew W) : Below B w W := ⟨h.os, h.tape, h.output, h.size, h.block⟩
theorem five_cells {w : World} {k : Nat} {c0 c1 c2 c3 c4 : Value} {t : TypeId} (h : w.heap[k]? = some (.cells #[c0, c1, c2, c3, c4] t (0, 0))) : w.cell? ⟨k, 0, none⟩ = some c0 ∧ w.cell? ⟨k, 1, none⟩ = some c1 ∧ w.cell? ⟨k, 2, none⟩ = some c2 ∧ w.cell? ⟨k, 3, none⟩ = some c3 ∧ w.cell? ⟨k, 4, none⟩ = some c4 :=
  ⟨cell_blk h 0, cell_blk h 1, cell_blk h 2, cell_blk h 3, cell_blk h 4⟩
end Go.Proofs.Ythodlkacfcnhnaa
