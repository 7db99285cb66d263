/- A frame: below a block nothing has changed but one block. No conditions beyond those written. -/
import Derived.Test.YtblelfonnelglaaCoQ
namespace Go.Proofs.Ytblelfonnelglaa
open Go.RowKit
set_option linter.unusedSimpArgs false
set_option linter.unusedVariables false

/-- Below block B nothing has changed but block b. -/
structure Beside (B b : Nat) (w w' : World) : Prop where
  os : w'.os = w.os
  tape : w'.tape = w.tape
  output : w'.output = w.output
  size : w.heap.size ≤ w'.heap.size
  block : ∀ k, k < B → k ≠ b → w'.heap[k]? = w.heap[k]?
theorem Beside.refl (B b : Nat) (w : World) : Beside B b w w := ⟨rfl, rfl, rfl, Nat.le_refl _, fun _ _ _ => rfl⟩
theorem Beside.trans {B b : Nat} {w w1 w2 : World} (h : Beside B b w w1) (k : Beside B b w1 w2) : Beside B b w w2 :=
  ⟨k.os.trans h.os, k.tape.trans h.tape, k.output.trans h.output, Nat.le_trans h.size k.size, fun i hi hn => (k.block i hi hn).trans (h.block i hi hn)⟩
theorem Beside.alloc {B b : Nat} {a w : World} (h : Beside B b a w) (hB : B ≤ w.heap.size) (o : Obj) : Beside B b a (w.alloc o) :=
  h.trans ⟨rfl, rfl, rfl, by simp, fun k hk _ => Below.heap_alloc _ _ _ (by omega)⟩
theorem Beside.setCell {B b : Nat} {a w : World} (h : Beside B b a w) (u : Value) : Beside B b a (w.setCell ⟨b, 0, none⟩ u) :=
  h.trans ⟨rfl, rfl, rfl, by simp [World.setCell], fun k _ hn => Below.heap_setCell _ _ _ _ hn⟩
theorem Beside.grown {B b : Nat} {a w w' : World} {row : Option Nat} (h : Beside B b a w) (hg : w.grownBy w' row) (hB : B ≤ w.heap.size) (hr : ∀ k, row = some k → B ≤ k) : Beside B b a w' :=
  h.trans ⟨hg.os, hg.tape, hg.output, hg.size, fun k hk _ => hg.block k (by omega) (fun e => by have := hr k e.symm; omega)⟩
theorem Beside.below {B b B0 : Nat} {w w' : World} (h : Beside B b w w') (h0 : B0 ≤ B) (h1 : B0 ≤ b) : Below B0 w w' := ⟨h.os, h.tape, h.output, h.size, fun k hk => h.block k (by omega) (by omega)⟩
theorem beside_of {B b : Nat} {w w' : World} (h : w.grownBy w' (some b)) (hB : B ≤ w.heap.size) : Beside B b w w' := ⟨h.os, h.tape, h.output, h.size, fun k hk hn => h.block k (by omega) (fun e => hn (by cases e; rfl))⟩
end Go.Proofs.Ytblelfonnelglaa
