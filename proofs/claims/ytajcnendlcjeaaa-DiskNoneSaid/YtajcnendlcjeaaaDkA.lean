/- A disk in memory: its block, its map, its files; what stays of it. Conditions: those written at each theorem. -/
import Derived.Test.YtajcnendlcjeaaaProg
import Derived.Test.YtajcnendlcjeaaaHelp
import Derived.Test.YtajcnendlcjeaaaDkM
import Derived.Laws.Rows
import Derived.Laws.AppendOwn
import Derived.Laws.OwnMore
import Derived.Lib.SmallJoins
namespace Go.Proofs.Ytajcnendlcjeaaa
open Go.RowKit Go.Maps Go.WideShapes
set_option linter.unusedVariables false
set_option linter.unusedSimpArgs false

/-- Only these blocks have changed, and new ones may be there. -/
structure Only (F : List Nat) (w w' : World) : Prop where
  os : w'.os = w.os
  tape : w'.tape = w.tape
  output : w'.output = w.output
  size : w.heap.size ≤ w'.heap.size
  block : ∀ k, k < w.heap.size → k ∉ F → w'.heap[k]? = w.heap[k]?
theorem Only.refl (F : List Nat) (w : World) : Only F w w := ⟨rfl, rfl, rfl, Nat.le_refl _, fun _ _ _ => rfl⟩
theorem Only.trans {F G : List Nat} {w w1 w2 : World} (h : Only F w w1) (k : Only G w1 w2) (hg : ∀ x ∈ G, x ∈ F ∨ w.heap.size ≤ x) : Only F w w2 :=
  ⟨k.os.trans h.os, k.tape.trans h.tape, k.output.trans h.output, Nat.le_trans h.size k.size, fun x hx hn => (k.block x (Nat.lt_of_lt_of_le hx h.size) (fun hm => (hg x hm).elim hn (fun h => by omega))).trans (h.block x hx hn)⟩
theorem Only.mono {F G : List Nat} {w w' : World} (h : Only F w w') (hg : ∀ x ∈ F, x ∈ G) : Only G w w' := ⟨h.os, h.tape, h.output, h.size, fun k hk hn => h.block k hk (fun hm => hn (hg k hm))⟩
theorem Only.set {F : List Nat} {w w' : World} (h : Only F w w') {a : Addr} (ha : a.block ∈ F ∨ w.heap.size ≤ a.block) (v : Value) : Only F w (w'.setCell a v) :=
  ⟨h.os, h.tape, h.output, by simpa using h.size, fun k hk hn => by rw [Below.heap_setCell _ _ _ _ (fun e => ha.elim (fun hm => hn (by rw [e]; exact hm)) (fun hl => by omega))]; exact h.block k hk hn⟩
theorem Only.alloc {F : List Nat} {w w' : World} (h : Only F w w') (o : Obj) : Only F w (w'.alloc o) :=
  ⟨h.os, h.tape, h.output, Nat.le_trans h.size (by simp), fun k hk hn => by rw [Below.heap_alloc _ _ _ (Nat.lt_of_lt_of_le hk h.size)]; exact h.block k hk hn⟩
theorem Only.drew {F : List Nat} {w w' : World} (h : Only F w w') : Only F w w'.drew := ⟨h.os, h.tape, h.output, h.size, h.block⟩
theorem Only.drewN {F : List Nat} {w w' : World} (h : Only F w w') (n : Nat) : Only F w (w'.drewN n) := ⟨h.os, h.tape, h.output, h.size, h.block⟩
theorem Only.grown {F : List Nat} {w w' w2 : World} {r : Option Nat} (h : Only F w w') (g : w'.grownBy w2 r) (hr : ∀ k, r = some k → k ∈ F ∨ w.heap.size ≤ k) : Only F w w2 :=
  ⟨g.os.trans h.os, g.tape.trans h.tape, g.output.trans h.output, Nat.le_trans h.size g.size, fun k hk hn => (g.block k (Nat.lt_of_lt_of_le hk h.size) (fun e => (hr k e.symm).elim hn (fun hl => by omega))).trans (h.block k hk hn)⟩
theorem Only.below {F : List Nat} {w w' : World} (h : Only F w w') {B : Nat} (hF : ∀ x ∈ F, B ≤ x) (hB : B ≤ w.heap.size) {w0 : World} (h0 : Below B w0 w) : Below B w0 w' :=
  ⟨h.os.trans h0.os, h.tape.trans h0.tape, h.output.trans h0.output, Nat.le_trans h0.size h.size, fun k hk => (h.block k (by omega) (fun hm => by have := hF k hm; omega)).trans (h0.block k hk)⟩
theorem Below.only {w w' : World} (h : Below w.heap.size w w') (F : List Nat) : Only F w w' := ⟨h.os, h.tape, h.output, h.size, fun k hk _ => h.block k hk⟩
theorem row_stay {B n : Nat} {e : TypeId} {z : Nat} {v : Value} {xs : List Value} {w w' : World} (h : w.ownsRow B e z v n xs) (hg : ∀ g, v.ownBlock = some g → w'.heap[g]? = w.heap[g]?) : w'.ownsRow B e z v n xs := by
  refine ⟨h.1, ?_⟩
  rcases h.2 with hn | ⟨g, cap, cur, rfl, hb, hgg, rest⟩
  · exact .inl hn
  · exact .inr ⟨g, cap, cur, rfl, hb, (hg g rfl).trans hgg, rest⟩
theorem map_stay {k : TypeId} {R : Value → Option (DataW Unit × List MemPlace)} {b n : Nat} {D : DataW Unit} {w w' : World} (h : w.ownsMap Try.prog k R b n D) (hb : w'.heap[b]? = w.heap[b]?) : w'.ownsMap Try.prog k R b n D := by
  obtain ⟨es, clock, hes, F, hs, hD⟩ := h
  exact ⟨es, clock, hb.trans hes, F, hs, hD⟩
theorem map_fit {k : TypeId} {R : Value → Option (DataW Unit × List MemPlace)} {b n : Nat} {D : DataW Unit} {w : World} (h : w.ownsMap Try.prog k R b n D) : w.ownsMap Try.prog k R b (size D) D := by
  obtain ⟨es, clock, hes, F, hs, hD⟩ := h
  refine ⟨es, clock, hes, F, ?_, hD⟩
  rw [hD, size_eq, length_read]
  exact Nat.le_refl _

/-- Bytes as cells. -/
abbrev u8s (l : List UInt8) : List Value := l.map fun c => .int .u8 (c.toNat : Int)
/-- A file in memory. -/
structure FileAt (B : Nat) (f : FileG) (w : World) : Prop where
  hd : w.heap[f.blk]? = some (.cells #[f.v, .int .i64 f.safe] 70 (0, 0))
  row : w.ownsRow B 5 1 f.v f.bytes.length (u8s f.bytes)
/-- The blocks of a file. -/
def FileG.own (f : FileG) : List Nat := f.blk :: f.v.ownBlock.toList
/-- A disk, as it is told. -/
structure DS where
  room : Int
  used : Int
  written : Int
  calls : Int
  off : Bool
  armed : Bool
  left : Int
  fs : List FileG
/-- A disk in memory: block b, map m. -/
structure DkAt (B b m : Nat) (S : DS) (w : World) : Prop where
  hd : w.heap[b]? = some (.cells #[.int .i64 S.room, .int .i64 S.used, .int .i64 S.written, .int .i64 S.calls, .map (some m), .bool S.off, .bool S.armed, .int .i64 S.left] 64 (0, 0))
  mp : w.ownsMap Try.prog 9 rp m S.fs.length (mkD S.fs)
  fl : ∀ f ∈ S.fs, FileAt B f w
  nd : (b :: m :: S.fs.flatMap FileG.own).Nodup
  lo : ∀ k ∈ b :: m :: S.fs.flatMap FileG.own, B ≤ k
/-- The blocks of a disk. -/
abbrev foot (b m : Nat) (S : DS) : List Nat := b :: m :: S.fs.flatMap FileG.own
theorem FileAt.stay {B : Nat} {f : FileG} {w w' : World} (h : FileAt B f w) (hk : ∀ k ∈ f.own, w'.heap[k]? = w.heap[k]?) : FileAt B f w' :=
  ⟨(hk f.blk (by simp [FileG.own])).trans h.hd, row_stay h.row fun g hg => hk g (by simp [FileG.own, hg])⟩
theorem DkAt.stay {B b m : Nat} {S : DS} {w w' : World} (h : DkAt B b m S w) (hk : ∀ k ∈ foot b m S, w'.heap[k]? = w.heap[k]?) : DkAt B b m S w' :=
  ⟨(hk b (by simp)).trans h.hd, map_stay h.mp (hk m (by simp)), fun f hf => (h.fl f hf).stay fun k hk' => hk k (by simp only [foot, List.mem_cons, List.mem_flatMap]; exact .inr (.inr ⟨f, hf, hk'⟩)), h.nd, h.lo⟩
theorem lt_of_heap {w : World} {k : Nat} {o : Obj} (h : w.heap[k]? = some o) : k < w.heap.size := (Array.getElem?_eq_some_iff.1 h).1
theorem FileAt.lt {B : Nat} {f : FileG} {w : World} (h : FileAt B f w) : ∀ k ∈ f.own, k < w.heap.size := by
  intro k hk
  simp only [FileG.own, List.mem_cons, Option.mem_toList] at hk
  rcases hk with rfl | hk
  · exact lt_of_heap h.hd
  · exact (h.row.lt k hk).2
theorem DkAt.lt {B b m : Nat} {S : DS} {w : World} (h : DkAt B b m S w) : ∀ k ∈ foot b m S, k < w.heap.size := by
  intro k hk
  simp only [foot, List.mem_cons, List.mem_flatMap] at hk
  rcases hk with rfl | rfl | ⟨f, hf, hk⟩
  · exact lt_of_heap h.hd
  · exact h.mp.lt
  · exact (h.fl f hf).lt k hk
/-- Changes elsewhere leave a disk as it is. -/
theorem DkAt.under {B b m : Nat} {S : DS} {w w' : World} (h : DkAt B b m S w) (k : Below w.heap.size w w') : DkAt B b m S w' := h.stay fun x hx => k.block x (h.lt x hx)
theorem DkAt.other {B b m : Nat} {S : DS} {w w' : World} (h : DkAt B b m S w) {F : List Nat} (k : Only F w w') (hF : ∀ x ∈ foot b m S, x ∉ F) : DkAt B b m S w' := h.stay fun x hx => k.block x (h.lt x hx) (hF x hx)
/-- The cells of a block that is known. -/
theorem cell_blk {w : World} {k : Nat} {cs : Array Value} {t : TypeId} (h : w.heap[k]? = some (.cells cs t (0, 0))) (i : Nat) : w.cell? ⟨k, i, none⟩ = cs[i]? := Joins.cell_of_block h i
theorem free_blk {w : World} {k : Nat} {cs : Array Value} {t : TypeId} (h : w.heap[k]? = some (.cells cs t (0, 0))) (i : Nat) : w.frozen? ⟨k, i, none⟩ = false := Joins.unfrozen_of_block h i
/-- The disk's own numbers change. -/
theorem DkAt.head {B b m : Nat} {S S' : DS} {w w' : World} (h : DkAt B b m S w) (hfs : S'.fs = S.fs) (hk : ∀ k, k ≠ b → w'.heap[k]? = w.heap[k]?)
    (hd : w'.heap[b]? = some (.cells #[.int .i64 S'.room, .int .i64 S'.used, .int .i64 S'.written, .int .i64 S'.calls, .map (some m), .bool S'.off, .bool S'.armed, .int .i64 S'.left] 64 (0, 0))) : DkAt B b m S' w' := by
  have nd := h.nd
  refine ⟨hd, by rw [hfs]; exact map_stay h.mp (hk m (fun e => by subst e; simp at nd)), fun f hf => ?_, by rw [hfs]; exact h.nd, by rw [hfs]; exact h.lo⟩
  rw [hfs] at hf
  refine (h.fl f hf).stay fun k hk' => hk k (fun e => ?_)
  subst e
  exact (List.nodup_cons.1 nd).1 (List.mem_cons_of_mem _ (List.mem_flatMap.2 ⟨f, hf, hk'⟩))
end Go.Proofs.Ytajcnendlcjeaaa
