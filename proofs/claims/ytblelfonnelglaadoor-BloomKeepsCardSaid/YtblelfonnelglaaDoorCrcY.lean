/- A slice of bytes that a call made of a string, known byte by byte. No conditions beyond those written. -/
import Derived.Test.YtblelfonnelglaaDoorCrcQ
import Derived.Lib.ConvBytes
namespace Go.Proofs.YtblelfonnelglaaDoor
open Go.RowKit
set_option linter.unusedSimpArgs false
set_option linter.unusedVariables false

/-- Bytes in block b, from its beginning on. -/
def Bts (b : Nat) (l : List UInt8) (w : World) : Prop := ∃ arr fr, w.heap[b]? = some (.cells arr 5 fr) ∧ l.length ≤ arr.size ∧ arr.size ≤ fr.1 ∧ ∀ i, (h : i < l.length) → arr[i]? = some (.int .u8 l[i].toNat)
theorem Bts.cell {b : Nat} {l : List UInt8} {w : World} (h : Bts b l w) (i : Nat) (hi : i < l.length) : w.cell? ⟨b, i, none⟩ = some (.int .u8 l[i].toNat) := by
  obtain ⟨arr, fr, hb, hs, hf, ha⟩ := h
  rw [Lib.cell_of_heap hb]
  exact ha i hi
theorem Bts.frozen {b : Nat} {l : List UInt8} {w : World} (h : Bts b l w) (i : Nat) (hi : i < l.length) : w.frozen? ⟨b, i, none⟩ = false := by
  obtain ⟨arr, fr, hb, hs, hf, ha⟩ := h
  simp [World.frozen?, hb]
  omega
theorem Bts.set {b : Nat} {l l' : List UInt8} {w : World} {i : Nat} {c : UInt8} {v : Int} (h : Bts b l w) (hi : i < l.length) (hl : l' = l.set i c) (hv : v = (c.toNat : Int)) : Bts b l' (w.setCell ⟨b, i, none⟩ (.int .u8 v)) := by
  obtain ⟨arr, fr, hb, hs, hf, ha⟩ := h
  subst hl hv
  refine ⟨arr.setIfInBounds i (.int .u8 c.toNat), fr, by simp [World.setCell, Array.getElem?_modify, hb], by simpa using hs, by simpa using hf, fun j hj => ?_⟩
  have hj' : j < l.length := by simpa using hj
  by_cases e : j = i
  · subst e
    rw [Array.getElem?_setIfInBounds_self_of_lt (by omega)]
    simp
  · rw [Array.getElem?_setIfInBounds_ne (by omega), List.getElem_set_ne (by omega)]
    exact ha j hj'
theorem Bts.below {b B : Nat} {l : List UInt8} {w w' : World} (h : Bts b l w) (k : Below B w w') (hb : b < B) : Bts b l w' := by
  obtain ⟨arr, fr, h1, h2⟩ := h
  exact ⟨arr, fr, (k.block b hb).trans h1, h2⟩
theorem Bts.lt {b : Nat} {l : List UInt8} {w : World} (h : Bts b l w) : b < w.heap.size := by
  obtain ⟨arr, fr, h1, _⟩ := h
  exact (Array.getElem?_eq_some_iff.1 h1).1
theorem Bts.next {b : Nat} {l : List UInt8} {w w' : World} (h : Bts b l w) (k : Below w.heap.size w w') : Bts b l w' := h.below k h.lt
theorem Bts.drew {b : Nat} {l : List UInt8} {w : World} (h : Bts b l w) : Bts b l w.drew := h
theorem Bts.of_str (w : World) (s : ByteArray) : Bts w.heap.size s.data.toList (Lib.bytesWorld w 5 s) :=
  ⟨_, _, Lib.bytesWorld_at_new w _ s, by simp [Lib.bytesCells], Nat.le_refl _, fun i hi => by
    have hi' : i < s.data.size := by simpa using hi
    rw [Lib.bytesCells, Array.getElem?_append_left (by simpa using hi')]
    rw [Array.getElem?_map, Array.getElem?_eq_getElem hi']
    simp⟩
theorem bytesWorld_below (w : World) (s : ByteArray) : Below w.heap.size w (Lib.bytesWorld w 5 s) :=
  ⟨rfl, rfl, rfl, by rw [Lib.bytesWorld_size]; omega, fun k hk => Lib.bytesWorld_at_old w _ s k hk⟩
theorem str_bytes (w : World) (s : ByteArray) : (convert 9 40 (.string s)).run Tryd.prog w = .ok (.slice (some ⟨w.heap.size, 0, none⟩) s.size (grownCap w s.size 0 5)) (Lib.bytesWorld w 5 s) :=
  Lib.run_convert_string_bytes w _ _ _ s Tryd.underlying9 Tryd.underlying40 Tryd.underlying5
theorem bytes_str {b : Nat} {l : List UInt8} {w : World} (h : Bts b l w) (n cap : Nat) (hn : n = l.length) : (convert 40 9 (.slice (some ⟨b, 0, none⟩) n cap)).run Tryd.prog w = .ok (.string (bstr l)) w := by
  subst hn
  have := run_convert_bytes_arg (P := Tryd.prog) w 40 5 Tryd.underlying40 Tryd.underlying5 b 0 l.length cap (l.map fun c => (c.toNat : Int)) (by simp) (fun i hi => by
    rw [Nat.zero_add, h.cell i hi]; simp [hi]) _ Tryd.underlying9
  rw [strOf_bytes] at this
  exact this
end Go.Proofs.YtblelfonnelglaaDoor
