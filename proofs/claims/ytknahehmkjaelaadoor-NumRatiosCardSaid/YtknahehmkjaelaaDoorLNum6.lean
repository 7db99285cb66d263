/- The law NumRatios walked: for all two ratios the call returns true. No conditions. -/
import Derived.Test.YtknahehmkjaelaaDoorLNum5
import Derived.Test.YtknahehmkjaelaaDoorRely
import Derived.Test.YtknahehmkjaelaaDoorRaL
import Derived.Test.YtknahehmkjaelaaDoorRaN
import Derived.Test.YtknahehmkjaelaaDoorRaI
namespace Go.Proofs.YtknahehmkjaelaaDoor
open Go.RowKit Go.Sort
set_option linter.unusedSimpArgs false
set_option linter.unusedVariables false

theorem seen_ne {seen : Array Bool} {i j : Nat} (h : (seen.setIfInBounds i true).getD j false = true) (hij : i ≠ j) : seen.getD j false = true := by rwa [getD_set_ne false hij] at h
theorem ready_dep {md : Region.Mode} {ops : Array Oper} {seen : Array Bool} {i j : Nat} (h : i ∈ Region.ready md ops seen) (hw : Region.waitsFor md ops i j = true) : seen.getD j false = true := by
  obtain ⟨_, o, ho, hall⟩ := mem_ready.1 h
  obtain ⟨o', ho', e, hm, hb, rfl⟩ := Region.waitsFor_spec hw
  rw [ho] at ho'
  cases ho'
  exact hall e hm hb
theorem BigIs.put2 {z : Int} {B K : Nat} {g g0 : Bool} {v m : Value} {s0 : Option Addr} {n0 c0 : Nat} {W : World} (h : BigIs z v W) (kb : KBox B K #[.bool g0, .slice s0 n0 c0] W) :
    BigIs z v ((W.setCell ⟨K, 0, none⟩ (.bool g)).setCell ⟨K, 1, none⟩ m) := by
  have k0 := kb.cel 0
  have k1 := kb.cel 1
  simp at k0 k1
  have k1' : (W.setCell ⟨K, 0, none⟩ (.bool g)).cell? ⟨K, 1, none⟩ = some (.slice s0 n0 c0) := by rw [World.cell?_setCell_other (a := ⟨K, 0, none⟩) (b := ⟨K, 1, none⟩) _ _ (by simp)]; exact k1
  obtain ⟨m', e, hm⟩ := h
  cases e
  exact ⟨_, rfl, (hm.set_other _ _ _ k0 (ne_bool _)).set_other _ _ _ k1' (ne_slice _ _ _)⟩
theorem KBox.put2 {B k K : Nat} {cs : Array Value} {u v : Value} {W : World} (h : KBox B k cs W) (hne : K ≠ k) : KBox B k cs ((W.setCell ⟨K, 0, none⟩ u).setCell ⟨K, 1, none⟩ v) :=
  ⟨fun i => (set2_far _ _ _ _ _ hne).trans (h.cel i), fun i => by simpa using h.fro i, by simpa using h.siz, h.far⟩
theorem BoxBig.put2 {z : Int} {B k K : Nat} {g g0 : Bool} {m : Value} {s0 : Option Addr} {n0 c0 : Nat} {W : World} (h : BoxBig z k W) (hne : K ≠ k) (kb : KBox B K #[.bool g0, .slice s0 n0 c0] W) :
    BoxBig z k ((W.setCell ⟨K, 0, none⟩ (.bool g)).setCell ⟨K, 1, none⟩ m) := by
  obtain ⟨g', m', h1, h2, h3, h4⟩ := h
  exact ⟨_, _, (set2_far _ _ _ _ _ hne).trans h1, (set2_far _ _ _ _ _ hne).trans h2, h3.put2 kb, by simpa using h4⟩
theorem CmpBox.put2 {w wr : World} {p c q e : Int} {K : Nat} {cs : Array Value} {u v : Value} (t : CmpBox w p c q e wr) (kb : KBox (w.heap.size + 1 + 1) K cs wr) : CmpBox w p c q e ((wr.setCell ⟨K, 0, none⟩ u).setCell ⟨K, 1, none⟩ v) :=
  (t.set kb.far _).set kb.far _
/-- A number's box as it was made. -/
def BoxAt (w : World) (x : Value) (wr : World) : Prop := ∃ k, x = .pointer (some ⟨k, 0, none⟩) ∧ KBox (w.heap.size + 1 + 1) k #[.bool false, .slice none 0 0] wr
theorem BoxAt.next {w wr w' : World} {x : Value} (h : BoxAt w x wr) (b : Below wr.heap.size wr w') : BoxAt w x w' := by
  obtain ⟨k, hk, hb⟩ := h
  exact ⟨k, hk, hb.next b⟩
theorem BoxAt.fresh {w wr : World} {x : Value} (h : BoxAt w x wr) : Value.pointer (some ⟨wr.heap.size, 0, none⟩) ≠ x := by
  obtain ⟨k, rfl, hb⟩ := h
  have h1 := hb.siz
  intro he
  injection he with he
  injection he with he
  injection he with he
  omega
theorem boxat_made {w wr : World} {p c q e : Int} (T : CmpBox w p c q e wr) (t : TypeId) : BoxAt w (.pointer (some ⟨wr.heap.size, 0, none⟩)) (wr.alloc (.cells #[.bool false, .slice none 0 0] t)) :=
  ⟨_, rfl, made_next T.siz (Below.refl _ _)⟩
/-- What holds while the four numbers are put into boxes. -/
structure R1 (w : World) (p c q e : Int) (seen : Array Bool) (x5 x6 x7 x8 x21 x22 x23 x24 x25 x26 x27 x28 x29 x30 x31 x32 : Value) (wr : World) : Prop where
  T : CmpBox w p c q e wr
  f0 : seen.getD 0 false = true → x21 = .pointer (some ⟨w.heap.size, 0, none⟩)
  f1 : seen.getD 1 false = true → x22 = .int .i64 p
  f2 : seen.getD 2 false = true → BigIs p x23 wr
  f3 : seen.getD 3 false = true → x24 = .pointer (some ⟨w.heap.size, 1, none⟩)
  f4 : seen.getD 4 false = true → x25 = .int .i64 c
  f5 : seen.getD 5 false = true → BigIs c x26 wr
  f6 : seen.getD 6 false = true → x27 = .pointer (some ⟨w.heap.size + 1, 0, none⟩)
  f7 : seen.getD 7 false = true → x28 = .int .i64 q
  f8 : seen.getD 8 false = true → BigIs q x29 wr
  f9 : seen.getD 9 false = true → x30 = .pointer (some ⟨w.heap.size + 1, 1, none⟩)
  f10 : seen.getD 10 false = true → x31 = .int .i64 e
  f11 : seen.getD 11 false = true → BigIs e x32 wr
  f12 : seen.getD 12 false = true → BoxAt w x5 wr
  f13 : seen.getD 13 false = true → BoxAt w x6 wr
  f14 : seen.getD 14 false = true → BoxAt w x7 wr
  f15 : seen.getD 15 false = true → BoxAt w x8 wr
  d01 : seen.getD 12 false = true → seen.getD 13 false = true → x5 ≠ x6
  d02 : seen.getD 12 false = true → seen.getD 14 false = true → x5 ≠ x7
  d03 : seen.getD 12 false = true → seen.getD 15 false = true → x5 ≠ x8
  d12 : seen.getD 13 false = true → seen.getD 14 false = true → x6 ≠ x7
  d13 : seen.getD 13 false = true → seen.getD 15 false = true → x6 ≠ x8
  d23 : seen.getD 14 false = true → seen.getD 15 false = true → x7 ≠ x8
/-- Memory once the four numbers lie in boxes. -/
structure Four (w : World) (p c q e : Int) (k1 k2 k3 k4 : Nat) (wr : World) : Prop where
  T : CmpBox w p c q e wr
  X1 : BoxBig p k1 wr
  X2 : BoxBig c k2 wr
  X3 : BoxBig q k3 wr
  X4 : BoxBig e k4 wr
theorem Four.next {w wr w' : World} {p c q e : Int} {k1 k2 k3 k4 : Nat} (t : Four w p c q e k1 k2 k3 k4 wr) (b : Below wr.heap.size wr w') : Four w p c q e k1 k2 k3 k4 w' := ⟨t.T.next b, t.X1.next b, t.X2.next b, t.X3.next b, t.X4.next b⟩
theorem Four.alloc {w wr : World} {p c q e : Int} {k1 k2 k3 k4 : Nat} (t : Four w p c q e k1 k2 k3 k4 wr) (o : Obj) : Four w p c q e k1 k2 k3 k4 (wr.alloc o) := t.next ((Below.refl _ _).alloc (Nat.le_refl _) _)
theorem dg_sum8 {a b c d : Int} (h0 : a.natAbs ≤ 9223372036854775808) (h1 : b.natAbs ≤ 9223372036854775808) (h2 : c.natAbs ≤ 9223372036854775808) (h3 : d.natAbs ≤ 9223372036854775808) : (dg (a * b + c * d).natAbs).length ≤ 8 :=
  dg_length_le (k := 8) (by
    have x1 := Nat.mul_le_mul h0 h1
    have x2 := Nat.mul_le_mul h2 h3
    have x3 := Int.natAbs_add_le (a * b) (c * d)
    rw [Int.natAbs_mul, Int.natAbs_mul] at x3
    exact Nat.lt_of_le_of_lt (Nat.le_trans x3 (Nat.add_le_add x1 x2)) (by decide))
/-- A ratio in a box. -/
def RBox (n m : Int) (k : Nat) (w : World) : Prop := w.cell? ⟨k, 0, none⟩ = some (.int .i64 n) ∧ w.cell? ⟨k, 1, none⟩ = some (.int .i64 m) ∧ k < w.heap.size
theorem RBox.next {n m : Int} {k : Nat} {w w' : World} (h : RBox n m k w) (b : Below w.heap.size w w') : RBox n m k w' :=
  ⟨(b.cell (p := ⟨k, 0, none⟩) h.2.2).trans h.1, (b.cell (p := ⟨k, 1, none⟩) h.2.2).trans h.2.1, Nat.lt_of_lt_of_le h.2.2 b.size⟩
theorem rbox_made (n m : Int) (W : World) (t : TypeId) : RBox n m W.heap.size (W.alloc (.cells #[.int .i64 n, .int .i64 m] t)) :=
  ⟨World.cell?_alloc_new _ _ _ _, World.cell?_alloc_new _ _ _ _, by simp⟩
/-- Memory as the law goes on: the numbers' boxes and the ratios'. -/
structure Mem (w : World) (p c q e : Int) (k1 k2 k3 k4 : Nat) (l : List (Int × Int × Nat)) (wr : World) : Prop where
  F : Four w p c q e k1 k2 k3 k4 wr
  R : ∀ t ∈ l, RBox t.1 t.2.1 t.2.2 wr
theorem Mem.next {w wr w' : World} {p c q e : Int} {k1 k2 k3 k4 : Nat} {l : List (Int × Int × Nat)} (t : Mem w p c q e k1 k2 k3 k4 l wr) (b : Below wr.heap.size wr w') : Mem w p c q e k1 k2 k3 k4 l w' := ⟨t.F.next b, fun x hx => (t.R x hx).next b⟩
theorem Mem.made {w wr : World} {p c q e : Int} {k1 k2 k3 k4 : Nat} {l : List (Int × Int × Nat)} (t : Mem w p c q e k1 k2 k3 k4 l wr) (n m : Int) (ty : TypeId) : Mem w p c q e k1 k2 k3 k4 ((n, m, wr.heap.size) :: l) (wr.alloc (.cells #[.int .i64 n, .int .i64 m] ty)) :=
  ⟨t.F.alloc _, fun x hx => by
    rcases List.mem_cons.1 hx with rfl | h
    · exact rbox_made n m wr ty
    · exact (t.R x h).next ((Below.refl _ _).alloc (Nat.le_refl _) _)⟩
structure Op4 (p c q e : Int) (k1 k2 k3 k4 : Nat) (ga gb gc gd : Bool) (ma mb mc md : Value) (wr : World) : Prop where
  c10 : wr.cell? ⟨k1, 0, none⟩ = some (.bool ga)
  c11 : wr.cell? ⟨k1, 1, none⟩ = some ma
  b1 : BigIs p (.agg #[.bool ga, ma]) wr
  s1 : k1 < wr.heap.size
  c20 : wr.cell? ⟨k2, 0, none⟩ = some (.bool gb)
  c21 : wr.cell? ⟨k2, 1, none⟩ = some mb
  b2 : BigIs c (.agg #[.bool gb, mb]) wr
  s2 : k2 < wr.heap.size
  c30 : wr.cell? ⟨k3, 0, none⟩ = some (.bool gc)
  c31 : wr.cell? ⟨k3, 1, none⟩ = some mc
  b3 : BigIs q (.agg #[.bool gc, mc]) wr
  s3 : k3 < wr.heap.size
  c40 : wr.cell? ⟨k4, 0, none⟩ = some (.bool gd)
  c41 : wr.cell? ⟨k4, 1, none⟩ = some md
  b4 : BigIs e (.agg #[.bool gd, md]) wr
  s4 : k4 < wr.heap.size
theorem Op4.next {p c q e : Int} {k1 k2 k3 k4 : Nat} {ga gb gc gd : Bool} {ma mb mc md : Value} {wr w' : World} (t : Op4 p c q e k1 k2 k3 k4 ga gb gc gd ma mb mc md wr) (b : Below wr.heap.size wr w') : Op4 p c q e k1 k2 k3 k4 ga gb gc gd ma mb mc md w' :=
  ⟨(b.cell (p := ⟨_, _, none⟩) t.s1).trans t.c10, (b.cell (p := ⟨_, _, none⟩) t.s1).trans t.c11, t.b1.next b, Nat.lt_of_lt_of_le t.s1 b.size, (b.cell (p := ⟨_, _, none⟩) t.s2).trans t.c20, (b.cell (p := ⟨_, _, none⟩) t.s2).trans t.c21, t.b2.next b, Nat.lt_of_lt_of_le t.s2 b.size, (b.cell (p := ⟨_, _, none⟩) t.s3).trans t.c30, (b.cell (p := ⟨_, _, none⟩) t.s3).trans t.c31, t.b3.next b, Nat.lt_of_lt_of_le t.s3 b.size, (b.cell (p := ⟨_, _, none⟩) t.s4).trans t.c40, (b.cell (p := ⟨_, _, none⟩) t.s4).trans t.c41, t.b4.next b, Nat.lt_of_lt_of_le t.s4 b.size⟩
/-- A ratio's box, written or not yet. -/
def ABox (B : Nat) (x : Value) (b : Bool) (n d : Int) (wr : World) : Prop := ∃ k, x = .pointer (some ⟨k, 0, none⟩) ∧ KBox B k (if b then #[.int .i64 n, .int .i64 d] else #[.int .i64 0, .int .i64 0]) wr
theorem abox_next {B : Nat} {x : Value} {b : Bool} {n d : Int} {wr w' : World} (h : ABox B x b n d wr) (hb : Below wr.heap.size wr w') : ABox B x b n d w' := by
  obtain ⟨k, h1, h2⟩ := h
  exact ⟨k, h1, h2.next hb⟩
theorem seen_self {seen : Array Bool} {i : Nat} (h : seen.getD i true = false) : (seen.setIfInBounds i true).getD i false = true := by
  have hi : i < seen.size := by
    rcases Nat.lt_or_ge i seen.size with h' | h'
    · exact h'
    · simp [Array.getElem?_eq_none h'] at h
  simp [hi]
theorem seen_ne2 {seen : Array Bool} {i j : Nat} (h : seen.getD j false = true) : (seen.setIfInBounds i true).getD j false = true := getD_set_true h
theorem BigIs.putI {z : Int} {B K : Nat} {v u u' : Value} {x y : Int} {W : World} (h : BigIs z v W) (kb : KBox B K #[.int .i64 x, .int .i64 y] W) :
    BigIs z v ((W.setCell ⟨K, 0, none⟩ u).setCell ⟨K, 1, none⟩ u') := by
  have k0 := kb.cel 0
  have k1 := kb.cel 1
  simp at k0 k1
  have k1' : (W.setCell ⟨K, 0, none⟩ u).cell? ⟨K, 1, none⟩ = some (.int .i64 y) := by rw [World.cell?_setCell_other (a := ⟨K, 0, none⟩) (b := ⟨K, 1, none⟩) _ _ (by simp)]; exact k1
  obtain ⟨m', e, hm⟩ := h
  cases e
  exact ⟨_, rfl, (hm.set_other _ _ _ k0 (fun d e => by cases e)).set_other _ _ _ k1' (fun d e => by cases e)⟩
theorem KBox.write {B K : Nat} {x y : Int} {W : World} (kb : KBox B K #[.int .i64 x, .int .i64 y] W) (n m : Int) : KBox B K #[.int .i64 n, .int .i64 m] ((W.setCell ⟨K, 0, none⟩ (.int .i64 n)).setCell ⟨K, 1, none⟩ (.int .i64 m)) := by
  have k0 := kb.cel 0
  have k1 := kb.cel 1
  simp at k0 k1
  have k1' : (W.setCell ⟨K, 0, none⟩ (.int .i64 n)).cell? ⟨K, 1, none⟩ = some (.int .i64 y) := by rw [World.cell?_setCell_other (a := ⟨K, 0, none⟩) (b := ⟨K, 1, none⟩) _ _ (by simp)]; exact k1
  refine ⟨fun i => ?_, fun i => by simpa using kb.fro i, by simpa using kb.siz, kb.far⟩
  rcases i with _ | _ | i
  · rw [World.cell?_setCell_other (a := ⟨K, 1, none⟩) (b := ⟨K, 0, none⟩) _ _ (by simp)]
    exact World.cell?_setCell_same _ _ _ k0
  · exact World.cell?_setCell_same _ _ _ k1'
  · rw [World.cell?_setCell_other (a := ⟨K, 1, none⟩) (b := ⟨K, i + 1 + 1, none⟩) _ _ (by simp), World.cell?_setCell_other (a := ⟨K, 0, none⟩) (b := ⟨K, i + 1 + 1, none⟩) _ _ (by simp)]
    rw [kb.cel]
    simp
theorem box_next {B : Nat} {x : Value} {cs : Array Value} {wr w' : World} (h : ∃ k, x = .pointer (some ⟨k, 0, none⟩) ∧ KBox B k cs wr) (b : Below wr.heap.size wr w') : ∃ k, x = .pointer (some ⟨k, 0, none⟩) ∧ KBox B k cs w' := by
  obtain ⟨k, h1, h2⟩ := h
  exact ⟨k, h1, h2.next b⟩
theorem Mem.op4 {w wr : World} {p c q e : Int} {k1 k2 k3 k4 : Nat} {l : List (Int × Int × Nat)} (t : Mem w p c q e k1 k2 k3 k4 l wr) : ∃ ga gb gc gd ma mb mc md, Op4 p c q e k1 k2 k3 k4 ga gb gc gd ma mb mc md wr := by
  obtain ⟨ga, ma, a0, a1, ab, as1⟩ := t.F.X1
  obtain ⟨gb, mb, b0, b1, bb, bs1⟩ := t.F.X2
  obtain ⟨gc, mc, c0, c1, cb, cs1⟩ := t.F.X3
  obtain ⟨gd, md, d0, d1, db, ds1⟩ := t.F.X4
  exact ⟨ga, gb, gc, gd, ma, mb, mc, md, a0, a1, ab, as1, b0, b1, bb, bs1, c0, c1, cb, cs1, d0, d1, db, ds1⟩
/-- A ratio's box is written. -/
theorem Mem.got {w wz wr : World} {p c q e : Int} {k1 k2 k3 k4 K : Nat} {l : List (Int × Int × Nat)} (t : Mem w p c q e k1 k2 k3 k4 l wz) (b : Below wz.heap.size wz wr) {n m : Int} (kb : KBox wz.heap.size K #[.int .i64 n, .int .i64 m] wr) :
    Mem w p c q e k1 k2 k3 k4 ((n, m, K) :: l) wr := by
  have t' := t.next b
  refine ⟨t'.F, fun u hu => ?_⟩
  rcases List.mem_cons.1 hu with rfl | h
  · have k0 := kb.cel 0
    have k1 := kb.cel 1
    simp at k0 k1
    exact ⟨k0, k1, kb.siz⟩
  · exact t'.R u h
structure R6 (wz : World) (pe qc su ce n2 d2 : Int) (o2 : Bool) (ga gb gc gd : Bool) (ma mb mc md : Value) (seen : Array Bool) (x57 x58 x59 x60 x61 x62 x63 x64 x65 x66 x67 x56 x68 x69 x17 x18 : Value) (wr : World) : Prop where
  T : Below wz.heap.size wz wr
  cl : seen.getD 15 false = true → seen.getD 14 false = true
  f0 : seen.getD 0 false = true → x57 = .agg #[.bool ga, ma]
  f1 : seen.getD 1 false = true → x58 = .agg #[.bool gd, md]
  f2 : seen.getD 2 false = true → BigIs pe x59 wr
  f3 : seen.getD 3 false = true → x60 = .agg #[.bool gc, mc]
  f4 : seen.getD 4 false = true → x61 = .agg #[.bool gb, mb]
  f5 : seen.getD 5 false = true → BigIs qc x62 wr
  f6 : seen.getD 6 false = true → BigIs su x63 wr
  f7 : seen.getD 7 false = true → x64 = .agg #[.bool gb, mb]
  f8 : seen.getD 8 false = true → x65 = .agg #[.bool gd, md]
  f9 : seen.getD 9 false = true → BigIs ce x66 wr
  f10 : seen.getD 10 false = true → x67 = .tuple #[.agg #[.int .i64 n2, .int .i64 d2], .bool o2]
  f11 : seen.getD 11 false = true → x56 = .tuple #[.agg #[.int .i64 n2, .int .i64 d2], .bool o2]
  f12 : seen.getD 12 false = true → x68 = .agg #[.int .i64 n2, .int .i64 d2]
  f13 : seen.getD 13 false = true → x69 = .bool o2
  f14 : seen.getD 14 false = true → ABox wz.heap.size x17 (seen.getD 15 false) n2 d2 wr
  f16 : seen.getD 16 false = true → x18 = .bool o2
structure R7 (wz : World) (pq ce n3 d3 : Int) (o3 : Bool) (ga gb gc gd : Bool) (ma mb mc md : Value) (seen : Array Bool) (x71 x72 x73 x74 x75 x76 x77 x70 x78 x79 x19 x20 : Value) (wr : World) : Prop where
  T : Below wz.heap.size wz wr
  cl : seen.getD 11 false = true → seen.getD 10 false = true
  f0 : seen.getD 0 false = true → x71 = .agg #[.bool ga, ma]
  f1 : seen.getD 1 false = true → x72 = .agg #[.bool gc, mc]
  f2 : seen.getD 2 false = true → BigIs pq x73 wr
  f3 : seen.getD 3 false = true → x74 = .agg #[.bool gb, mb]
  f4 : seen.getD 4 false = true → x75 = .agg #[.bool gd, md]
  f5 : seen.getD 5 false = true → BigIs ce x76 wr
  f6 : seen.getD 6 false = true → x77 = .tuple #[.agg #[.int .i64 n3, .int .i64 d3], .bool o3]
  f7 : seen.getD 7 false = true → x70 = .tuple #[.agg #[.int .i64 n3, .int .i64 d3], .bool o3]
  f8 : seen.getD 8 false = true → x78 = .agg #[.int .i64 n3, .int .i64 d3]
  f9 : seen.getD 9 false = true → x79 = .bool o3
  f10 : seen.getD 10 false = true → ABox wz.heap.size x19 (seen.getD 11 false) n3 d3 wr
  f12 : seen.getD 12 false = true → x20 = .bool o3

set_option maxRecDepth 100000 in
set_option maxHeartbeats 4000000 in
theorem numRatios_go (p c q e : Int) (p0 : -9223372036854775808 ≤ p) (p1 : p ≤ 9223372036854775807) (c0 : -9223372036854775808 ≤ c) (c1 : c ≤ 9223372036854775807) (q0 : -9223372036854775808 ≤ q) (q1 : q ≤ 9223372036854775807) (e0 : -9223372036854775808 ≤ e) (e1 : e ≤ 9223372036854775807) (w : World) :
    Calls Tryd.prog 6 #[.agg #[.int .i64 p, .int .i64 c], .agg #[.int .i64 q, .int .i64 e]] w fun en w' => en = .returned (.bool true) ∧ Below w.heap.size w w' := by
  have T0 := Lib.hid (CmpBox.start w p c q e)
  have Op := Lib.hid (fun W : World => of_any p p0 p1 W)
  have Oc := Lib.hid (fun W : World => of_any c c0 c1 W)
  have Oq := Lib.hid (fun W : World => of_any q q0 q1 W)
  have Oe := Lib.hid (fun W : World => of_any e e0 e1 W)
  have F1 := Lib.hid (fun W : World => reduce_any p c p0 p1 c0 c1 W)
  have F2 := Lib.hid (fun W : World => ratadd_any p c q e p0 p1 c0 c1 q0 q1 e0 e1 W)
  have F3 := Lib.hid (fun W : World => ratmul_any p c q e p0 p1 c0 c1 q0 q1 e0 e1 W)
  have F4 := Lib.hid (fun W : World => ggcd_any p q p0 p1 q0 q1 W)
  have F5 := Lib.hid (fun W : World => rggcd_any p q p0 p1 q0 q1 W)
  have lp : (dg p.natAbs).length ≤ 4 := dg_length_le (k := 4) (by omega)
  have lc : (dg c.natAbs).length ≤ 4 := dg_length_le (k := 4) (by omega)
  have lq : (dg q.natAbs).length ≤ 4 := dg_length_le (k := 4) (by omega)
  have le : (dg e.natAbs).length ≤ 4 := dg_length_le (k := 4) (by omega)
  have lpe : (dg (p * e).natAbs).length ≤ 8 := dg_prod8 (by omega) (by omega)
  have lqc : (dg (q * c).natAbs).length ≤ 8 := dg_prod8 (by omega) (by omega)
  have lce : (dg (c * e).natAbs).length ≤ 8 := dg_prod8 (by omega) (by omega)
  have lpq : (dg (p * q).natAbs).length ≤ 8 := dg_prod8 (by omega) (by omega)
  have lsu : (dg (p * e + q * c).natAbs).length ≤ 8 := dg_sum8 (by omega) (by omega) (by omega) (by omega)
  have G1 : Hid (∀ W u v, BigIs p u W → BigIs c v W → Calls Tryd.prog 30 #[u, v] W (GivesRat p c W)) := Lib.hid fun W u v hu hv => rratio_any _ _ _ _ W (by omega) (by omega) hu hv
  have M1 : Hid (∀ W u v, BigIs p u W → BigIs e v W → Calls Tryd.prog 21 #[u, v] W (GivesBig (p * e) W)) := Lib.hid fun W u v hu hv => times_any _ _ _ _ W (by omega) (by omega) hu hv
  have M2 : Hid (∀ W u v, BigIs q u W → BigIs c v W → Calls Tryd.prog 21 #[u, v] W (GivesBig (q * c) W)) := Lib.hid fun W u v hu hv => times_any _ _ _ _ W (by omega) (by omega) hu hv
  have M3 : Hid (∀ W u v, BigIs c u W → BigIs e v W → Calls Tryd.prog 21 #[u, v] W (GivesBig (c * e) W)) := Lib.hid fun W u v hu hv => times_any _ _ _ _ W (by omega) (by omega) hu hv
  have M4 : Hid (∀ W u v, BigIs p u W → BigIs q v W → Calls Tryd.prog 21 #[u, v] W (GivesBig (p * q) W)) := Lib.hid fun W u v hu hv => times_any _ _ _ _ W (by omega) (by omega) hu hv
  have M5 : Hid (∀ W u v, BigIs (p * e) u W → BigIs (q * c) v W → Calls Tryd.prog 19 #[u, v] W (GivesBig (p * e + q * c) W)) := Lib.hid fun W u v hu hv => plus_any _ _ _ _ W (by omega) (by omega) hu hv
  have G2 : Hid (∀ W u v, BigIs (p * e + q * c) u W → BigIs (c * e) v W → Calls Tryd.prog 30 #[u, v] W (GivesRat (p * e + q * c) (c * e) W)) := Lib.hid fun W u v hu hv => rratio_any _ _ _ _ W (by omega) (by omega) hu hv
  have G3 : Hid (∀ W u v, BigIs (p * q) u W → BigIs (c * e) v W → Calls Tryd.prog 30 #[u, v] W (GivesRat (p * q) (c * e) W)) := Lib.hid fun W u v hu hv => rratio_any _ _ _ _ W (by omega) (by omega) hu hv
  clear lp lc lq le lpe lqc lce lpq lsu
  obtain ⟨pe, hpe⟩ : ∃ x, x = p * e := ⟨_, rfl⟩
  obtain ⟨qc, hqc⟩ : ∃ x, x = q * c := ⟨_, rfl⟩
  obtain ⟨ce, hce⟩ : ∃ x, x = c * e := ⟨_, rfl⟩
  obtain ⟨pq, hpq⟩ : ∃ x, x = p * q := ⟨_, rfl⟩
  rw [← hpe, ← hqc] at M5 G2 F2
  rw [← hpe] at M1
  rw [← hqc] at M2
  rw [← hce] at M3 F2 F3 G2 G3
  rw [← hpq] at M4 F3 G3
  obtain ⟨su, hsu⟩ : ∃ x, x = pe + qc := ⟨_, rfl⟩
  rw [← hsu] at M5 G2 F2
  clear hpe hqc hce hpq hsu
  clear p0 p1 c0 c1 q0 q1 e0 e1
  go_enter Tryd.func6, Tryd.ntmps6
  go_upto_region 1 with fail
  go_cut [5, 6, 7, 8] (fun s1 s2 s3 s4 wx => ∃ k1 k2 k3 k4, s1 = .pointer (some ⟨k1, 0, none⟩) ∧ s2 = .pointer (some ⟨k2, 0, none⟩) ∧ s3 = .pointer (some ⟨k3, 0, none⟩) ∧ s4 = .pointer (some ⟨k4, 0, none⟩) ∧ Hid (BoxBig p k1 wx) ∧ Hid (BoxBig c k2 wx) ∧ Hid (BoxBig q k3 wx) ∧ Hid (BoxBig e k4 wx) ∧ Hid (CmpBox w p c q e wx))
  case first =>
    refine wp_region_rely 16 (fun seen a wr => ∃ x5 x6 x7 x8 x21 x22 x23 x24 x25 x26 x27 x28 x29 x30 x31 x32, a = ⟨#[.agg #[.int .i64 p, .int .i64 c], .agg #[.int .i64 q, .int .i64 e], .pointer (some ⟨w.heap.size, 0, none⟩), .pointer (some ⟨w.heap.size + 1, 0, none⟩), .bool false, x5, x6, x7, x8, undef, undef, undef, undef, undef, undef, undef, undef, undef, undef, undef, undef, x21, x22, x23, x24, x25, x26, x27, x28, x29, x30, x31, x32, undef, undef, undef, undef, undef, undef, undef, undef, undef, undef, undef, undef, undef, undef, undef, undef, undef, undef, undef, undef, undef, undef, undef, undef, undef, undef, undef, undef, undef, undef, undef, undef, undef, undef, undef, undef, undef, undef, undef, undef, undef, undef, undef, undef, undef, undef, undef, undef, undef, undef, undef, undef, undef, undef, undef, undef, undef, undef, undef, undef, undef, undef, undef, undef, undef, undef, undef, undef, undef, undef, undef, undef, undef, undef, undef, undef, undef, undef, undef, undef, undef, undef], []⟩ ∧ R1 w p c q e seen x5 x6 x7 x8 x21 x22 x23 x24 x25 x26 x27 x28 x29 x30 x31 x32 wr) (by kernel_rfl) (by kernel_rfl) (by kernel_rfl) (by kernel_rfl) (by kernel_rfl) (by kernel_rfl) ?_ ?_ ?_
    · refine ⟨_, _, _, _, _, _, _, _, _, _, _, _, _, _, _, _, rfl, T0.out.drew, ?_, ?_, ?_, ?_, ?_, ?_, ?_, ?_, ?_, ?_, ?_, ?_, ?_, ?_, ?_, ?_, ?_, ?_, ?_, ?_, ?_, ?_⟩ <;> (intro h; simp at h)
    · intro i hi
      clear T0 F1 F2 F3 F4 F5 G1 M1 M2 M3 M4 M5 G2 G3
      obtain rfl | rfl | rfl | rfl | rfl | rfl | rfl | rfl | rfl | rfl | rfl | rfl | rfl | rfl | rfl | rfl : i = 0 ∨ i = 1 ∨ i = 2 ∨ i = 3 ∨ i = 4 ∨ i = 5 ∨ i = 6 ∨ i = 7 ∨ i = 8 ∨ i = 9 ∨ i = 10 ∨ i = 11 ∨ i = 12 ∨ i = 13 ∨ i = 14 ∨ i = 15 := by omega
      all_goals clear hi
      · rintro seen a wr ⟨x5, x6, x7, x8, x21, x22, x23, x24, x25, x26, x27, x28, x29, x30, x31, x32, rfl, H⟩ hr
        refine wpOp_step rfl (fun K hK => ?_)
        go_simp
        refine hK _ _ ?_
        clear hK K hr
        have hnew : (Value.pointer (some ⟨w.heap.size, 0, none⟩)) = .pointer (some ⟨w.heap.size, 0, none⟩) := rfl
        exact ⟨_, _, _, _, _, _, _, _, _, _, _, _, _, _, _, _, rfl, ⟨H.T, fun _ => hnew, fun h => H.f1 (seen_ne h (by decide)), fun h => H.f2 (seen_ne h (by decide)), fun h => H.f3 (seen_ne h (by decide)), fun h => H.f4 (seen_ne h (by decide)), fun h => H.f5 (seen_ne h (by decide)), fun h => H.f6 (seen_ne h (by decide)), fun h => H.f7 (seen_ne h (by decide)), fun h => H.f8 (seen_ne h (by decide)), fun h => H.f9 (seen_ne h (by decide)), fun h => H.f10 (seen_ne h (by decide)), fun h => H.f11 (seen_ne h (by decide)), fun h => H.f12 (seen_ne h (by decide)), fun h => H.f13 (seen_ne h (by decide)), fun h => H.f14 (seen_ne h (by decide)), fun h => H.f15 (seen_ne h (by decide)), fun h h' => H.d01 (seen_ne h (by decide)) (seen_ne h' (by decide)), fun h h' => H.d02 (seen_ne h (by decide)) (seen_ne h' (by decide)), fun h h' => H.d03 (seen_ne h (by decide)) (seen_ne h' (by decide)), fun h h' => H.d12 (seen_ne h (by decide)) (seen_ne h' (by decide)), fun h h' => H.d13 (seen_ne h (by decide)) (seen_ne h' (by decide)), fun h h' => H.d23 (seen_ne h (by decide)) (seen_ne h' (by decide))⟩⟩
      · rintro seen a wr ⟨x5, x6, x7, x8, x21, x22, x23, x24, x25, x26, x27, x28, x29, x30, x31, x32, rfl, H⟩ hr
        have e1 := H.f0 (ready_dep hr (by kernel_rfl))
        subst e1
        have a0 := H.T.a0
        have a1 := H.T.a1
        have b0 := H.T.b0
        have b1 := H.T.b1
        clear hr
        refine wpOp_step rfl (fun K hK => ?_)
        go_simp
        refine hK _ _ ?_
        clear hK K
        have hnew : (Value.int .i64 p) = .int .i64 p := rfl
        exact ⟨_, _, _, _, _, _, _, _, _, _, _, _, _, _, _, _, rfl, ⟨H.T, fun h => H.f0 (seen_ne h (by decide)), fun _ => hnew, fun h => H.f2 (seen_ne h (by decide)), fun h => H.f3 (seen_ne h (by decide)), fun h => H.f4 (seen_ne h (by decide)), fun h => H.f5 (seen_ne h (by decide)), fun h => H.f6 (seen_ne h (by decide)), fun h => H.f7 (seen_ne h (by decide)), fun h => H.f8 (seen_ne h (by decide)), fun h => H.f9 (seen_ne h (by decide)), fun h => H.f10 (seen_ne h (by decide)), fun h => H.f11 (seen_ne h (by decide)), fun h => H.f12 (seen_ne h (by decide)), fun h => H.f13 (seen_ne h (by decide)), fun h => H.f14 (seen_ne h (by decide)), fun h => H.f15 (seen_ne h (by decide)), fun h h' => H.d01 (seen_ne h (by decide)) (seen_ne h' (by decide)), fun h h' => H.d02 (seen_ne h (by decide)) (seen_ne h' (by decide)), fun h h' => H.d03 (seen_ne h (by decide)) (seen_ne h' (by decide)), fun h h' => H.d12 (seen_ne h (by decide)) (seen_ne h' (by decide)), fun h h' => H.d13 (seen_ne h (by decide)) (seen_ne h' (by decide)), fun h h' => H.d23 (seen_ne h (by decide)) (seen_ne h' (by decide))⟩⟩
      · rintro seen a wr ⟨x5, x6, x7, x8, x21, x22, x23, x24, x25, x26, x27, x28, x29, x30, x31, x32, rfl, H⟩ hr
        have e1 := H.f1 (ready_dep hr (by kernel_rfl))
        subst e1
        clear hr
        have HH := Lib.hid H
        clear H
        refine wpOp_step rfl (fun K hK => ?_)
        go_simp
        with_reducible refine (Op.out _).mono ?_
        rintro en W1 ⟨u, rfl, hnew, hB⟩
        go_simp
        refine hK _ _ ?_
        clear hK K
        have H := HH.out
        exact ⟨_, _, _, _, _, _, _, _, _, _, _, _, _, _, _, _, rfl, ⟨H.T.next hB, fun h => H.f0 (seen_ne h (by decide)), fun h => H.f1 (seen_ne h (by decide)), fun _ => hnew, fun h => H.f3 (seen_ne h (by decide)), fun h => H.f4 (seen_ne h (by decide)), fun h => (H.f5 (seen_ne h (by decide))).next hB, fun h => H.f6 (seen_ne h (by decide)), fun h => H.f7 (seen_ne h (by decide)), fun h => (H.f8 (seen_ne h (by decide))).next hB, fun h => H.f9 (seen_ne h (by decide)), fun h => H.f10 (seen_ne h (by decide)), fun h => (H.f11 (seen_ne h (by decide))).next hB, fun h => (H.f12 (seen_ne h (by decide))).next hB, fun h => (H.f13 (seen_ne h (by decide))).next hB, fun h => (H.f14 (seen_ne h (by decide))).next hB, fun h => (H.f15 (seen_ne h (by decide))).next hB, fun h h' => H.d01 (seen_ne h (by decide)) (seen_ne h' (by decide)), fun h h' => H.d02 (seen_ne h (by decide)) (seen_ne h' (by decide)), fun h h' => H.d03 (seen_ne h (by decide)) (seen_ne h' (by decide)), fun h h' => H.d12 (seen_ne h (by decide)) (seen_ne h' (by decide)), fun h h' => H.d13 (seen_ne h (by decide)) (seen_ne h' (by decide)), fun h h' => H.d23 (seen_ne h (by decide)) (seen_ne h' (by decide))⟩⟩
      · rintro seen a wr ⟨x5, x6, x7, x8, x21, x22, x23, x24, x25, x26, x27, x28, x29, x30, x31, x32, rfl, H⟩ hr
        refine wpOp_step rfl (fun K hK => ?_)
        go_simp
        refine hK _ _ ?_
        clear hK K hr
        have hnew : (Value.pointer (some ⟨w.heap.size, 1, none⟩)) = .pointer (some ⟨w.heap.size, 1, none⟩) := rfl
        exact ⟨_, _, _, _, _, _, _, _, _, _, _, _, _, _, _, _, rfl, ⟨H.T, fun h => H.f0 (seen_ne h (by decide)), fun h => H.f1 (seen_ne h (by decide)), fun h => H.f2 (seen_ne h (by decide)), fun _ => hnew, fun h => H.f4 (seen_ne h (by decide)), fun h => H.f5 (seen_ne h (by decide)), fun h => H.f6 (seen_ne h (by decide)), fun h => H.f7 (seen_ne h (by decide)), fun h => H.f8 (seen_ne h (by decide)), fun h => H.f9 (seen_ne h (by decide)), fun h => H.f10 (seen_ne h (by decide)), fun h => H.f11 (seen_ne h (by decide)), fun h => H.f12 (seen_ne h (by decide)), fun h => H.f13 (seen_ne h (by decide)), fun h => H.f14 (seen_ne h (by decide)), fun h => H.f15 (seen_ne h (by decide)), fun h h' => H.d01 (seen_ne h (by decide)) (seen_ne h' (by decide)), fun h h' => H.d02 (seen_ne h (by decide)) (seen_ne h' (by decide)), fun h h' => H.d03 (seen_ne h (by decide)) (seen_ne h' (by decide)), fun h h' => H.d12 (seen_ne h (by decide)) (seen_ne h' (by decide)), fun h h' => H.d13 (seen_ne h (by decide)) (seen_ne h' (by decide)), fun h h' => H.d23 (seen_ne h (by decide)) (seen_ne h' (by decide))⟩⟩
      · rintro seen a wr ⟨x5, x6, x7, x8, x21, x22, x23, x24, x25, x26, x27, x28, x29, x30, x31, x32, rfl, H⟩ hr
        have e1 := H.f3 (ready_dep hr (by kernel_rfl))
        subst e1
        have a0 := H.T.a0
        have a1 := H.T.a1
        have b0 := H.T.b0
        have b1 := H.T.b1
        clear hr
        refine wpOp_step rfl (fun K hK => ?_)
        go_simp
        refine hK _ _ ?_
        clear hK K
        have hnew : (Value.int .i64 c) = .int .i64 c := rfl
        exact ⟨_, _, _, _, _, _, _, _, _, _, _, _, _, _, _, _, rfl, ⟨H.T, fun h => H.f0 (seen_ne h (by decide)), fun h => H.f1 (seen_ne h (by decide)), fun h => H.f2 (seen_ne h (by decide)), fun h => H.f3 (seen_ne h (by decide)), fun _ => hnew, fun h => H.f5 (seen_ne h (by decide)), fun h => H.f6 (seen_ne h (by decide)), fun h => H.f7 (seen_ne h (by decide)), fun h => H.f8 (seen_ne h (by decide)), fun h => H.f9 (seen_ne h (by decide)), fun h => H.f10 (seen_ne h (by decide)), fun h => H.f11 (seen_ne h (by decide)), fun h => H.f12 (seen_ne h (by decide)), fun h => H.f13 (seen_ne h (by decide)), fun h => H.f14 (seen_ne h (by decide)), fun h => H.f15 (seen_ne h (by decide)), fun h h' => H.d01 (seen_ne h (by decide)) (seen_ne h' (by decide)), fun h h' => H.d02 (seen_ne h (by decide)) (seen_ne h' (by decide)), fun h h' => H.d03 (seen_ne h (by decide)) (seen_ne h' (by decide)), fun h h' => H.d12 (seen_ne h (by decide)) (seen_ne h' (by decide)), fun h h' => H.d13 (seen_ne h (by decide)) (seen_ne h' (by decide)), fun h h' => H.d23 (seen_ne h (by decide)) (seen_ne h' (by decide))⟩⟩
      · rintro seen a wr ⟨x5, x6, x7, x8, x21, x22, x23, x24, x25, x26, x27, x28, x29, x30, x31, x32, rfl, H⟩ hr
        have e1 := H.f4 (ready_dep hr (by kernel_rfl))
        subst e1
        clear hr
        have HH := Lib.hid H
        clear H
        refine wpOp_step rfl (fun K hK => ?_)
        go_simp
        with_reducible refine (Oc.out _).mono ?_
        rintro en W1 ⟨u, rfl, hnew, hB⟩
        go_simp
        refine hK _ _ ?_
        clear hK K
        have H := HH.out
        exact ⟨_, _, _, _, _, _, _, _, _, _, _, _, _, _, _, _, rfl, ⟨H.T.next hB, fun h => H.f0 (seen_ne h (by decide)), fun h => H.f1 (seen_ne h (by decide)), fun h => (H.f2 (seen_ne h (by decide))).next hB, fun h => H.f3 (seen_ne h (by decide)), fun h => H.f4 (seen_ne h (by decide)), fun _ => hnew, fun h => H.f6 (seen_ne h (by decide)), fun h => H.f7 (seen_ne h (by decide)), fun h => (H.f8 (seen_ne h (by decide))).next hB, fun h => H.f9 (seen_ne h (by decide)), fun h => H.f10 (seen_ne h (by decide)), fun h => (H.f11 (seen_ne h (by decide))).next hB, fun h => (H.f12 (seen_ne h (by decide))).next hB, fun h => (H.f13 (seen_ne h (by decide))).next hB, fun h => (H.f14 (seen_ne h (by decide))).next hB, fun h => (H.f15 (seen_ne h (by decide))).next hB, fun h h' => H.d01 (seen_ne h (by decide)) (seen_ne h' (by decide)), fun h h' => H.d02 (seen_ne h (by decide)) (seen_ne h' (by decide)), fun h h' => H.d03 (seen_ne h (by decide)) (seen_ne h' (by decide)), fun h h' => H.d12 (seen_ne h (by decide)) (seen_ne h' (by decide)), fun h h' => H.d13 (seen_ne h (by decide)) (seen_ne h' (by decide)), fun h h' => H.d23 (seen_ne h (by decide)) (seen_ne h' (by decide))⟩⟩
      · rintro seen a wr ⟨x5, x6, x7, x8, x21, x22, x23, x24, x25, x26, x27, x28, x29, x30, x31, x32, rfl, H⟩ hr
        refine wpOp_step rfl (fun K hK => ?_)
        go_simp
        refine hK _ _ ?_
        clear hK K hr
        have hnew : (Value.pointer (some ⟨w.heap.size + 1, 0, none⟩)) = .pointer (some ⟨w.heap.size + 1, 0, none⟩) := rfl
        exact ⟨_, _, _, _, _, _, _, _, _, _, _, _, _, _, _, _, rfl, ⟨H.T, fun h => H.f0 (seen_ne h (by decide)), fun h => H.f1 (seen_ne h (by decide)), fun h => H.f2 (seen_ne h (by decide)), fun h => H.f3 (seen_ne h (by decide)), fun h => H.f4 (seen_ne h (by decide)), fun h => H.f5 (seen_ne h (by decide)), fun _ => hnew, fun h => H.f7 (seen_ne h (by decide)), fun h => H.f8 (seen_ne h (by decide)), fun h => H.f9 (seen_ne h (by decide)), fun h => H.f10 (seen_ne h (by decide)), fun h => H.f11 (seen_ne h (by decide)), fun h => H.f12 (seen_ne h (by decide)), fun h => H.f13 (seen_ne h (by decide)), fun h => H.f14 (seen_ne h (by decide)), fun h => H.f15 (seen_ne h (by decide)), fun h h' => H.d01 (seen_ne h (by decide)) (seen_ne h' (by decide)), fun h h' => H.d02 (seen_ne h (by decide)) (seen_ne h' (by decide)), fun h h' => H.d03 (seen_ne h (by decide)) (seen_ne h' (by decide)), fun h h' => H.d12 (seen_ne h (by decide)) (seen_ne h' (by decide)), fun h h' => H.d13 (seen_ne h (by decide)) (seen_ne h' (by decide)), fun h h' => H.d23 (seen_ne h (by decide)) (seen_ne h' (by decide))⟩⟩
      · rintro seen a wr ⟨x5, x6, x7, x8, x21, x22, x23, x24, x25, x26, x27, x28, x29, x30, x31, x32, rfl, H⟩ hr
        have e1 := H.f6 (ready_dep hr (by kernel_rfl))
        subst e1
        have a0 := H.T.a0
        have a1 := H.T.a1
        have b0 := H.T.b0
        have b1 := H.T.b1
        clear hr
        refine wpOp_step rfl (fun K hK => ?_)
        go_simp
        refine hK _ _ ?_
        clear hK K
        have hnew : (Value.int .i64 q) = .int .i64 q := rfl
        exact ⟨_, _, _, _, _, _, _, _, _, _, _, _, _, _, _, _, rfl, ⟨H.T, fun h => H.f0 (seen_ne h (by decide)), fun h => H.f1 (seen_ne h (by decide)), fun h => H.f2 (seen_ne h (by decide)), fun h => H.f3 (seen_ne h (by decide)), fun h => H.f4 (seen_ne h (by decide)), fun h => H.f5 (seen_ne h (by decide)), fun h => H.f6 (seen_ne h (by decide)), fun _ => hnew, fun h => H.f8 (seen_ne h (by decide)), fun h => H.f9 (seen_ne h (by decide)), fun h => H.f10 (seen_ne h (by decide)), fun h => H.f11 (seen_ne h (by decide)), fun h => H.f12 (seen_ne h (by decide)), fun h => H.f13 (seen_ne h (by decide)), fun h => H.f14 (seen_ne h (by decide)), fun h => H.f15 (seen_ne h (by decide)), fun h h' => H.d01 (seen_ne h (by decide)) (seen_ne h' (by decide)), fun h h' => H.d02 (seen_ne h (by decide)) (seen_ne h' (by decide)), fun h h' => H.d03 (seen_ne h (by decide)) (seen_ne h' (by decide)), fun h h' => H.d12 (seen_ne h (by decide)) (seen_ne h' (by decide)), fun h h' => H.d13 (seen_ne h (by decide)) (seen_ne h' (by decide)), fun h h' => H.d23 (seen_ne h (by decide)) (seen_ne h' (by decide))⟩⟩
      · rintro seen a wr ⟨x5, x6, x7, x8, x21, x22, x23, x24, x25, x26, x27, x28, x29, x30, x31, x32, rfl, H⟩ hr
        have e1 := H.f7 (ready_dep hr (by kernel_rfl))
        subst e1
        clear hr
        have HH := Lib.hid H
        clear H
        refine wpOp_step rfl (fun K hK => ?_)
        go_simp
        with_reducible refine (Oq.out _).mono ?_
        rintro en W1 ⟨u, rfl, hnew, hB⟩
        go_simp
        refine hK _ _ ?_
        clear hK K
        have H := HH.out
        exact ⟨_, _, _, _, _, _, _, _, _, _, _, _, _, _, _, _, rfl, ⟨H.T.next hB, fun h => H.f0 (seen_ne h (by decide)), fun h => H.f1 (seen_ne h (by decide)), fun h => (H.f2 (seen_ne h (by decide))).next hB, fun h => H.f3 (seen_ne h (by decide)), fun h => H.f4 (seen_ne h (by decide)), fun h => (H.f5 (seen_ne h (by decide))).next hB, fun h => H.f6 (seen_ne h (by decide)), fun h => H.f7 (seen_ne h (by decide)), fun _ => hnew, fun h => H.f9 (seen_ne h (by decide)), fun h => H.f10 (seen_ne h (by decide)), fun h => (H.f11 (seen_ne h (by decide))).next hB, fun h => (H.f12 (seen_ne h (by decide))).next hB, fun h => (H.f13 (seen_ne h (by decide))).next hB, fun h => (H.f14 (seen_ne h (by decide))).next hB, fun h => (H.f15 (seen_ne h (by decide))).next hB, fun h h' => H.d01 (seen_ne h (by decide)) (seen_ne h' (by decide)), fun h h' => H.d02 (seen_ne h (by decide)) (seen_ne h' (by decide)), fun h h' => H.d03 (seen_ne h (by decide)) (seen_ne h' (by decide)), fun h h' => H.d12 (seen_ne h (by decide)) (seen_ne h' (by decide)), fun h h' => H.d13 (seen_ne h (by decide)) (seen_ne h' (by decide)), fun h h' => H.d23 (seen_ne h (by decide)) (seen_ne h' (by decide))⟩⟩
      · rintro seen a wr ⟨x5, x6, x7, x8, x21, x22, x23, x24, x25, x26, x27, x28, x29, x30, x31, x32, rfl, H⟩ hr
        refine wpOp_step rfl (fun K hK => ?_)
        go_simp
        refine hK _ _ ?_
        clear hK K hr
        have hnew : (Value.pointer (some ⟨w.heap.size + 1, 1, none⟩)) = .pointer (some ⟨w.heap.size + 1, 1, none⟩) := rfl
        exact ⟨_, _, _, _, _, _, _, _, _, _, _, _, _, _, _, _, rfl, ⟨H.T, fun h => H.f0 (seen_ne h (by decide)), fun h => H.f1 (seen_ne h (by decide)), fun h => H.f2 (seen_ne h (by decide)), fun h => H.f3 (seen_ne h (by decide)), fun h => H.f4 (seen_ne h (by decide)), fun h => H.f5 (seen_ne h (by decide)), fun h => H.f6 (seen_ne h (by decide)), fun h => H.f7 (seen_ne h (by decide)), fun h => H.f8 (seen_ne h (by decide)), fun _ => hnew, fun h => H.f10 (seen_ne h (by decide)), fun h => H.f11 (seen_ne h (by decide)), fun h => H.f12 (seen_ne h (by decide)), fun h => H.f13 (seen_ne h (by decide)), fun h => H.f14 (seen_ne h (by decide)), fun h => H.f15 (seen_ne h (by decide)), fun h h' => H.d01 (seen_ne h (by decide)) (seen_ne h' (by decide)), fun h h' => H.d02 (seen_ne h (by decide)) (seen_ne h' (by decide)), fun h h' => H.d03 (seen_ne h (by decide)) (seen_ne h' (by decide)), fun h h' => H.d12 (seen_ne h (by decide)) (seen_ne h' (by decide)), fun h h' => H.d13 (seen_ne h (by decide)) (seen_ne h' (by decide)), fun h h' => H.d23 (seen_ne h (by decide)) (seen_ne h' (by decide))⟩⟩
      · rintro seen a wr ⟨x5, x6, x7, x8, x21, x22, x23, x24, x25, x26, x27, x28, x29, x30, x31, x32, rfl, H⟩ hr
        have e1 := H.f9 (ready_dep hr (by kernel_rfl))
        subst e1
        have a0 := H.T.a0
        have a1 := H.T.a1
        have b0 := H.T.b0
        have b1 := H.T.b1
        clear hr
        refine wpOp_step rfl (fun K hK => ?_)
        go_simp
        refine hK _ _ ?_
        clear hK K
        have hnew : (Value.int .i64 e) = .int .i64 e := rfl
        exact ⟨_, _, _, _, _, _, _, _, _, _, _, _, _, _, _, _, rfl, ⟨H.T, fun h => H.f0 (seen_ne h (by decide)), fun h => H.f1 (seen_ne h (by decide)), fun h => H.f2 (seen_ne h (by decide)), fun h => H.f3 (seen_ne h (by decide)), fun h => H.f4 (seen_ne h (by decide)), fun h => H.f5 (seen_ne h (by decide)), fun h => H.f6 (seen_ne h (by decide)), fun h => H.f7 (seen_ne h (by decide)), fun h => H.f8 (seen_ne h (by decide)), fun h => H.f9 (seen_ne h (by decide)), fun _ => hnew, fun h => H.f11 (seen_ne h (by decide)), fun h => H.f12 (seen_ne h (by decide)), fun h => H.f13 (seen_ne h (by decide)), fun h => H.f14 (seen_ne h (by decide)), fun h => H.f15 (seen_ne h (by decide)), fun h h' => H.d01 (seen_ne h (by decide)) (seen_ne h' (by decide)), fun h h' => H.d02 (seen_ne h (by decide)) (seen_ne h' (by decide)), fun h h' => H.d03 (seen_ne h (by decide)) (seen_ne h' (by decide)), fun h h' => H.d12 (seen_ne h (by decide)) (seen_ne h' (by decide)), fun h h' => H.d13 (seen_ne h (by decide)) (seen_ne h' (by decide)), fun h h' => H.d23 (seen_ne h (by decide)) (seen_ne h' (by decide))⟩⟩
      · rintro seen a wr ⟨x5, x6, x7, x8, x21, x22, x23, x24, x25, x26, x27, x28, x29, x30, x31, x32, rfl, H⟩ hr
        have e1 := H.f10 (ready_dep hr (by kernel_rfl))
        subst e1
        clear hr
        have HH := Lib.hid H
        clear H
        refine wpOp_step rfl (fun K hK => ?_)
        go_simp
        with_reducible refine (Oe.out _).mono ?_
        rintro en W1 ⟨u, rfl, hnew, hB⟩
        go_simp
        refine hK _ _ ?_
        clear hK K
        have H := HH.out
        exact ⟨_, _, _, _, _, _, _, _, _, _, _, _, _, _, _, _, rfl, ⟨H.T.next hB, fun h => H.f0 (seen_ne h (by decide)), fun h => H.f1 (seen_ne h (by decide)), fun h => (H.f2 (seen_ne h (by decide))).next hB, fun h => H.f3 (seen_ne h (by decide)), fun h => H.f4 (seen_ne h (by decide)), fun h => (H.f5 (seen_ne h (by decide))).next hB, fun h => H.f6 (seen_ne h (by decide)), fun h => H.f7 (seen_ne h (by decide)), fun h => (H.f8 (seen_ne h (by decide))).next hB, fun h => H.f9 (seen_ne h (by decide)), fun h => H.f10 (seen_ne h (by decide)), fun _ => hnew, fun h => (H.f12 (seen_ne h (by decide))).next hB, fun h => (H.f13 (seen_ne h (by decide))).next hB, fun h => (H.f14 (seen_ne h (by decide))).next hB, fun h => (H.f15 (seen_ne h (by decide))).next hB, fun h h' => H.d01 (seen_ne h (by decide)) (seen_ne h' (by decide)), fun h h' => H.d02 (seen_ne h (by decide)) (seen_ne h' (by decide)), fun h h' => H.d03 (seen_ne h (by decide)) (seen_ne h' (by decide)), fun h h' => H.d12 (seen_ne h (by decide)) (seen_ne h' (by decide)), fun h h' => H.d13 (seen_ne h (by decide)) (seen_ne h' (by decide)), fun h h' => H.d23 (seen_ne h (by decide)) (seen_ne h' (by decide))⟩⟩
      · rintro seen a wr ⟨x5, x6, x7, x8, x21, x22, x23, x24, x25, x26, x27, x28, x29, x30, x31, x32, rfl, H⟩ hr
        clear hr
        refine wpOp_step rfl (fun K hK => ?_)
        go_simp
        refine hK _ _ ?_
        clear hK K
        have hB := (Below.refl wr.heap.size wr).alloc (Nat.le_refl _) (.cells #[.bool false, .slice none 0 0] 27)
        have hnew := boxat_made H.T 27
        exact ⟨_, _, _, _, _, _, _, _, _, _, _, _, _, _, _, _, rfl, ⟨H.T.next hB, fun h => H.f0 (seen_ne h (by decide)), fun h => H.f1 (seen_ne h (by decide)), fun h => (H.f2 (seen_ne h (by decide))).next hB, fun h => H.f3 (seen_ne h (by decide)), fun h => H.f4 (seen_ne h (by decide)), fun h => (H.f5 (seen_ne h (by decide))).next hB, fun h => H.f6 (seen_ne h (by decide)), fun h => H.f7 (seen_ne h (by decide)), fun h => (H.f8 (seen_ne h (by decide))).next hB, fun h => H.f9 (seen_ne h (by decide)), fun h => H.f10 (seen_ne h (by decide)), fun h => (H.f11 (seen_ne h (by decide))).next hB, fun _ => hnew, fun h => (H.f13 (seen_ne h (by decide))).next hB, fun h => (H.f14 (seen_ne h (by decide))).next hB, fun h => (H.f15 (seen_ne h (by decide))).next hB, fun _ h => (H.f13 (seen_ne h (by decide))).fresh, fun _ h => (H.f14 (seen_ne h (by decide))).fresh, fun _ h => (H.f15 (seen_ne h (by decide))).fresh, fun h h' => H.d12 (seen_ne h (by decide)) (seen_ne h' (by decide)), fun h h' => H.d13 (seen_ne h (by decide)) (seen_ne h' (by decide)), fun h h' => H.d23 (seen_ne h (by decide)) (seen_ne h' (by decide))⟩⟩
      · rintro seen a wr ⟨x5, x6, x7, x8, x21, x22, x23, x24, x25, x26, x27, x28, x29, x30, x31, x32, rfl, H⟩ hr
        clear hr
        refine wpOp_step rfl (fun K hK => ?_)
        go_simp
        refine hK _ _ ?_
        clear hK K
        have hB := (Below.refl wr.heap.size wr).alloc (Nat.le_refl _) (.cells #[.bool false, .slice none 0 0] 27)
        have hnew := boxat_made H.T 27
        exact ⟨_, _, _, _, _, _, _, _, _, _, _, _, _, _, _, _, rfl, ⟨H.T.next hB, fun h => H.f0 (seen_ne h (by decide)), fun h => H.f1 (seen_ne h (by decide)), fun h => (H.f2 (seen_ne h (by decide))).next hB, fun h => H.f3 (seen_ne h (by decide)), fun h => H.f4 (seen_ne h (by decide)), fun h => (H.f5 (seen_ne h (by decide))).next hB, fun h => H.f6 (seen_ne h (by decide)), fun h => H.f7 (seen_ne h (by decide)), fun h => (H.f8 (seen_ne h (by decide))).next hB, fun h => H.f9 (seen_ne h (by decide)), fun h => H.f10 (seen_ne h (by decide)), fun h => (H.f11 (seen_ne h (by decide))).next hB, fun h => (H.f12 (seen_ne h (by decide))).next hB, fun _ => hnew, fun h => (H.f14 (seen_ne h (by decide))).next hB, fun h => (H.f15 (seen_ne h (by decide))).next hB, fun h _ => Ne.symm (H.f12 (seen_ne h (by decide))).fresh, fun h h' => H.d02 (seen_ne h (by decide)) (seen_ne h' (by decide)), fun h h' => H.d03 (seen_ne h (by decide)) (seen_ne h' (by decide)), fun _ h => (H.f14 (seen_ne h (by decide))).fresh, fun _ h => (H.f15 (seen_ne h (by decide))).fresh, fun h h' => H.d23 (seen_ne h (by decide)) (seen_ne h' (by decide))⟩⟩
      · rintro seen a wr ⟨x5, x6, x7, x8, x21, x22, x23, x24, x25, x26, x27, x28, x29, x30, x31, x32, rfl, H⟩ hr
        clear hr
        refine wpOp_step rfl (fun K hK => ?_)
        go_simp
        refine hK _ _ ?_
        clear hK K
        have hB := (Below.refl wr.heap.size wr).alloc (Nat.le_refl _) (.cells #[.bool false, .slice none 0 0] 27)
        have hnew := boxat_made H.T 27
        exact ⟨_, _, _, _, _, _, _, _, _, _, _, _, _, _, _, _, rfl, ⟨H.T.next hB, fun h => H.f0 (seen_ne h (by decide)), fun h => H.f1 (seen_ne h (by decide)), fun h => (H.f2 (seen_ne h (by decide))).next hB, fun h => H.f3 (seen_ne h (by decide)), fun h => H.f4 (seen_ne h (by decide)), fun h => (H.f5 (seen_ne h (by decide))).next hB, fun h => H.f6 (seen_ne h (by decide)), fun h => H.f7 (seen_ne h (by decide)), fun h => (H.f8 (seen_ne h (by decide))).next hB, fun h => H.f9 (seen_ne h (by decide)), fun h => H.f10 (seen_ne h (by decide)), fun h => (H.f11 (seen_ne h (by decide))).next hB, fun h => (H.f12 (seen_ne h (by decide))).next hB, fun h => (H.f13 (seen_ne h (by decide))).next hB, fun _ => hnew, fun h => (H.f15 (seen_ne h (by decide))).next hB, fun h h' => H.d01 (seen_ne h (by decide)) (seen_ne h' (by decide)), fun h _ => Ne.symm (H.f12 (seen_ne h (by decide))).fresh, fun h h' => H.d03 (seen_ne h (by decide)) (seen_ne h' (by decide)), fun h _ => Ne.symm (H.f13 (seen_ne h (by decide))).fresh, fun h h' => H.d13 (seen_ne h (by decide)) (seen_ne h' (by decide)), fun _ h => (H.f15 (seen_ne h (by decide))).fresh⟩⟩
      · rintro seen a wr ⟨x5, x6, x7, x8, x21, x22, x23, x24, x25, x26, x27, x28, x29, x30, x31, x32, rfl, H⟩ hr
        clear hr
        refine wpOp_step rfl (fun K hK => ?_)
        go_simp
        refine hK _ _ ?_
        clear hK K
        have hB := (Below.refl wr.heap.size wr).alloc (Nat.le_refl _) (.cells #[.bool false, .slice none 0 0] 27)
        have hnew := boxat_made H.T 27
        exact ⟨_, _, _, _, _, _, _, _, _, _, _, _, _, _, _, _, rfl, ⟨H.T.next hB, fun h => H.f0 (seen_ne h (by decide)), fun h => H.f1 (seen_ne h (by decide)), fun h => (H.f2 (seen_ne h (by decide))).next hB, fun h => H.f3 (seen_ne h (by decide)), fun h => H.f4 (seen_ne h (by decide)), fun h => (H.f5 (seen_ne h (by decide))).next hB, fun h => H.f6 (seen_ne h (by decide)), fun h => H.f7 (seen_ne h (by decide)), fun h => (H.f8 (seen_ne h (by decide))).next hB, fun h => H.f9 (seen_ne h (by decide)), fun h => H.f10 (seen_ne h (by decide)), fun h => (H.f11 (seen_ne h (by decide))).next hB, fun h => (H.f12 (seen_ne h (by decide))).next hB, fun h => (H.f13 (seen_ne h (by decide))).next hB, fun h => (H.f14 (seen_ne h (by decide))).next hB, fun _ => hnew, fun h h' => H.d01 (seen_ne h (by decide)) (seen_ne h' (by decide)), fun h h' => H.d02 (seen_ne h (by decide)) (seen_ne h' (by decide)), fun h _ => Ne.symm (H.f12 (seen_ne h (by decide))).fresh, fun h h' => H.d12 (seen_ne h (by decide)) (seen_ne h' (by decide)), fun h _ => Ne.symm (H.f13 (seen_ne h (by decide))).fresh, fun h _ => Ne.symm (H.f14 (seen_ne h (by decide))).fresh⟩⟩
    · clear T0 Op Oc Oq Oe F1 F2 F3 F4 F5 G1 M1 M2 M3 M4 M5 G2 G3
      rintro a wr ⟨x5, x6, x7, x8, x21, x22, x23, x24, x25, x26, x27, x28, x29, x30, x31, x32, rfl, H⟩
      obtain ⟨k1, rfl, K1⟩ := H.f12 rfl
      obtain ⟨k2, rfl, K2⟩ := H.f13 rfl
      obtain ⟨k3, rfl, K3⟩ := H.f14 rfl
      obtain ⟨k4, rfl, K4⟩ := H.f15 rfl
      have n12 : k1 ≠ k2 := fun h => H.d01 rfl rfl (by rw [h])
      have n13 : k1 ≠ k3 := fun h => H.d02 rfl rfl (by rw [h])
      have n14 : k1 ≠ k4 := fun h => H.d03 rfl rfl (by rw [h])
      have n23 : k2 ≠ k3 := fun h => H.d12 rfl rfl (by rw [h])
      have n24 : k2 ≠ k4 := fun h => H.d13 rfl rfl (by rw [h])
      have n34 : k3 ≠ k4 := fun h => H.d23 rfl rfl (by rw [h])
      have B1 := H.f2 rfl
      have B2 := H.f5 rfl
      have B3 := H.f8 rfl
      have B4 := H.f11 rfl
      have T := Lib.hid H.T
      clear H
      obtain ⟨mm, rfl, m1o, m1c, rfl, h1⟩ := id B1
      obtain ⟨mm, rfl, m2o, m2c, rfl, h2⟩ := id B2
      obtain ⟨mm, rfl, m3o, m3c, rfl, h3⟩ := id B3
      obtain ⟨mm, rfl, m4o, m4c, rfl, h4⟩ := id B4
      clear h1 h2 h3 h4
      have B1 := Lib.hid B1
      have B2 := Lib.hid B2
      have B3 := Lib.hid B3
      have B4 := Lib.hid B4
      have c10 := K1.cel 0
      have c11 := K1.cel 1
      have f10 := K1.fro 0
      have f11 := K1.fro 1
      simp at c10 c11
      have c20 := K2.cel 0
      have c21 := K2.cel 1
      have f20 := K2.fro 0
      have f21 := K2.fro 1
      simp at c20 c21
      have c30 := K3.cel 0
      have c31 := K3.cel 1
      have f30 := K3.fro 0
      have f31 := K3.fro 1
      simp at c30 c31
      have c40 := K4.cel 0
      have c41 := K4.cel 1
      have f40 := K4.fro 0
      have f41 := K4.fro 1
      simp at c40 c41
      have K1 := Lib.hid K1
      have K2 := Lib.hid K2
      have K3 := Lib.hid K3
      have K4 := Lib.hid K4
      go_wp2_with fail
      go_meet
      exact ⟨k1, k2, k3, k4, rfl, rfl, rfl, rfl,
        Lib.hid ((((boxbig_set K1.out B1.out).put2 n12.symm (K2.out.put2 n12)).put2 n13.symm ((K3.out.put2 n13).put2 n23)).put2 n14.symm (((K4.out.put2 n14).put2 n24).put2 n34)),
        Lib.hid (((boxbig_set (K2.out.put2 n12) (B2.out.put2 K1.out)).put2 n23.symm ((K3.out.put2 n13).put2 n23)).put2 n24.symm (((K4.out.put2 n14).put2 n24).put2 n34)),
        Lib.hid ((boxbig_set ((K3.out.put2 n13).put2 n23) ((B3.out.put2 K1.out).put2 (K2.out.put2 n12))).put2 n34.symm (((K4.out.put2 n14).put2 n24).put2 n34)),
        Lib.hid (boxbig_set (((K4.out.put2 n14).put2 n24).put2 n34) (((B4.out.put2 K1.out).put2 (K2.out.put2 n12)).put2 ((K3.out.put2 n13).put2 n23))),
        Lib.hid ((((T.out.put2 K1.out).put2 (K2.out.put2 n12)).put2 ((K3.out.put2 n13).put2 n23)).put2 (((K4.out.put2 n14).put2 n24).put2 n34))⟩
  case rest =>
    obtain ⟨k1, k2, k3, k4, rfl, rfl, rfl, rfl, X1, X2, X3, X4, HT⟩ := hcut
    have T : Hid (Mem w p c q e k1 k2 k3 k4 [] wc) := Lib.hid ⟨⟨HT.out, X1.out, X2.out, X3.out, X4.out⟩, fun _ h => by cases h⟩
    clear X1 X2 X3 X4 HT T0 Op Oc Oq Oe
    have a0 := T.out.F.T.a0
    have a1 := T.out.F.T.a1
    have b0 := T.out.F.T.b0
    have b1 := T.out.F.T.b1
    go_wp2_with fail
    with_reducible refine (F1.out _).mono ?_
    rintro en w1 ⟨n1, d1, o1, rfl, hA, hB⟩
    have T' := Lib.hid (T.out.next hB)
    have A1 := Lib.hid hA
    clear hA hB T a0 a1 b0 b1 F1
    go_upto_region 3 with fail
    obtain ⟨r1, hr1⟩ : ∃ r, r = w1.heap.size := ⟨_, rfl⟩
    have T := Lib.hid (T'.out.made n1 d1 41)
    rw [← hr1] at T
    simp only [← hr1]
    refine wp_letter (fun W => Mem w p c q e k1 k2 k3 k4 [(n1, d1, r1)] W) T.out ?_
    clear T T' hr1 w1
    intro w1 T
    have T := Lib.hid T
    have a0 := T.out.F.T.a0
    have a1 := T.out.F.T.a1
    have b0 := T.out.F.T.b0
    have b1 := T.out.F.T.b1
    go_wp2_with fail
    with_reducible refine (F2.out _).mono ?_
    rintro en w2 ⟨n2, d2, o2, rfl, hA, hB⟩
    have T' := Lib.hid (T.out.next hB)
    have A2 := Lib.hid hA
    clear hA hB T a0 a1 b0 b1 F2
    go_upto_region 4 with fail
    obtain ⟨r2, hr2⟩ : ∃ r, r = w2.heap.size := ⟨_, rfl⟩
    have T := Lib.hid (T'.out.made n2 d2 41)
    rw [← hr2] at T
    simp only [← hr2]
    refine wp_letter (fun W => Mem w p c q e k1 k2 k3 k4 [(n2, d2, r2), (n1, d1, r1)] W) T.out ?_
    clear T T' hr2 w2
    intro w2 T
    have T := Lib.hid T
    have a0 := T.out.F.T.a0
    have a1 := T.out.F.T.a1
    have b0 := T.out.F.T.b0
    have b1 := T.out.F.T.b1
    go_wp2_with fail
    with_reducible refine (F3.out _).mono ?_
    rintro en w3 ⟨n3, d3, o3, rfl, hA, hB⟩
    have T' := Lib.hid (T.out.next hB)
    have A3 := Lib.hid hA
    clear hA hB T a0 a1 b0 b1 F3
    go_upto_region 5 with fail
    obtain ⟨r3, hr3⟩ : ∃ r, r = w3.heap.size := ⟨_, rfl⟩
    have T := Lib.hid (T'.out.made n3 d3 41)
    rw [← hr3] at T
    simp only [← hr3]
    refine wp_letter (fun W => Mem w p c q e k1 k2 k3 k4 [(n3, d3, r3), (n2, d2, r2), (n1, d1, r1)] W) T.out ?_
    clear T T' hr3 w3
    intro w3 T
    have T := Lib.hid T
    obtain ⟨g1, m1, x10, x11, h1, _⟩ := T.out.F.X1
    obtain ⟨g2, m2, x20, x21, h2, _⟩ := T.out.F.X2
    have C := Lib.hid (G1.out _ _ _ h1 h2)
    clear h1 h2 G1
    go_wp2_with fail
    with_reducible refine C.out.mono ?_
    rintro en w4 ⟨n4, d4, o4, rfl, hA, hB⟩
    obtain ⟨rfl, rfl, rfl⟩ := A1.out.one hA
    have T' := Lib.hid (T.out.next hB)
    clear hA hB T C x10 x11 x20 x21 A1
    go_upto_region 6 with fail
    obtain ⟨r4, hr4⟩ : ∃ r, r = w4.heap.size := ⟨_, rfl⟩
    have T := Lib.hid (T'.out.made n1 d1 41)
    rw [← hr4] at T
    simp only [← hr4]
    refine wp_letter (fun W => Mem w p c q e k1 k2 k3 k4 [(n1, d1, r4), (n3, d3, r3), (n2, d2, r2), (n1, d1, r1)] W) T.out ?_
    clear T T' hr4 w4
    intro w4 T
    have T := Lib.hid T
    obtain ⟨ga, gb, gc, gd, ma, mb, mc, md, hV⟩ := T.out.op4
    have V := Lib.hid hV
    clear hV
    go_cut [17, 18] (fun s t wx => ∃ r, s = .pointer (some ⟨r, 0, none⟩) ∧ t = .bool o2 ∧ Hid (Mem w p c q e k1 k2 k3 k4 ((n2, d2, r) :: [(n1, d1, r4), (n3, d3, r3), (n2, d2, r2), (n1, d1, r1)]) wx))
    case first =>
      refine wp_region_rely_all (fun seen a wr => ∃ x57 x58 x59 x60 x61 x62 x63 x64 x65 x66 x67 x56 x68 x69 x17 x18, a = ⟨#[.agg #[.int .i64 p, .int .i64 c], .agg #[.int .i64 q, .int .i64 e], .pointer (some ⟨w.heap.size, 0, none⟩), .pointer (some ⟨w.heap.size + 1, 0, none⟩), .bool false, .pointer (some ⟨k1, 0, none⟩), .pointer (some ⟨k2, 0, none⟩), .pointer (some ⟨k3, 0, none⟩), .pointer (some ⟨k4, 0, none⟩), .pointer (some ⟨r1, 0, none⟩), .bool o1, .pointer (some ⟨r2, 0, none⟩), .bool o2, .pointer (some ⟨r3, 0, none⟩), .bool o3, .pointer (some ⟨r4, 0, none⟩), .bool o1, x17, x18, undef, undef, u21, u22, u23, u24, u25, u26, u27, u28, u29, u30, u31, u32, .tuple #[.agg #[.int .i64 n1, .int .i64 d1], .bool o1], .agg #[.int .i64 p, .int .i64 c], .tuple #[.agg #[.int .i64 n1, .int .i64 d1], .bool o1], .agg #[.int .i64 n1, .int .i64 d1], .bool o1, .tuple #[.agg #[.int .i64 n2, .int .i64 d2], .bool o2], .agg #[.int .i64 p, .int .i64 c], .agg #[.int .i64 q, .int .i64 e], .tuple #[.agg #[.int .i64 n2, .int .i64 d2], .bool o2], .agg #[.int .i64 n2, .int .i64 d2], .bool o2, .tuple #[.agg #[.int .i64 n3, .int .i64 d3], .bool o3], .agg #[.int .i64 p, .int .i64 c], .agg #[.int .i64 q, .int .i64 e], .tuple #[.agg #[.int .i64 n3, .int .i64 d3], .bool o3], .agg #[.int .i64 n3, .int .i64 d3], .bool o3, .tuple #[.agg #[.int .i64 n1, .int .i64 d1], .bool o1], .agg #[.bool g1, m1], .agg #[.bool g2, m2], .tuple #[.agg #[.int .i64 n1, .int .i64 d1], .bool o1], .agg #[.int .i64 n1, .int .i64 d1], .bool o1, x56, x57, x58, x59, x60, x61, x62, x63, x64, x65, x66, x67, x68, x69, u70, u71, u72, u73, u74, u75, u76, u77, u78, u79, u80, u81, u82, u83, u84, u85, u86, u87, u88, u89, u90, u91, u92, u93, u94, u95, u96, u97, u98, u99, u100, u101, u102, u103, u104, u105, u106, u107, u108, u109, u110, u111, u112, u113, u114], []⟩ ∧ R6 w4 pe qc su ce n2 d2 o2 ga gb gc gd ma mb mc md seen x57 x58 x59 x60 x61 x62 x63 x64 x65 x66 x67 x56 x68 x69 x17 x18 wr) (by kernel_rfl) (by kernel_rfl) ?_ ?_ ?_
      · refine ⟨_, _, _, _, _, _, _, _, _, _, _, _, _, _, _, _, rfl, (Below.refl _ _).drew, ?_, ?_, ?_, ?_, ?_, ?_, ?_, ?_, ?_, ?_, ?_, ?_, ?_, ?_, ?_, ?_, ?_⟩ <;> (intro h; simp at h)
      · intro i hi
        have hi' : i < 17 := hi
        clear hi
        obtain rfl | rfl | rfl | rfl | rfl | rfl | rfl | rfl | rfl | rfl | rfl | rfl | rfl | rfl | rfl | rfl | rfl : i = 0 ∨ i = 1 ∨ i = 2 ∨ i = 3 ∨ i = 4 ∨ i = 5 ∨ i = 6 ∨ i = 7 ∨ i = 8 ∨ i = 9 ∨ i = 10 ∨ i = 11 ∨ i = 12 ∨ i = 13 ∨ i = 14 ∨ i = 15 ∨ i = 16 := by omega
        all_goals clear hi'
        · rintro seen a wr ⟨x57, x58, x59, x60, x61, x62, x63, x64, x65, x66, x67, x56, x68, x69, x17, x18, rfl, H⟩ hr
          clear hr
          have y0 := (V.out.next H.T).c10
          have y1 := (V.out.next H.T).c11
          have HH := Lib.hid H
          clear H
          refine wpOp_step rfl (fun K hK => ?_)
          go_simp
          refine hK _ _ ?_
          clear hK K
          have H := HH.out
          exact ⟨_, _, _, _, _, _, _, _, _, _, _, _, _, _, _, _, rfl, ⟨H.T, fun h => seen_ne2 (H.cl (seen_ne h (by decide))), fun _ => rfl, fun h => H.f1 (seen_ne h (by decide)), fun h => H.f2 (seen_ne h (by decide)), fun h => H.f3 (seen_ne h (by decide)), fun h => H.f4 (seen_ne h (by decide)), fun h => H.f5 (seen_ne h (by decide)), fun h => H.f6 (seen_ne h (by decide)), fun h => H.f7 (seen_ne h (by decide)), fun h => H.f8 (seen_ne h (by decide)), fun h => H.f9 (seen_ne h (by decide)), fun h => H.f10 (seen_ne h (by decide)), fun h => H.f11 (seen_ne h (by decide)), fun h => H.f12 (seen_ne h (by decide)), fun h => H.f13 (seen_ne h (by decide)), fun h => by rw [getD_set_ne false (by decide)]; exact H.f14 (seen_ne h (by decide)), fun h => H.f16 (seen_ne h (by decide))⟩⟩
        · rintro seen a wr ⟨x57, x58, x59, x60, x61, x62, x63, x64, x65, x66, x67, x56, x68, x69, x17, x18, rfl, H⟩ hr
          clear hr
          have y0 := (V.out.next H.T).c40
          have y1 := (V.out.next H.T).c41
          have HH := Lib.hid H
          clear H
          refine wpOp_step rfl (fun K hK => ?_)
          go_simp
          refine hK _ _ ?_
          clear hK K
          have H := HH.out
          exact ⟨_, _, _, _, _, _, _, _, _, _, _, _, _, _, _, _, rfl, ⟨H.T, fun h => seen_ne2 (H.cl (seen_ne h (by decide))), fun h => H.f0 (seen_ne h (by decide)), fun _ => rfl, fun h => H.f2 (seen_ne h (by decide)), fun h => H.f3 (seen_ne h (by decide)), fun h => H.f4 (seen_ne h (by decide)), fun h => H.f5 (seen_ne h (by decide)), fun h => H.f6 (seen_ne h (by decide)), fun h => H.f7 (seen_ne h (by decide)), fun h => H.f8 (seen_ne h (by decide)), fun h => H.f9 (seen_ne h (by decide)), fun h => H.f10 (seen_ne h (by decide)), fun h => H.f11 (seen_ne h (by decide)), fun h => H.f12 (seen_ne h (by decide)), fun h => H.f13 (seen_ne h (by decide)), fun h => by rw [getD_set_ne false (by decide)]; exact H.f14 (seen_ne h (by decide)), fun h => H.f16 (seen_ne h (by decide))⟩⟩
        · rintro seen a wr ⟨x57, x58, x59, x60, x61, x62, x63, x64, x65, x66, x67, x56, x68, x69, x17, x18, rfl, H⟩ hr
          have e0 := H.f0 (ready_dep hr (by kernel_rfl))
          subst e0
          have e1 := H.f1 (ready_dep hr (by kernel_rfl))
          subst e1
          clear hr
          have HH := Lib.hid H
          clear H
          refine wpOp_step rfl (fun K hK => ?_)
          go_simp
          with_reducible refine (M1.out _ _ _ (V.out.next HH.out.T).b1 (V.out.next HH.out.T).b4).mono ?_
          rintro en W1 ⟨u, rfl, hnew, hB⟩
          go_simp
          refine hK _ _ ?_
          clear hK K
          have H := HH.out
          exact ⟨_, _, _, _, _, _, _, _, _, _, _, _, _, _, _, _, rfl, ⟨below_mono H.T hB (Nat.le_refl _), fun h => seen_ne2 (H.cl (seen_ne h (by decide))), fun h => H.f0 (seen_ne h (by decide)), fun h => H.f1 (seen_ne h (by decide)), fun _ => hnew, fun h => H.f3 (seen_ne h (by decide)), fun h => H.f4 (seen_ne h (by decide)), fun h => (H.f5 (seen_ne h (by decide))).next hB, fun h => (H.f6 (seen_ne h (by decide))).next hB, fun h => H.f7 (seen_ne h (by decide)), fun h => H.f8 (seen_ne h (by decide)), fun h => (H.f9 (seen_ne h (by decide))).next hB, fun h => H.f10 (seen_ne h (by decide)), fun h => H.f11 (seen_ne h (by decide)), fun h => H.f12 (seen_ne h (by decide)), fun h => H.f13 (seen_ne h (by decide)), fun h => by rw [getD_set_ne false (by decide)]; exact abox_next (H.f14 (seen_ne h (by decide))) hB, fun h => H.f16 (seen_ne h (by decide))⟩⟩
        · rintro seen a wr ⟨x57, x58, x59, x60, x61, x62, x63, x64, x65, x66, x67, x56, x68, x69, x17, x18, rfl, H⟩ hr
          clear hr
          have y0 := (V.out.next H.T).c30
          have y1 := (V.out.next H.T).c31
          have HH := Lib.hid H
          clear H
          refine wpOp_step rfl (fun K hK => ?_)
          go_simp
          refine hK _ _ ?_
          clear hK K
          have H := HH.out
          exact ⟨_, _, _, _, _, _, _, _, _, _, _, _, _, _, _, _, rfl, ⟨H.T, fun h => seen_ne2 (H.cl (seen_ne h (by decide))), fun h => H.f0 (seen_ne h (by decide)), fun h => H.f1 (seen_ne h (by decide)), fun h => H.f2 (seen_ne h (by decide)), fun _ => rfl, fun h => H.f4 (seen_ne h (by decide)), fun h => H.f5 (seen_ne h (by decide)), fun h => H.f6 (seen_ne h (by decide)), fun h => H.f7 (seen_ne h (by decide)), fun h => H.f8 (seen_ne h (by decide)), fun h => H.f9 (seen_ne h (by decide)), fun h => H.f10 (seen_ne h (by decide)), fun h => H.f11 (seen_ne h (by decide)), fun h => H.f12 (seen_ne h (by decide)), fun h => H.f13 (seen_ne h (by decide)), fun h => by rw [getD_set_ne false (by decide)]; exact H.f14 (seen_ne h (by decide)), fun h => H.f16 (seen_ne h (by decide))⟩⟩
        · rintro seen a wr ⟨x57, x58, x59, x60, x61, x62, x63, x64, x65, x66, x67, x56, x68, x69, x17, x18, rfl, H⟩ hr
          clear hr
          have y0 := (V.out.next H.T).c20
          have y1 := (V.out.next H.T).c21
          have HH := Lib.hid H
          clear H
          refine wpOp_step rfl (fun K hK => ?_)
          go_simp
          refine hK _ _ ?_
          clear hK K
          have H := HH.out
          exact ⟨_, _, _, _, _, _, _, _, _, _, _, _, _, _, _, _, rfl, ⟨H.T, fun h => seen_ne2 (H.cl (seen_ne h (by decide))), fun h => H.f0 (seen_ne h (by decide)), fun h => H.f1 (seen_ne h (by decide)), fun h => H.f2 (seen_ne h (by decide)), fun h => H.f3 (seen_ne h (by decide)), fun _ => rfl, fun h => H.f5 (seen_ne h (by decide)), fun h => H.f6 (seen_ne h (by decide)), fun h => H.f7 (seen_ne h (by decide)), fun h => H.f8 (seen_ne h (by decide)), fun h => H.f9 (seen_ne h (by decide)), fun h => H.f10 (seen_ne h (by decide)), fun h => H.f11 (seen_ne h (by decide)), fun h => H.f12 (seen_ne h (by decide)), fun h => H.f13 (seen_ne h (by decide)), fun h => by rw [getD_set_ne false (by decide)]; exact H.f14 (seen_ne h (by decide)), fun h => H.f16 (seen_ne h (by decide))⟩⟩
        · rintro seen a wr ⟨x57, x58, x59, x60, x61, x62, x63, x64, x65, x66, x67, x56, x68, x69, x17, x18, rfl, H⟩ hr
          have e3 := H.f3 (ready_dep hr (by kernel_rfl))
          subst e3
          have e4 := H.f4 (ready_dep hr (by kernel_rfl))
          subst e4
          clear hr
          have HH := Lib.hid H
          clear H
          refine wpOp_step rfl (fun K hK => ?_)
          go_simp
          with_reducible refine (M2.out _ _ _ (V.out.next HH.out.T).b3 (V.out.next HH.out.T).b2).mono ?_
          rintro en W1 ⟨u, rfl, hnew, hB⟩
          go_simp
          refine hK _ _ ?_
          clear hK K
          have H := HH.out
          exact ⟨_, _, _, _, _, _, _, _, _, _, _, _, _, _, _, _, rfl, ⟨below_mono H.T hB (Nat.le_refl _), fun h => seen_ne2 (H.cl (seen_ne h (by decide))), fun h => H.f0 (seen_ne h (by decide)), fun h => H.f1 (seen_ne h (by decide)), fun h => (H.f2 (seen_ne h (by decide))).next hB, fun h => H.f3 (seen_ne h (by decide)), fun h => H.f4 (seen_ne h (by decide)), fun _ => hnew, fun h => (H.f6 (seen_ne h (by decide))).next hB, fun h => H.f7 (seen_ne h (by decide)), fun h => H.f8 (seen_ne h (by decide)), fun h => (H.f9 (seen_ne h (by decide))).next hB, fun h => H.f10 (seen_ne h (by decide)), fun h => H.f11 (seen_ne h (by decide)), fun h => H.f12 (seen_ne h (by decide)), fun h => H.f13 (seen_ne h (by decide)), fun h => by rw [getD_set_ne false (by decide)]; exact abox_next (H.f14 (seen_ne h (by decide))) hB, fun h => H.f16 (seen_ne h (by decide))⟩⟩
        · rintro seen a wr ⟨x57, x58, x59, x60, x61, x62, x63, x64, x65, x66, x67, x56, x68, x69, x17, x18, rfl, H⟩ hr
          have e2 := Lib.hid (H.f2 (ready_dep hr (by kernel_rfl)))
          have e5 := Lib.hid (H.f5 (ready_dep hr (by kernel_rfl)))
          clear hr
          have HH := Lib.hid H
          clear H
          refine wpOp_step rfl (fun K hK => ?_)
          go_simp
          with_reducible refine (M5.out _ _ _ e2.out e5.out).mono ?_
          rintro en W1 ⟨u, rfl, hnew, hB⟩
          go_simp
          refine hK _ _ ?_
          clear hK K
          have H := HH.out
          exact ⟨_, _, _, _, _, _, _, _, _, _, _, _, _, _, _, _, rfl, ⟨below_mono H.T hB (Nat.le_refl _), fun h => seen_ne2 (H.cl (seen_ne h (by decide))), fun h => H.f0 (seen_ne h (by decide)), fun h => H.f1 (seen_ne h (by decide)), fun h => (H.f2 (seen_ne h (by decide))).next hB, fun h => H.f3 (seen_ne h (by decide)), fun h => H.f4 (seen_ne h (by decide)), fun h => (H.f5 (seen_ne h (by decide))).next hB, fun _ => hnew, fun h => H.f7 (seen_ne h (by decide)), fun h => H.f8 (seen_ne h (by decide)), fun h => (H.f9 (seen_ne h (by decide))).next hB, fun h => H.f10 (seen_ne h (by decide)), fun h => H.f11 (seen_ne h (by decide)), fun h => H.f12 (seen_ne h (by decide)), fun h => H.f13 (seen_ne h (by decide)), fun h => by rw [getD_set_ne false (by decide)]; exact abox_next (H.f14 (seen_ne h (by decide))) hB, fun h => H.f16 (seen_ne h (by decide))⟩⟩
        · rintro seen a wr ⟨x57, x58, x59, x60, x61, x62, x63, x64, x65, x66, x67, x56, x68, x69, x17, x18, rfl, H⟩ hr
          clear hr
          have y0 := (V.out.next H.T).c20
          have y1 := (V.out.next H.T).c21
          have HH := Lib.hid H
          clear H
          refine wpOp_step rfl (fun K hK => ?_)
          go_simp
          refine hK _ _ ?_
          clear hK K
          have H := HH.out
          exact ⟨_, _, _, _, _, _, _, _, _, _, _, _, _, _, _, _, rfl, ⟨H.T, fun h => seen_ne2 (H.cl (seen_ne h (by decide))), fun h => H.f0 (seen_ne h (by decide)), fun h => H.f1 (seen_ne h (by decide)), fun h => H.f2 (seen_ne h (by decide)), fun h => H.f3 (seen_ne h (by decide)), fun h => H.f4 (seen_ne h (by decide)), fun h => H.f5 (seen_ne h (by decide)), fun h => H.f6 (seen_ne h (by decide)), fun _ => rfl, fun h => H.f8 (seen_ne h (by decide)), fun h => H.f9 (seen_ne h (by decide)), fun h => H.f10 (seen_ne h (by decide)), fun h => H.f11 (seen_ne h (by decide)), fun h => H.f12 (seen_ne h (by decide)), fun h => H.f13 (seen_ne h (by decide)), fun h => by rw [getD_set_ne false (by decide)]; exact H.f14 (seen_ne h (by decide)), fun h => H.f16 (seen_ne h (by decide))⟩⟩
        · rintro seen a wr ⟨x57, x58, x59, x60, x61, x62, x63, x64, x65, x66, x67, x56, x68, x69, x17, x18, rfl, H⟩ hr
          clear hr
          have y0 := (V.out.next H.T).c40
          have y1 := (V.out.next H.T).c41
          have HH := Lib.hid H
          clear H
          refine wpOp_step rfl (fun K hK => ?_)
          go_simp
          refine hK _ _ ?_
          clear hK K
          have H := HH.out
          exact ⟨_, _, _, _, _, _, _, _, _, _, _, _, _, _, _, _, rfl, ⟨H.T, fun h => seen_ne2 (H.cl (seen_ne h (by decide))), fun h => H.f0 (seen_ne h (by decide)), fun h => H.f1 (seen_ne h (by decide)), fun h => H.f2 (seen_ne h (by decide)), fun h => H.f3 (seen_ne h (by decide)), fun h => H.f4 (seen_ne h (by decide)), fun h => H.f5 (seen_ne h (by decide)), fun h => H.f6 (seen_ne h (by decide)), fun h => H.f7 (seen_ne h (by decide)), fun _ => rfl, fun h => H.f9 (seen_ne h (by decide)), fun h => H.f10 (seen_ne h (by decide)), fun h => H.f11 (seen_ne h (by decide)), fun h => H.f12 (seen_ne h (by decide)), fun h => H.f13 (seen_ne h (by decide)), fun h => by rw [getD_set_ne false (by decide)]; exact H.f14 (seen_ne h (by decide)), fun h => H.f16 (seen_ne h (by decide))⟩⟩
        · rintro seen a wr ⟨x57, x58, x59, x60, x61, x62, x63, x64, x65, x66, x67, x56, x68, x69, x17, x18, rfl, H⟩ hr
          have e7 := H.f7 (ready_dep hr (by kernel_rfl))
          subst e7
          have e8 := H.f8 (ready_dep hr (by kernel_rfl))
          subst e8
          clear hr
          have HH := Lib.hid H
          clear H
          refine wpOp_step rfl (fun K hK => ?_)
          go_simp
          with_reducible refine (M3.out _ _ _ (V.out.next HH.out.T).b2 (V.out.next HH.out.T).b4).mono ?_
          rintro en W1 ⟨u, rfl, hnew, hB⟩
          go_simp
          refine hK _ _ ?_
          clear hK K
          have H := HH.out
          exact ⟨_, _, _, _, _, _, _, _, _, _, _, _, _, _, _, _, rfl, ⟨below_mono H.T hB (Nat.le_refl _), fun h => seen_ne2 (H.cl (seen_ne h (by decide))), fun h => H.f0 (seen_ne h (by decide)), fun h => H.f1 (seen_ne h (by decide)), fun h => (H.f2 (seen_ne h (by decide))).next hB, fun h => H.f3 (seen_ne h (by decide)), fun h => H.f4 (seen_ne h (by decide)), fun h => (H.f5 (seen_ne h (by decide))).next hB, fun h => (H.f6 (seen_ne h (by decide))).next hB, fun h => H.f7 (seen_ne h (by decide)), fun h => H.f8 (seen_ne h (by decide)), fun _ => hnew, fun h => H.f10 (seen_ne h (by decide)), fun h => H.f11 (seen_ne h (by decide)), fun h => H.f12 (seen_ne h (by decide)), fun h => H.f13 (seen_ne h (by decide)), fun h => by rw [getD_set_ne false (by decide)]; exact abox_next (H.f14 (seen_ne h (by decide))) hB, fun h => H.f16 (seen_ne h (by decide))⟩⟩
        · rintro seen a wr ⟨x57, x58, x59, x60, x61, x62, x63, x64, x65, x66, x67, x56, x68, x69, x17, x18, rfl, H⟩ hr
          have e6 := Lib.hid (H.f6 (ready_dep hr (by kernel_rfl)))
          have e9 := Lib.hid (H.f9 (ready_dep hr (by kernel_rfl)))
          clear hr
          have HH := Lib.hid H
          clear H
          refine wpOp_step rfl (fun K hK => ?_)
          go_simp
          with_reducible refine (G2.out _ _ _ e6.out e9.out).mono ?_
          rintro en W1 ⟨n, d, o, rfl, hA, hB⟩
          obtain ⟨rfl, rfl, rfl⟩ := A2.out.one hA
          clear hA
          go_simp
          refine hK _ _ ?_
          clear hK K
          have H := HH.out
          exact ⟨_, _, _, _, _, _, _, _, _, _, _, _, _, _, _, _, rfl, ⟨below_mono H.T hB (Nat.le_refl _), fun h => seen_ne2 (H.cl (seen_ne h (by decide))), fun h => H.f0 (seen_ne h (by decide)), fun h => H.f1 (seen_ne h (by decide)), fun h => (H.f2 (seen_ne h (by decide))).next hB, fun h => H.f3 (seen_ne h (by decide)), fun h => H.f4 (seen_ne h (by decide)), fun h => (H.f5 (seen_ne h (by decide))).next hB, fun h => (H.f6 (seen_ne h (by decide))).next hB, fun h => H.f7 (seen_ne h (by decide)), fun h => H.f8 (seen_ne h (by decide)), fun h => (H.f9 (seen_ne h (by decide))).next hB, fun _ => rfl, fun h => H.f11 (seen_ne h (by decide)), fun h => H.f12 (seen_ne h (by decide)), fun h => H.f13 (seen_ne h (by decide)), fun h => by rw [getD_set_ne false (by decide)]; exact abox_next (H.f14 (seen_ne h (by decide))) hB, fun h => H.f16 (seen_ne h (by decide))⟩⟩
        · rintro seen a wr ⟨x57, x58, x59, x60, x61, x62, x63, x64, x65, x66, x67, x56, x68, x69, x17, x18, rfl, H⟩ hr
          have e10 := H.f10 (ready_dep hr (by kernel_rfl))
          subst e10
          clear hr
          have HH := Lib.hid H
          clear H
          refine wpOp_step rfl (fun K hK => ?_)
          go_simp
          refine hK _ _ ?_
          clear hK K
          have H := HH.out
          exact ⟨_, _, _, _, _, _, _, _, _, _, _, _, _, _, _, _, rfl, ⟨H.T, fun h => seen_ne2 (H.cl (seen_ne h (by decide))), fun h => H.f0 (seen_ne h (by decide)), fun h => H.f1 (seen_ne h (by decide)), fun h => H.f2 (seen_ne h (by decide)), fun h => H.f3 (seen_ne h (by decide)), fun h => H.f4 (seen_ne h (by decide)), fun h => H.f5 (seen_ne h (by decide)), fun h => H.f6 (seen_ne h (by decide)), fun h => H.f7 (seen_ne h (by decide)), fun h => H.f8 (seen_ne h (by decide)), fun h => H.f9 (seen_ne h (by decide)), fun h => H.f10 (seen_ne h (by decide)), fun _ => rfl, fun h => H.f12 (seen_ne h (by decide)), fun h => H.f13 (seen_ne h (by decide)), fun h => by rw [getD_set_ne false (by decide)]; exact H.f14 (seen_ne h (by decide)), fun h => H.f16 (seen_ne h (by decide))⟩⟩
        · rintro seen a wr ⟨x57, x58, x59, x60, x61, x62, x63, x64, x65, x66, x67, x56, x68, x69, x17, x18, rfl, H⟩ hr
          have e11 := H.f11 (ready_dep hr (by kernel_rfl))
          subst e11
          clear hr
          have HH := Lib.hid H
          clear H
          refine wpOp_step rfl (fun K hK => ?_)
          go_simp
          refine hK _ _ ?_
          clear hK K
          have H := HH.out
          exact ⟨_, _, _, _, _, _, _, _, _, _, _, _, _, _, _, _, rfl, ⟨H.T, fun h => seen_ne2 (H.cl (seen_ne h (by decide))), fun h => H.f0 (seen_ne h (by decide)), fun h => H.f1 (seen_ne h (by decide)), fun h => H.f2 (seen_ne h (by decide)), fun h => H.f3 (seen_ne h (by decide)), fun h => H.f4 (seen_ne h (by decide)), fun h => H.f5 (seen_ne h (by decide)), fun h => H.f6 (seen_ne h (by decide)), fun h => H.f7 (seen_ne h (by decide)), fun h => H.f8 (seen_ne h (by decide)), fun h => H.f9 (seen_ne h (by decide)), fun h => H.f10 (seen_ne h (by decide)), fun h => H.f11 (seen_ne h (by decide)), fun _ => rfl, fun h => H.f13 (seen_ne h (by decide)), fun h => by rw [getD_set_ne false (by decide)]; exact H.f14 (seen_ne h (by decide)), fun h => H.f16 (seen_ne h (by decide))⟩⟩
        · rintro seen a wr ⟨x57, x58, x59, x60, x61, x62, x63, x64, x65, x66, x67, x56, x68, x69, x17, x18, rfl, H⟩ hr
          have e11 := H.f11 (ready_dep hr (by kernel_rfl))
          subst e11
          clear hr
          have HH := Lib.hid H
          clear H
          refine wpOp_step rfl (fun K hK => ?_)
          go_simp
          refine hK _ _ ?_
          clear hK K
          have H := HH.out
          exact ⟨_, _, _, _, _, _, _, _, _, _, _, _, _, _, _, _, rfl, ⟨H.T, fun h => seen_ne2 (H.cl (seen_ne h (by decide))), fun h => H.f0 (seen_ne h (by decide)), fun h => H.f1 (seen_ne h (by decide)), fun h => H.f2 (seen_ne h (by decide)), fun h => H.f3 (seen_ne h (by decide)), fun h => H.f4 (seen_ne h (by decide)), fun h => H.f5 (seen_ne h (by decide)), fun h => H.f6 (seen_ne h (by decide)), fun h => H.f7 (seen_ne h (by decide)), fun h => H.f8 (seen_ne h (by decide)), fun h => H.f9 (seen_ne h (by decide)), fun h => H.f10 (seen_ne h (by decide)), fun h => H.f11 (seen_ne h (by decide)), fun h => H.f12 (seen_ne h (by decide)), fun _ => rfl, fun h => by rw [getD_set_ne false (by decide)]; exact H.f14 (seen_ne h (by decide)), fun h => H.f16 (seen_ne h (by decide))⟩⟩
        · rintro seen a wr ⟨x57, x58, x59, x60, x61, x62, x63, x64, x65, x66, x67, x56, x68, x69, x17, x18, rfl, H⟩ hr
          have hun := (mem_ready.1 hr).1
          clear hr
          have HH := Lib.hid H
          clear H
          refine wpOp_step rfl (fun K hK => ?_)
          go_simp
          refine hK _ _ ?_
          clear hK K
          have H := HH.out
          have hB := (Below.refl wr.heap.size wr).alloc (Nat.le_refl _) (.cells #[.int .i64 0, .int .i64 0] 41)
          have h15 : seen.getD 15 false = false := by
            cases h : seen.getD 15 false with
            | false => rfl
            | true => have := H.cl h; rw [getD_both hun] at this; cases this
          have hnew : ABox w4.heap.size (.pointer (some ⟨wr.heap.size, 0, none⟩)) ((seen.setIfInBounds 14 true).getD 15 false) n2 d2 (wr.alloc (.cells #[.int .i64 0, .int .i64 0] 41)) := by
            rw [getD_set_ne false (by decide), h15]
            exact ⟨_, rfl, made_next H.T.size (Below.refl _ _)⟩
          exact ⟨_, _, _, _, _, _, _, _, _, _, _, _, _, _, _, _, rfl, ⟨below_mono H.T hB (Nat.le_refl _), fun h => seen_self hun, fun h => H.f0 (seen_ne h (by decide)), fun h => H.f1 (seen_ne h (by decide)), fun h => (H.f2 (seen_ne h (by decide))).next hB, fun h => H.f3 (seen_ne h (by decide)), fun h => H.f4 (seen_ne h (by decide)), fun h => (H.f5 (seen_ne h (by decide))).next hB, fun h => (H.f6 (seen_ne h (by decide))).next hB, fun h => H.f7 (seen_ne h (by decide)), fun h => H.f8 (seen_ne h (by decide)), fun h => (H.f9 (seen_ne h (by decide))).next hB, fun h => H.f10 (seen_ne h (by decide)), fun h => H.f11 (seen_ne h (by decide)), fun h => H.f12 (seen_ne h (by decide)), fun h => H.f13 (seen_ne h (by decide)), fun _ => hnew, fun h => H.f16 (seen_ne h (by decide))⟩⟩
        · rintro seen a wr ⟨x57, x58, x59, x60, x61, x62, x63, x64, x65, x66, x67, x56, x68, x69, x17, x18, rfl, H⟩ hr
          have hun := (mem_ready.1 hr).1
          have hcl := H.f14 (ready_dep hr (by kernel_rfl))
          rw [getD_both hun] at hcl
          obtain ⟨kk, rfl, KB⟩ := hcl
          have hal := ready_dep hr (j := 14) (by kernel_rfl)
          have e12 := H.f12 (ready_dep hr (by kernel_rfl))
          subst e12
          clear hr
          have k0 := KB.cel 0
          have k1 := KB.cel 1
          have f0 := KB.fro 0
          have f1 := KB.fro 1
          simp at k0 k1
          have KB := Lib.hid KB
          have HH := Lib.hid H
          clear H
          refine wpOp_step rfl (fun K hK => ?_)
          go_simp
          refine hK _ _ ?_
          clear hK K
          have H := HH.out
          have far := KB.out.far
          exact ⟨_, _, _, _, _, _, _, _, _, _, _, _, _, _, _, _, rfl, ⟨(H.T.setCell (p := ⟨kk, 0, none⟩) far _).setCell (p := ⟨kk, 1, none⟩) far _, fun _ => seen_ne2 hal, fun h => H.f0 (seen_ne h (by decide)), fun h => H.f1 (seen_ne h (by decide)), fun h => (H.f2 (seen_ne h (by decide))).putI KB.out, fun h => H.f3 (seen_ne h (by decide)), fun h => H.f4 (seen_ne h (by decide)), fun h => (H.f5 (seen_ne h (by decide))).putI KB.out, fun h => (H.f6 (seen_ne h (by decide))).putI KB.out, fun h => H.f7 (seen_ne h (by decide)), fun h => H.f8 (seen_ne h (by decide)), fun h => (H.f9 (seen_ne h (by decide))).putI KB.out, fun h => H.f10 (seen_ne h (by decide)), fun h => H.f11 (seen_ne h (by decide)), fun h => H.f12 (seen_ne h (by decide)), fun h => H.f13 (seen_ne h (by decide)), fun h => by rw [seen_self hun]; exact ⟨_, rfl, KB.out.write _ _⟩, fun h => H.f16 (seen_ne h (by decide))⟩⟩
        · rintro seen a wr ⟨x57, x58, x59, x60, x61, x62, x63, x64, x65, x66, x67, x56, x68, x69, x17, x18, rfl, H⟩ hr
          have e13 := H.f13 (ready_dep hr (by kernel_rfl))
          subst e13
          clear hr
          have HH := Lib.hid H
          clear H
          refine wpOp_step rfl (fun K hK => ?_)
          go_simp
          refine hK _ _ ?_
          clear hK K
          have H := HH.out
          exact ⟨_, _, _, _, _, _, _, _, _, _, _, _, _, _, _, _, rfl, ⟨H.T, fun h => seen_ne2 (H.cl (seen_ne h (by decide))), fun h => H.f0 (seen_ne h (by decide)), fun h => H.f1 (seen_ne h (by decide)), fun h => H.f2 (seen_ne h (by decide)), fun h => H.f3 (seen_ne h (by decide)), fun h => H.f4 (seen_ne h (by decide)), fun h => H.f5 (seen_ne h (by decide)), fun h => H.f6 (seen_ne h (by decide)), fun h => H.f7 (seen_ne h (by decide)), fun h => H.f8 (seen_ne h (by decide)), fun h => H.f9 (seen_ne h (by decide)), fun h => H.f10 (seen_ne h (by decide)), fun h => H.f11 (seen_ne h (by decide)), fun h => H.f12 (seen_ne h (by decide)), fun h => H.f13 (seen_ne h (by decide)), fun h => by rw [getD_set_ne false (by decide)]; exact H.f14 (seen_ne h (by decide)), fun _ => rfl⟩⟩
      · rintro a wr ⟨x57, x58, x59, x60, x61, x62, x63, x64, x65, x66, x67, x56, x68, x69, x17, x18, rfl, H⟩
        obtain ⟨kb, rfl, KB⟩ := H.f14 rfl
        have e1 := H.f16 rfl
        subst e1
        have HT := Lib.hid H.T
        have KB := Lib.hid KB
        clear H
        go_wp2_with fail
        go_meet
        exact ⟨kb, rfl, rfl, Lib.hid (T.out.got HT.out KB.out)⟩
    case rest =>
      obtain ⟨r5, rfl, rfl, HM⟩ := hcut
      clear T V
      have T := HM
      clear HM M1 M2 M5 G2
      go_upto_region 7 with fail
      obtain ⟨wc5, hw5⟩ : ∃ x, x = wc := ⟨_, rfl⟩
      rw [← hw5] at T
      simp only [← hw5]
      clear hw5
      obtain ⟨ga, gb, gc, gd, ma, mb, mc, md, hV⟩ := T.out.op4
      have V := Lib.hid hV
      clear hV
      go_cut [19, 20] (fun s t wx => ∃ r, s = .pointer (some ⟨r, 0, none⟩) ∧ t = .bool o3 ∧ Hid (Mem w p c q e k1 k2 k3 k4 ((n3, d3, r) :: [(n2, d2, r5), (n1, d1, r4), (n3, d3, r3), (n2, d2, r2), (n1, d1, r1)]) wx))
      case first =>
        refine wp_region_rely_all (fun seen a wr => ∃ x71 x72 x73 x74 x75 x76 x77 x70 x78 x79 x19 x20, a = ⟨#[.agg #[.int .i64 p, .int .i64 c], .agg #[.int .i64 q, .int .i64 e], .pointer (some ⟨w.heap.size, 0, none⟩), .pointer (some ⟨w.heap.size + 1, 0, none⟩), .bool false, .pointer (some ⟨k1, 0, none⟩), .pointer (some ⟨k2, 0, none⟩), .pointer (some ⟨k3, 0, none⟩), .pointer (some ⟨k4, 0, none⟩), .pointer (some ⟨r1, 0, none⟩), .bool o1, .pointer (some ⟨r2, 0, none⟩), .bool o2, .pointer (some ⟨r3, 0, none⟩), .bool o3, .pointer (some ⟨r4, 0, none⟩), .bool o1, .pointer (some ⟨r5, 0, none⟩), .bool o2, x19, x20, u21, u22, u23, u24, u25, u26, u27, u28, u29, u30, u31, u32, u33, u34, u35, u36, u37, u38, u39, u40, u41, u42, u43, u44, u45, u46, u47, u48, u49, u50, u51, u52, u53, u54, u55, u56, u57, u58, u59, u60, u61, u62, u63, u64, u65, u66, u67, u68, u69, x70, x71, x72, x73, x74, x75, x76, x77, x78, x79, u80, u81, u82, u83, u84, u85, u86, u87, u88, u89, u90, u91, u92, u93, u94, u95, u96, u97, u98, u99, u100, u101, u102, u103, u104, u105, u106, u107, u108, u109, u110, u111, u112, u113, u114], []⟩ ∧ R7 wc5 pq ce n3 d3 o3 ga gb gc gd ma mb mc md seen x71 x72 x73 x74 x75 x76 x77 x70 x78 x79 x19 x20 wr) (by kernel_rfl) (by kernel_rfl) ?_ ?_ ?_
        · refine ⟨_, _, _, _, _, _, _, _, _, _, _, _, rfl, (Below.refl _ _).drew, ?_, ?_, ?_, ?_, ?_, ?_, ?_, ?_, ?_, ?_, ?_, ?_, ?_⟩ <;> (intro h; simp at h)
        · intro i hi
          have hi' : i < 13 := hi
          clear hi
          obtain rfl | rfl | rfl | rfl | rfl | rfl | rfl | rfl | rfl | rfl | rfl | rfl | rfl : i = 0 ∨ i = 1 ∨ i = 2 ∨ i = 3 ∨ i = 4 ∨ i = 5 ∨ i = 6 ∨ i = 7 ∨ i = 8 ∨ i = 9 ∨ i = 10 ∨ i = 11 ∨ i = 12 := by omega
          all_goals clear hi'
          · rintro seen a wr ⟨x71, x72, x73, x74, x75, x76, x77, x70, x78, x79, x19, x20, rfl, H⟩ hr
            clear hr
            have y0 := (V.out.next H.T).c10
            have y1 := (V.out.next H.T).c11
            have HH := Lib.hid H
            clear H
            refine wpOp_step rfl (fun K hK => ?_)
            go_simp
            refine hK _ _ ?_
            clear hK K
            have H := HH.out
            exact ⟨_, _, _, _, _, _, _, _, _, _, _, _, rfl, ⟨H.T, fun h => seen_ne2 (H.cl (seen_ne h (by decide))), fun _ => rfl, fun h => H.f1 (seen_ne h (by decide)), fun h => H.f2 (seen_ne h (by decide)), fun h => H.f3 (seen_ne h (by decide)), fun h => H.f4 (seen_ne h (by decide)), fun h => H.f5 (seen_ne h (by decide)), fun h => H.f6 (seen_ne h (by decide)), fun h => H.f7 (seen_ne h (by decide)), fun h => H.f8 (seen_ne h (by decide)), fun h => H.f9 (seen_ne h (by decide)), fun h => by rw [getD_set_ne false (by decide)]; exact H.f10 (seen_ne h (by decide)), fun h => H.f12 (seen_ne h (by decide))⟩⟩
          · rintro seen a wr ⟨x71, x72, x73, x74, x75, x76, x77, x70, x78, x79, x19, x20, rfl, H⟩ hr
            clear hr
            have y0 := (V.out.next H.T).c30
            have y1 := (V.out.next H.T).c31
            have HH := Lib.hid H
            clear H
            refine wpOp_step rfl (fun K hK => ?_)
            go_simp
            refine hK _ _ ?_
            clear hK K
            have H := HH.out
            exact ⟨_, _, _, _, _, _, _, _, _, _, _, _, rfl, ⟨H.T, fun h => seen_ne2 (H.cl (seen_ne h (by decide))), fun h => H.f0 (seen_ne h (by decide)), fun _ => rfl, fun h => H.f2 (seen_ne h (by decide)), fun h => H.f3 (seen_ne h (by decide)), fun h => H.f4 (seen_ne h (by decide)), fun h => H.f5 (seen_ne h (by decide)), fun h => H.f6 (seen_ne h (by decide)), fun h => H.f7 (seen_ne h (by decide)), fun h => H.f8 (seen_ne h (by decide)), fun h => H.f9 (seen_ne h (by decide)), fun h => by rw [getD_set_ne false (by decide)]; exact H.f10 (seen_ne h (by decide)), fun h => H.f12 (seen_ne h (by decide))⟩⟩
          · rintro seen a wr ⟨x71, x72, x73, x74, x75, x76, x77, x70, x78, x79, x19, x20, rfl, H⟩ hr
            have e0 := H.f0 (ready_dep hr (by kernel_rfl))
            subst e0
            have e1 := H.f1 (ready_dep hr (by kernel_rfl))
            subst e1
            clear hr
            have HH := Lib.hid H
            clear H
            refine wpOp_step rfl (fun K hK => ?_)
            go_simp
            with_reducible refine (M4.out _ _ _ (V.out.next HH.out.T).b1 (V.out.next HH.out.T).b3).mono ?_
            rintro en W1 ⟨u, rfl, hnew, hB⟩
            go_simp
            refine hK _ _ ?_
            clear hK K
            have H := HH.out
            exact ⟨_, _, _, _, _, _, _, _, _, _, _, _, rfl, ⟨below_mono H.T hB (Nat.le_refl _), fun h => seen_ne2 (H.cl (seen_ne h (by decide))), fun h => H.f0 (seen_ne h (by decide)), fun h => H.f1 (seen_ne h (by decide)), fun _ => hnew, fun h => H.f3 (seen_ne h (by decide)), fun h => H.f4 (seen_ne h (by decide)), fun h => (H.f5 (seen_ne h (by decide))).next hB, fun h => H.f6 (seen_ne h (by decide)), fun h => H.f7 (seen_ne h (by decide)), fun h => H.f8 (seen_ne h (by decide)), fun h => H.f9 (seen_ne h (by decide)), fun h => by rw [getD_set_ne false (by decide)]; exact abox_next (H.f10 (seen_ne h (by decide))) hB, fun h => H.f12 (seen_ne h (by decide))⟩⟩
          · rintro seen a wr ⟨x71, x72, x73, x74, x75, x76, x77, x70, x78, x79, x19, x20, rfl, H⟩ hr
            clear hr
            have y0 := (V.out.next H.T).c20
            have y1 := (V.out.next H.T).c21
            have HH := Lib.hid H
            clear H
            refine wpOp_step rfl (fun K hK => ?_)
            go_simp
            refine hK _ _ ?_
            clear hK K
            have H := HH.out
            exact ⟨_, _, _, _, _, _, _, _, _, _, _, _, rfl, ⟨H.T, fun h => seen_ne2 (H.cl (seen_ne h (by decide))), fun h => H.f0 (seen_ne h (by decide)), fun h => H.f1 (seen_ne h (by decide)), fun h => H.f2 (seen_ne h (by decide)), fun _ => rfl, fun h => H.f4 (seen_ne h (by decide)), fun h => H.f5 (seen_ne h (by decide)), fun h => H.f6 (seen_ne h (by decide)), fun h => H.f7 (seen_ne h (by decide)), fun h => H.f8 (seen_ne h (by decide)), fun h => H.f9 (seen_ne h (by decide)), fun h => by rw [getD_set_ne false (by decide)]; exact H.f10 (seen_ne h (by decide)), fun h => H.f12 (seen_ne h (by decide))⟩⟩
          · rintro seen a wr ⟨x71, x72, x73, x74, x75, x76, x77, x70, x78, x79, x19, x20, rfl, H⟩ hr
            clear hr
            have y0 := (V.out.next H.T).c40
            have y1 := (V.out.next H.T).c41
            have HH := Lib.hid H
            clear H
            refine wpOp_step rfl (fun K hK => ?_)
            go_simp
            refine hK _ _ ?_
            clear hK K
            have H := HH.out
            exact ⟨_, _, _, _, _, _, _, _, _, _, _, _, rfl, ⟨H.T, fun h => seen_ne2 (H.cl (seen_ne h (by decide))), fun h => H.f0 (seen_ne h (by decide)), fun h => H.f1 (seen_ne h (by decide)), fun h => H.f2 (seen_ne h (by decide)), fun h => H.f3 (seen_ne h (by decide)), fun _ => rfl, fun h => H.f5 (seen_ne h (by decide)), fun h => H.f6 (seen_ne h (by decide)), fun h => H.f7 (seen_ne h (by decide)), fun h => H.f8 (seen_ne h (by decide)), fun h => H.f9 (seen_ne h (by decide)), fun h => by rw [getD_set_ne false (by decide)]; exact H.f10 (seen_ne h (by decide)), fun h => H.f12 (seen_ne h (by decide))⟩⟩
          · rintro seen a wr ⟨x71, x72, x73, x74, x75, x76, x77, x70, x78, x79, x19, x20, rfl, H⟩ hr
            have e3 := H.f3 (ready_dep hr (by kernel_rfl))
            subst e3
            have e4 := H.f4 (ready_dep hr (by kernel_rfl))
            subst e4
            clear hr
            have HH := Lib.hid H
            clear H
            refine wpOp_step rfl (fun K hK => ?_)
            go_simp
            with_reducible refine (M3.out _ _ _ (V.out.next HH.out.T).b2 (V.out.next HH.out.T).b4).mono ?_
            rintro en W1 ⟨u, rfl, hnew, hB⟩
            go_simp
            refine hK _ _ ?_
            clear hK K
            have H := HH.out
            exact ⟨_, _, _, _, _, _, _, _, _, _, _, _, rfl, ⟨below_mono H.T hB (Nat.le_refl _), fun h => seen_ne2 (H.cl (seen_ne h (by decide))), fun h => H.f0 (seen_ne h (by decide)), fun h => H.f1 (seen_ne h (by decide)), fun h => (H.f2 (seen_ne h (by decide))).next hB, fun h => H.f3 (seen_ne h (by decide)), fun h => H.f4 (seen_ne h (by decide)), fun _ => hnew, fun h => H.f6 (seen_ne h (by decide)), fun h => H.f7 (seen_ne h (by decide)), fun h => H.f8 (seen_ne h (by decide)), fun h => H.f9 (seen_ne h (by decide)), fun h => by rw [getD_set_ne false (by decide)]; exact abox_next (H.f10 (seen_ne h (by decide))) hB, fun h => H.f12 (seen_ne h (by decide))⟩⟩
          · rintro seen a wr ⟨x71, x72, x73, x74, x75, x76, x77, x70, x78, x79, x19, x20, rfl, H⟩ hr
            have e2 := Lib.hid (H.f2 (ready_dep hr (by kernel_rfl)))
            have e5 := Lib.hid (H.f5 (ready_dep hr (by kernel_rfl)))
            clear hr
            have HH := Lib.hid H
            clear H
            refine wpOp_step rfl (fun K hK => ?_)
            go_simp
            with_reducible refine (G3.out _ _ _ e2.out e5.out).mono ?_
            rintro en W1 ⟨n, d, o, rfl, hA, hB⟩
            obtain ⟨rfl, rfl, rfl⟩ := A3.out.one hA
            clear hA
            go_simp
            refine hK _ _ ?_
            clear hK K
            have H := HH.out
            exact ⟨_, _, _, _, _, _, _, _, _, _, _, _, rfl, ⟨below_mono H.T hB (Nat.le_refl _), fun h => seen_ne2 (H.cl (seen_ne h (by decide))), fun h => H.f0 (seen_ne h (by decide)), fun h => H.f1 (seen_ne h (by decide)), fun h => (H.f2 (seen_ne h (by decide))).next hB, fun h => H.f3 (seen_ne h (by decide)), fun h => H.f4 (seen_ne h (by decide)), fun h => (H.f5 (seen_ne h (by decide))).next hB, fun _ => rfl, fun h => H.f7 (seen_ne h (by decide)), fun h => H.f8 (seen_ne h (by decide)), fun h => H.f9 (seen_ne h (by decide)), fun h => by rw [getD_set_ne false (by decide)]; exact abox_next (H.f10 (seen_ne h (by decide))) hB, fun h => H.f12 (seen_ne h (by decide))⟩⟩
          · rintro seen a wr ⟨x71, x72, x73, x74, x75, x76, x77, x70, x78, x79, x19, x20, rfl, H⟩ hr
            have e6 := H.f6 (ready_dep hr (by kernel_rfl))
            subst e6
            clear hr
            have HH := Lib.hid H
            clear H
            refine wpOp_step rfl (fun K hK => ?_)
            go_simp
            refine hK _ _ ?_
            clear hK K
            have H := HH.out
            exact ⟨_, _, _, _, _, _, _, _, _, _, _, _, rfl, ⟨H.T, fun h => seen_ne2 (H.cl (seen_ne h (by decide))), fun h => H.f0 (seen_ne h (by decide)), fun h => H.f1 (seen_ne h (by decide)), fun h => H.f2 (seen_ne h (by decide)), fun h => H.f3 (seen_ne h (by decide)), fun h => H.f4 (seen_ne h (by decide)), fun h => H.f5 (seen_ne h (by decide)), fun h => H.f6 (seen_ne h (by decide)), fun _ => rfl, fun h => H.f8 (seen_ne h (by decide)), fun h => H.f9 (seen_ne h (by decide)), fun h => by rw [getD_set_ne false (by decide)]; exact H.f10 (seen_ne h (by decide)), fun h => H.f12 (seen_ne h (by decide))⟩⟩
          · rintro seen a wr ⟨x71, x72, x73, x74, x75, x76, x77, x70, x78, x79, x19, x20, rfl, H⟩ hr
            have e7 := H.f7 (ready_dep hr (by kernel_rfl))
            subst e7
            clear hr
            have HH := Lib.hid H
            clear H
            refine wpOp_step rfl (fun K hK => ?_)
            go_simp
            refine hK _ _ ?_
            clear hK K
            have H := HH.out
            exact ⟨_, _, _, _, _, _, _, _, _, _, _, _, rfl, ⟨H.T, fun h => seen_ne2 (H.cl (seen_ne h (by decide))), fun h => H.f0 (seen_ne h (by decide)), fun h => H.f1 (seen_ne h (by decide)), fun h => H.f2 (seen_ne h (by decide)), fun h => H.f3 (seen_ne h (by decide)), fun h => H.f4 (seen_ne h (by decide)), fun h => H.f5 (seen_ne h (by decide)), fun h => H.f6 (seen_ne h (by decide)), fun h => H.f7 (seen_ne h (by decide)), fun _ => rfl, fun h => H.f9 (seen_ne h (by decide)), fun h => by rw [getD_set_ne false (by decide)]; exact H.f10 (seen_ne h (by decide)), fun h => H.f12 (seen_ne h (by decide))⟩⟩
          · rintro seen a wr ⟨x71, x72, x73, x74, x75, x76, x77, x70, x78, x79, x19, x20, rfl, H⟩ hr
            have e7 := H.f7 (ready_dep hr (by kernel_rfl))
            subst e7
            clear hr
            have HH := Lib.hid H
            clear H
            refine wpOp_step rfl (fun K hK => ?_)
            go_simp
            refine hK _ _ ?_
            clear hK K
            have H := HH.out
            exact ⟨_, _, _, _, _, _, _, _, _, _, _, _, rfl, ⟨H.T, fun h => seen_ne2 (H.cl (seen_ne h (by decide))), fun h => H.f0 (seen_ne h (by decide)), fun h => H.f1 (seen_ne h (by decide)), fun h => H.f2 (seen_ne h (by decide)), fun h => H.f3 (seen_ne h (by decide)), fun h => H.f4 (seen_ne h (by decide)), fun h => H.f5 (seen_ne h (by decide)), fun h => H.f6 (seen_ne h (by decide)), fun h => H.f7 (seen_ne h (by decide)), fun h => H.f8 (seen_ne h (by decide)), fun _ => rfl, fun h => by rw [getD_set_ne false (by decide)]; exact H.f10 (seen_ne h (by decide)), fun h => H.f12 (seen_ne h (by decide))⟩⟩
          · rintro seen a wr ⟨x71, x72, x73, x74, x75, x76, x77, x70, x78, x79, x19, x20, rfl, H⟩ hr
            have hun := (mem_ready.1 hr).1
            clear hr
            have HH := Lib.hid H
            clear H
            refine wpOp_step rfl (fun K hK => ?_)
            go_simp
            refine hK _ _ ?_
            clear hK K
            have H := HH.out
            have hB := (Below.refl wr.heap.size wr).alloc (Nat.le_refl _) (.cells #[.int .i64 0, .int .i64 0] 41)
            have h15 : seen.getD 11 false = false := by
              cases h : seen.getD 11 false with
              | false => rfl
              | true => have := H.cl h; rw [getD_both hun] at this; cases this
            have hnew : ABox wc5.heap.size (.pointer (some ⟨wr.heap.size, 0, none⟩)) ((seen.setIfInBounds 10 true).getD 11 false) n3 d3 (wr.alloc (.cells #[.int .i64 0, .int .i64 0] 41)) := by
              rw [getD_set_ne false (by decide), h15]
              exact ⟨_, rfl, made_next H.T.size (Below.refl _ _)⟩
            exact ⟨_, _, _, _, _, _, _, _, _, _, _, _, rfl, ⟨below_mono H.T hB (Nat.le_refl _), fun h => seen_self hun, fun h => H.f0 (seen_ne h (by decide)), fun h => H.f1 (seen_ne h (by decide)), fun h => (H.f2 (seen_ne h (by decide))).next hB, fun h => H.f3 (seen_ne h (by decide)), fun h => H.f4 (seen_ne h (by decide)), fun h => (H.f5 (seen_ne h (by decide))).next hB, fun h => H.f6 (seen_ne h (by decide)), fun h => H.f7 (seen_ne h (by decide)), fun h => H.f8 (seen_ne h (by decide)), fun h => H.f9 (seen_ne h (by decide)), fun _ => hnew, fun h => H.f12 (seen_ne h (by decide))⟩⟩
          · rintro seen a wr ⟨x71, x72, x73, x74, x75, x76, x77, x70, x78, x79, x19, x20, rfl, H⟩ hr
            have hun := (mem_ready.1 hr).1
            have hcl := H.f10 (ready_dep hr (by kernel_rfl))
            rw [getD_both hun] at hcl
            obtain ⟨kk, rfl, KB⟩ := hcl
            have hal := ready_dep hr (j := 10) (by kernel_rfl)
            have e8 := H.f8 (ready_dep hr (by kernel_rfl))
            subst e8
            clear hr
            have k0 := KB.cel 0
            have k1 := KB.cel 1
            have f0 := KB.fro 0
            have f1 := KB.fro 1
            simp at k0 k1
            have KB := Lib.hid KB
            have HH := Lib.hid H
            clear H
            refine wpOp_step rfl (fun K hK => ?_)
            go_simp
            refine hK _ _ ?_
            clear hK K
            have H := HH.out
            have far := KB.out.far
            exact ⟨_, _, _, _, _, _, _, _, _, _, _, _, rfl, ⟨(H.T.setCell (p := ⟨kk, 0, none⟩) far _).setCell (p := ⟨kk, 1, none⟩) far _, fun _ => seen_ne2 hal, fun h => H.f0 (seen_ne h (by decide)), fun h => H.f1 (seen_ne h (by decide)), fun h => (H.f2 (seen_ne h (by decide))).putI KB.out, fun h => H.f3 (seen_ne h (by decide)), fun h => H.f4 (seen_ne h (by decide)), fun h => (H.f5 (seen_ne h (by decide))).putI KB.out, fun h => H.f6 (seen_ne h (by decide)), fun h => H.f7 (seen_ne h (by decide)), fun h => H.f8 (seen_ne h (by decide)), fun h => H.f9 (seen_ne h (by decide)), fun h => by rw [seen_self hun]; exact ⟨_, rfl, KB.out.write _ _⟩, fun h => H.f12 (seen_ne h (by decide))⟩⟩
          · rintro seen a wr ⟨x71, x72, x73, x74, x75, x76, x77, x70, x78, x79, x19, x20, rfl, H⟩ hr
            have e9 := H.f9 (ready_dep hr (by kernel_rfl))
            subst e9
            clear hr
            have HH := Lib.hid H
            clear H
            refine wpOp_step rfl (fun K hK => ?_)
            go_simp
            refine hK _ _ ?_
            clear hK K
            have H := HH.out
            exact ⟨_, _, _, _, _, _, _, _, _, _, _, _, rfl, ⟨H.T, fun h => seen_ne2 (H.cl (seen_ne h (by decide))), fun h => H.f0 (seen_ne h (by decide)), fun h => H.f1 (seen_ne h (by decide)), fun h => H.f2 (seen_ne h (by decide)), fun h => H.f3 (seen_ne h (by decide)), fun h => H.f4 (seen_ne h (by decide)), fun h => H.f5 (seen_ne h (by decide)), fun h => H.f6 (seen_ne h (by decide)), fun h => H.f7 (seen_ne h (by decide)), fun h => H.f8 (seen_ne h (by decide)), fun h => H.f9 (seen_ne h (by decide)), fun h => by rw [getD_set_ne false (by decide)]; exact H.f10 (seen_ne h (by decide)), fun _ => rfl⟩⟩
        · rintro a wr ⟨x71, x72, x73, x74, x75, x76, x77, x70, x78, x79, x19, x20, rfl, H⟩
          obtain ⟨kb, rfl, KB⟩ := H.f10 rfl
          have e1 := H.f12 rfl
          subst e1
          have HT := Lib.hid H.T
          have KB := Lib.hid KB
          clear H
          go_wp2_with fail
          go_meet
          exact ⟨kb, rfl, rfl, Lib.hid (T.out.got HT.out KB.out)⟩
      case rest =>
        obtain ⟨r6, rfl, rfl, HM⟩ := hcut
        clear T V
        have T := HM
        clear HM
        go_upto_region 8 with fail
        obtain ⟨wd, hwd⟩ : ∃ x, x = wc := ⟨_, rfl⟩
        rw [← hwd] at T
        simp only [← hwd]
        clear hwd
        obtain ⟨z0, z1, _⟩ := T.out.R (n1, d1, r1) (by simp)
        have yr10 := cell_regrown z0
        have yr11 := cell_regrown z1
        clear z0 z1
        obtain ⟨z0, z1, _⟩ := T.out.R (n1, d1, r4) (by simp)
        have yr40 := cell_regrown z0
        have yr41 := cell_regrown z1
        clear z0 z1
        obtain ⟨z0, z1, _⟩ := T.out.R (n2, d2, r2) (by simp)
        have yr20 := cell_regrown z0
        have yr21 := cell_regrown z1
        clear z0 z1
        obtain ⟨z0, z1, _⟩ := T.out.R (n2, d2, r5) (by simp)
        have yr50 := cell_regrown z0
        have yr51 := cell_regrown z1
        clear z0 z1
        obtain ⟨z0, z1, _⟩ := T.out.R (n3, d3, r3) (by simp)
        have yr30 := cell_regrown z0
        have yr31 := cell_regrown z1
        clear z0 z1
        obtain ⟨z0, z1, _⟩ := T.out.R (n3, d3, r6) (by simp)
        have yr60 := cell_regrown z0
        have yr61 := cell_regrown z1
        clear z0 z1
        have ya0 := cell_regrown T.out.F.T.a0
        have yb0 := cell_regrown T.out.F.T.b0
        obtain ⟨gg, hgg⟩ : ∃ x, x = gcdI p q := ⟨_, rfl⟩
        have C1 : Hid (∀ d os, Calls Tryd.prog 31 #[.agg #[.int .i64 n1, .int .i64 d1], .bool o1, .agg #[.int .i64 n1, .int .i64 d1], .bool o1] (grow (redrawn wd d) os) fun e w'' => e = .returned (.bool true) ∧ ∃ p : Regrown, w'' = grow (redrawn wd p.d) p.os) := Lib.hid (fun d os => Calls.regrown_of (same_any _ _ _ _))
        have C2 : Hid (∀ d os, Calls Tryd.prog 31 #[.agg #[.int .i64 n2, .int .i64 d2], .bool o2, .agg #[.int .i64 n2, .int .i64 d2], .bool o2] (grow (redrawn wd d) os) fun e w'' => e = .returned (.bool true) ∧ ∃ p : Regrown, w'' = grow (redrawn wd p.d) p.os) := Lib.hid (fun d os => Calls.regrown_of (same_any _ _ _ _))
        have C3 : Hid (∀ d os, Calls Tryd.prog 31 #[.agg #[.int .i64 n3, .int .i64 d3], .bool o3, .agg #[.int .i64 n3, .int .i64 d3], .bool o3] (grow (redrawn wd d) os) fun e w'' => e = .returned (.bool true) ∧ ∃ p : Regrown, w'' = grow (redrawn wd p.d) p.os) := Lib.hid (fun d os => Calls.regrown_of (same_any _ _ _ _))
        have C4 : Hid (∀ d os, Calls Tryd.prog 32 #[.int .i64 p, .int .i64 q] (grow (redrawn wd d) os) fun e w'' => e = .returned (.int .i64 gg) ∧ ∃ p : Regrown, w'' = grow (redrawn wd p.d) p.os) := Lib.hid (fun d os => Calls.regrown_of (by rw [hgg]; exact F4.out _))
        have C5 : Hid (∀ d os, Calls Tryd.prog 33 #[.int .i64 p, .int .i64 q] (grow (redrawn wd d) os) fun e w'' => e = .returned (.int .i64 gg) ∧ ∃ p : Regrown, w'' = grow (redrawn wd p.d) p.os) := Lib.hid (fun d os => Calls.regrown_of (by rw [hgg]; exact F5.out _))
        have C6 : Hid (∀ d os, Calls Tryd.prog 22 #[] (grow (redrawn wd d) os) fun e w'' => e = .returned (.bool true) ∧ ∃ p : Regrown, w'' = grow (redrawn wd p.d) p.os) := Lib.hid (fun d os => Calls.regrown_of (awake_any _))
        have tg : (gg == gg) = true := by simp
        have HB := Lib.hid T.out.F.T.bel
        clear hgg T F4 F5
        refine wp_region_quiet_below (by kernel_rfl) (by kernel_rfl) ?_
        repeat (quiet_step (first | (with_reducible exact C1.out _ _) | (with_reducible exact C2.out _ _) | (with_reducible exact C3.out _ _) | (with_reducible exact C4.out _ _) | (with_reducible exact C5.out _ _) | (with_reducible exact C6.out _ _)))
        refine wpQuiet_nil ?_
        intro _ hw'
        obtain ⟨⟨dq, osq⟩, hw''⟩ := hw'
        subst hw''
        go_wp2_with fail
        go_ret
        exact ⟨rfl, below_mono HB.out (below_regrown wd dq osq) (Nat.le_refl _)⟩
theorem numRatios_walk (p c q e : Int) (hp : (Lit.int .i64 p).wf = true) (hc : (Lit.int .i64 c).wf = true) (hq : (Lit.int .i64 q).wf = true) (he : (Lit.int .i64 e).wf = true) (w : World) :
    Calls Tryd.prog 6 #[.agg #[.int .i64 p, .int .i64 c], .agg #[.int .i64 q, .int .i64 e]] w fun en w' => en = .returned (.bool true) ∧ Below w.heap.size w w' :=
  numRatios_go p c q e (bounds_i64 hp).1 (bounds_i64 hp).2 (bounds_i64 hc).1 (bounds_i64 hc).2 (bounds_i64 hq).1 (bounds_i64 hq).2 (bounds_i64 he).1 (bounds_i64 he).2 w
end Go.Proofs.YtknahehmkjaelaaDoor
