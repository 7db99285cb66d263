/- What the Go function Print of package date answers: four digits of the year, two of the month, two of the day. Conditions: those written at each theorem. -/
import Derived.Test.YtknahehmkjaelabDateA
import Derived.Test.YtknahehmkjaelabBld
import Derived.Test.YtknahehmkjaelabShelf
import Derived.WalkLawsBesides
import Derived.WalkSpells
namespace Go.Proofs.Ytknahehmkjaelab
open Go.RowKit
set_option linter.unusedSimpArgs false

def dgt (n : Int) : UInt8 := UInt8.ofNat (48 + n % 10).toNat
def digs (n : Int) : Nat → List UInt8
  | 0 => []
  | j + 1 => dgt (n / 10 ^ j) :: digs n j
def tenp : Nat → Int
  | 0 => 0
  | j + 1 => 10 ^ j
theorem dgt_val (n : Int) : ((dgt n).toNat : Int) = 48 + n % 10 := by
  unfold dgt
  rw [UInt8.toNat_ofNat']
  omega
theorem digs_length (n : Int) (k : Nat) : (digs n k).length = k := by
  induction k with
  | zero => rfl
  | succ k ih => simp [digs, ih]

def PutRel (B b : Nat) (n : Int) (l : List UInt8) (K j : Nat) (W w : World) : Prop :=
  ∃ r : List UInt8, r ++ digs n j = l ++ digs n K ∧ Lib.IsBuilder 69 5 B b (Lib.byteCells r) w ∧ Below B W w

theorem PutRel.step {B b : Nat} {n : Int} {l : List UInt8} {K j : Nat} {W w w1 : World} {r : List UInt8} (hr : r ++ digs n (j + 1) = l ++ digs n K) (hb : Below B W w)
    (h : Lib.BuilderAt 69 5 B b (.pointer (some ⟨b, 0, none⟩)) (Lib.byteCells r ++ [.int .u8 (48 + n / 10 ^ j % 10)]) w1) (hw : Below B w w1) : PutRel B b n l K j W w1 := by
  refine ⟨r ++ [dgt (n / 10 ^ j)], by rw [← hr]; simp [digs], ?_, hb.trans hw⟩
  have e : Lib.byteCells (r ++ [dgt (n / 10 ^ j)]) = Lib.byteCells r ++ [.int .u8 (48 + n / 10 ^ j % 10)] := by
    simp only [Lib.byteCells, List.map_append, List.map_cons, List.map_nil, dgt_val]
  rw [e]
  exact .inr h
theorem PutRel.len {n : Int} {l : List UInt8} {K j : Nat} {r : List UInt8} (hr : r ++ digs n j = l ++ digs n K) (hl : l.length ≤ 1000) (hK : K ≤ 4) : (Lib.byteCells r).length + 1 ≤ 140737488355328 := by
  have := congrArg List.length hr
  simp only [List.length_append, digs_length] at this
  rw [Lib.byteCells_length]
  omega

set_option maxHeartbeats 800000 in
theorem put_any (n : Int) (h0 : 0 ≤ n) (h1 : n ≤ 9999) (K : Nat) (hK : K ≤ 4) (B b : Nat) (l : List UInt8) (hl : l.length ≤ 1000) (w : World) (hb : Lib.IsBuilder 69 5 B b (Lib.byteCells l) w) (hB : B ≤ w.heap.size) :
    Calls Try.prog 45 #[.int .i64 n, .int .i64 (tenp K), .pointer (some ⟨b, 0, none⟩)] w fun e w' => e = .returned (.tuple #[]) ∧ Lib.IsBuilder 69 5 B b (Lib.byteCells (l ++ digs n K)) w' ∧ Below B w w' := by
  have hst : PutRel B b n l K K w w := ⟨l, rfl, hb, Below.refl _ _⟩
  clear hb
  obtain ⟨W, rfl⟩ : ∃ W : World, W = w := ⟨_, rfl⟩
  go_enter Try.func45, Try.ntmps45
  go_wp2_with fail
  go_loopw [1] (fun k wr => ∃ j : Nat, j ≤ K ∧ k = .int .i64 (tenp j) ∧ PutRel B b n l K j W wr) (fun k _ => (intOf k).toNat)
  case atStart => exact ⟨K, by omega, rfl, hst⟩
  case round =>
    obtain ⟨j, hj, rfl, hrel⟩ := hrel
    clear hst
    obtain ⟨r, hr, hbr, hbw⟩ := hrel
    have HR := Lib.hid hr
    have HBR := Lib.hid hbr
    have hlen := PutRel.len hr hl hK
    have HLEN := Lib.hid hlen
    have hsz := hbw.size
    clear hr hbr hlen
    obtain rfl | rfl | rfl | rfl | rfl : j = 0 ∨ j = 1 ∨ j = 2 ∨ j = 3 ∨ j = 4 := by omega
    · simp only [tenp]
      go_wp2_with fail
      go_end0
      have hr := HR.out
      simp only [digs, List.append_nil] at hr
      subst hr
      exact ⟨rfl, HBR.out, hbw⟩
    · simp only [tenp, Int.reducePow, Int.pow_zero]
      go_wp2_with (go_at_call 46; refine (writeByte_any B b _ _ _ HBR.out HLEN.out (by omega)).mono ?_; rintro e w1 ⟨rfl, hq1, hq2⟩)
      have hp := PutRel.step (W := W) HR.out hbw (by simpa using hq1) hq2
      go_roundw
      case rel => exact ⟨0, by omega, by simp [tenp], hp⟩
      case measure => simp [intOf]
    · simp only [tenp, Int.reducePow, Int.pow_zero]
      go_wp2_with (go_at_call 46; refine (writeByte_any B b _ _ _ HBR.out HLEN.out (by omega)).mono ?_; rintro e w1 ⟨rfl, hq1, hq2⟩)
      have hp := PutRel.step (W := W) HR.out hbw (by simpa using hq1) hq2
      go_roundw
      case rel => exact ⟨1, by omega, by simp [tenp], hp⟩
      case measure => simp [intOf]
    · simp only [tenp, Int.reducePow, Int.pow_zero]
      go_wp2_with (go_at_call 46; refine (writeByte_any B b _ _ _ HBR.out HLEN.out (by omega)).mono ?_; rintro e w1 ⟨rfl, hq1, hq2⟩)
      have hp := PutRel.step (W := W) HR.out hbw (by simpa using hq1) hq2
      go_roundw
      case rel => exact ⟨2, by omega, by simp [tenp], hp⟩
      case measure => simp [intOf]
    · simp only [tenp, Int.reducePow, Int.pow_zero]
      go_wp2_with (go_at_call 46; refine (writeByte_any B b _ _ _ HBR.out HLEN.out (by omega)).mono ?_; rintro e w1 ⟨rfl, hq1, hq2⟩)
      have hp := PutRel.step (W := W) HR.out hbw (by simpa using hq1) hq2
      go_roundw
      case rel => exact ⟨3, by omega, by simp [tenp], hp⟩
      case measure => simp [intOf]

/-- The text of a day. -/
def dayText (y m d : Int) : List UInt8 := digs y 4 ++ [45] ++ digs m 2 ++ [45] ++ digs d 2

theorem print_no (n : Int) (h : n < 0 ∨ 2932896 < n) (w : World) :
    Calls Try.prog 26 #[.int .i64 n] w fun e w' => e = .returned (.string ⟨#[]⟩) ∧ w = w' := by
  go_enter Try.func26, Try.ntmps26
  go_wp2_with (go_at_call 23; refine (civil_no n h _).mono ?_; rintro e w' ⟨rfl, rfl⟩)
  go_ret
  exact ⟨rfl, rfl⟩

theorem isB_snoc {T e : TypeId} {B b : Nat} {l : List UInt8} {w : World} (h : Lib.BuilderAt T e B b (.pointer (some ⟨b, 0, none⟩)) (Lib.byteCells l ++ [.int .u8 45]) w) : Lib.IsBuilder T e B b (Lib.byteCells (l ++ [45])) w := by
  have e' : Lib.byteCells (l ++ [45]) = Lib.byteCells l ++ [.int .u8 45] := by simp [Lib.byteCells]
  rw [e']
  exact .inr h

theorem fresh_builder (w : World) : Lib.IsBuilder 69 5 w.heap.size w.heap.size (Lib.byteCells []) (w.alloc (.cells #[.pointer none, .slice none 0 0] 69)) :=
  .inl ⟨Nat.le_refl _, .slice none 0 0, heap_alloc_new w _, ⟨by simp [Lib.byteCells], .inl ⟨rfl, rfl⟩⟩, by simp [Value.ownBlock]⟩

set_option maxHeartbeats 1000000 in
theorem print_yes (n y m d : Int) (hi : Cal.Is n y m d) (w : World) :
    Calls Try.prog 26 #[.int .i64 n] w fun e w' => e = .returned (.string ⟨(dayText y m d).toArray⟩) ∧ Below w.heap.size w w' := by
  have HI := Lib.hid hi
  have hd31 := Cal.dim_hi y m
  obtain ⟨y1, y2, m1, m2, d1, d2, _⟩ := hi
  have hB0 : Below w.heap.size w (w.alloc (.cells #[.pointer none, .slice none 0 0] 69)) := (Below.refl _ _).alloc (Nat.le_refl _) _
  have hb0 := Lib.hid (fresh_builder w)
  go_enter Try.func26, Try.ntmps26
  go_wp2_with (go_at_call 23; refine (civil_is n y m d HI.out _).mono ?_; rintro e w' ⟨rfl, rfl⟩)
  refine (put_any y (by omega) (by omega) 4 (by omega) w.heap.size w.heap.size [] (by simp) _ hb0.out hB0.size).mono ?_
  rintro e w1 ⟨rfl, hb1, hB1⟩
  have HB1 := Lib.hid hb1
  clear hb1
  have s1 := hB1.size
  simp only [List.nil_append] at HB1
  have t1 : w.heap.size ≤ w1.heap.size := by simp at s1; omega
  clear s1
  go_wp2_with (go_at_call 46; refine (writeByte_any w.heap.size w.heap.size _ _ _ HB1.out (by rw [Lib.byteCells_length, digs_length]; omega) t1).mono ?_; rintro e w2 ⟨rfl, hb2, hB2⟩)
  have t2 : w.heap.size ≤ w2.heap.size := Nat.le_trans t1 hB2.size
  have HB2 := Lib.hid (isB_snoc hb2)
  clear hb2 HB1
  refine (put_any m (by omega) (by omega) 2 (by omega) w.heap.size w.heap.size _ (by simp [digs_length]) _ HB2.out t2).mono ?_
  rintro e w3 ⟨rfl, hb3, hB3⟩
  have t3 : w.heap.size ≤ w3.heap.size := Nat.le_trans t2 hB3.size
  have HB3 := Lib.hid hb3
  clear hb3 HB2
  go_wp2_with (go_at_call 46; refine (writeByte_any w.heap.size w.heap.size _ _ _ HB3.out (by rw [Lib.byteCells_length]; simp [digs_length]) t3).mono ?_; rintro e w4 ⟨rfl, hb4, hB4⟩)
  have t4 : w.heap.size ≤ w4.heap.size := Nat.le_trans t3 hB4.size
  have HB4 := Lib.hid (isB_snoc hb4)
  clear hb4 HB3
  refine (put_any d (by omega) (by omega) 2 (by omega) w.heap.size w.heap.size _ (by simp [digs_length]) _ HB4.out t4).mono ?_
  rintro e w5 ⟨rfl, hb5, hB5⟩
  have t5 : w.heap.size ≤ w5.heap.size := Nat.le_trans t4 hB5.size
  have HB5 := Lib.hid hb5
  clear hb5 HB4
  go_wp2_with (go_at_call 47; refine (Try.Builder_String_any w.heap.size w.heap.size _ _ HB5.out t5).mono ?_; rintro e w6 ⟨rfl, hB6⟩)
  go_ret
  exact ⟨rfl, ((((((hB0.trans hB1).trans hB2).trans hB3).trans hB4).trans hB5).trans hB6)⟩
end Go.Proofs.Ytknahehmkjaelab
