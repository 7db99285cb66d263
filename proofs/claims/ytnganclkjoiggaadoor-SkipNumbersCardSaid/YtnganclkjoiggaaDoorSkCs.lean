/- New, Len, Get, From, Behind, Ahead, First of a skip list. Conditions: those written at each theorem. -/
import Derived.Test.YtnganclkjoiggaaDoorSkBs
import Derived.LaidEqlPtr
import Derived.Laws.MakeOwn
namespace Go.Proofs.YtnganclkjoiggaaDoor
open Go.RowKit Go.Maps Go.WideShapes
set_option linter.unusedVariables false
set_option linter.unusedSimpArgs false
namespace sk
theorem ptrI : (Tryd.prog.info? 59).map (fun i => (i.zero, i.size, i.bytes)) = some (some (.pointer none), 1, 8) := by kernel_rfl
theorem made_row (n : Nat) : madeCells #[.pointer none] n = rowOf n nil := by
  unfold madeCells rowOf nil
  apply Array.ext
  · simp
  · intro i h1 h2
    simp [Nat.mod_one]
theorem mk_row (n : Nat) (hn : n ≤ 16) (w : World) : (Instr.makeSlice 60 (.int .i64 (n : Int)) (.int .i64 (n : Int))).run Tryd.prog w = .ok (.slice (some ⟨w.heap.size, 0, none⟩) n n) (w.alloc (.cells (rowOf n nil) 59)) := by
  obtain ⟨i0, hi, hz0, hz1, hz2⟩ := info_parts ptrI
  have := run_make (P := Tryd.prog) w 60 59 i0 (.pointer none) Tryd.underlying60 hi hz0 .i64 .i64 (n : Int) (n : Int) (by omega) (by omega) (by rw [hz2]; omega) (by omega)
  rw [hz1, Nat.mul_one, Int.toNat_natCast, show (Value.pointer none).cells = #[.pointer none] from rfl, made_row] at this
  exact this
theorem mk_16 (w : World) : (Instr.makeSlice 60 (.int .i64 16) (.int .i64 16)).run Tryd.prog w = .ok (.slice (some ⟨w.heap.size, 0, none⟩) 16 16) (w.alloc (.cells (rowOf 16 nil) 59)) := mk_row 16 (by omega) w
set_option maxRecDepth 100000 in
set_option maxHeartbeats 2000000 in
theorem new_any (w : World) : Calls Tryd.prog 9 #[] w fun e w' => ∃ H : Nd, e = .returned (.pointer (some ⟨w.heap.size + 2, 0, none⟩)) ∧ SkAt w.heap.size (w.heap.size + 2) H 1 [] w' ∧ Below w.heap.size w w' := by
  have hmk := mk_16
  go_enter Tryd.func9, Tryd.ntmps9
  go_wp2_with fail
  go_ret
  obtain ⟨w1, h1⟩ : ∃ x, x = w.alloc (.cells (rowOf 16 nil) 59) := ⟨_, rfl⟩
  obtain ⟨w2, h2⟩ : ∃ x, x = w1.alloc (.cells #[(.string ⟨#[]⟩), (.int .i64 0), .slice (some ⟨w.heap.size, 0, none⟩) 16 16] 62) := ⟨_, rfl⟩
  obtain ⟨w3, h3⟩ : ∃ x, x = w2.alloc (.cells #[.pointer (some ⟨w.heap.size + 1, 0, none⟩), .int .i64 0, .int .u64 1] 65) := ⟨_, rfl⟩
  have s1 : w1.heap.size = w.heap.size + 1 := by rw [h1]; simp
  have s2 : w2.heap.size = w.heap.size + 2 := by rw [h2]; simp [s1]
  have g1 : w1.heap[w.heap.size]? = some (.cells (rowOf 16 nil) 59 (0, 0)) := by rw [h1]; exact heap_alloc_new w _
  have g2 : w2.heap[w.heap.size + 1]? = some (.cells #[(.string ⟨#[]⟩), (.int .i64 0), .slice (some ⟨w.heap.size, 0, none⟩) 16 16] 62 (0, 0)) := by rw [h2, ← s1]; exact heap_alloc_new w1 _
  have g3 : w3.heap[w.heap.size + 2]? = some (.cells #[.pointer (some ⟨w.heap.size + 1, 0, none⟩), .int .i64 0, .int .u64 1] 65 (0, 0)) := by rw [h3, ← s2]; exact heap_alloc_new w2 _
  have k1 : w3.heap[w.heap.size]? = w1.heap[w.heap.size]? := by rw [h3, Below.heap_alloc _ _ _ (by omega), h2, Below.heap_alloc _ _ _ (by omega)]
  have k2 : w3.heap[w.heap.size + 1]? = w2.heap[w.heap.size + 1]? := by rw [h3, Below.heap_alloc _ _ _ (by omega)]
  have hb : Below w.heap.size w w3 := by rw [h3, h2, h1]; exact (((Below.refl _ _).alloc (Nat.le_refl _) _).alloc (by simp) _).alloc (by simp; omega) _
  have hw : w3 = ((w.alloc (.cells (rowOf 16 nil) 59)).alloc (.cells #[(.string ⟨#[]⟩), (.int .i64 0), .slice (some ⟨w.heap.size, 0, none⟩) 16 16] 62)).alloc (.cells #[.pointer (some ⟨w.heap.size + 1, 0, none⟩), .int .i64 0, .int .u64 1] 65) := by rw [h3, h2, h1]
  have fin : SkAt w.heap.size (w.heap.size + 2) ⟨w.heap.size + 1, w.heap.size, 16, ⟨#[]⟩, 0⟩ 1 [] w3 := by
    refine ⟨g3, ⟨⟨k2.trans g2, k1.trans g1⟩, trivial⟩, ⟨rfl, by simp⟩, by simp [own], by simp [own], List.Pairwise.nil, by omega⟩
  rw [hw] at fin hb
  exact ⟨_, rfl, fin, hb⟩
theorem len_any {B m : Nat} {H : Nd} {mx : Int} {ns : List Nd} {w : World} (h : SkAt B m H mx ns w) : Calls Tryd.prog 30 #[.pointer (some ⟨m, 0, none⟩)] w fun e w' => e = .returned (.int .i64 ns.length) ∧ w = w' := by
  have c1 := cell_blk h.hd 1
  simp only [List.getElem?_toArray] at c1
  clear h
  go_enter Tryd.func30, Tryd.ntmps30
  go_wp2_with fail
  go_ret
  exact ⟨rfl, rfl⟩
/-- The last one at the lowest level. -/
theorem last_any {A : List Nd} {p : Nd} (hp : 1 ≤ p.h) : lst (A ++ [p]) 0 = ptr p := lst_last (A2 := []) (by omega) (by simp)
theorem ends (H : Nd) (As : List Nd) : ∃ A p, H :: As = A ++ [p] := by
  rcases List.eq_nil_or_concat (H :: As) with h | ⟨A, p, h⟩
  · cases h
  · exact ⟨A, p, by rw [h]; simp⟩
theorem SkAt.high {B m : Nat} {H : Nd} {mx : Int} {ns : List Nd} {w : World} (h : SkAt B m H mx ns w) : ∀ p ∈ H :: ns, 1 ≤ p.h ∧ p.h ≤ 16 := by
  intro p hp
  rcases List.mem_cons.1 hp with rfl | hp
  · have := h.hh.1; omega
  · exact h.hh.2 p hp
def hdp : Option Nd → Value
  | none => .pointer none
  | some p => ptr p
theorem nx_zero {Bs : List Nd} (h : ∀ p ∈ Bs, 1 ≤ p.h) : nx Bs nil 0 = (hdp Bs.head?) := by
  cases Bs with
  | nil => rfl
  | cons b T => rw [nx, if_pos (show 0 < b.h by have := h b (List.mem_cons_self ..); omega)]; rfl
/-- The node ahead, its row, and what is behind it. -/
theorem SkAt.ahead {B m : Nat} {H : Nd} {mx : Int} {As Bs : List Nd} {w : World} (h : SkAt B m H mx (As ++ Bs) w) : ∃ (q nb n : Nat) (A : List Nd) (p : Nd), H :: As = A ++ [p] ∧ q = p.b ∧ nb = p.nb ∧ n = p.h ∧ (lasts (H :: As) 0)[0]? = some (.pointer (some ⟨q, 0, none⟩)) ∧ w.cell? ⟨q, 2, none⟩ = some (.slice (some ⟨nb, 0, none⟩) n n) ∧ (0 : Int) < (n : Int) ∧
    w.cell? ⟨nb, 0, none⟩ = some (hdp Bs.head?) := by
  obtain ⟨A, p, e⟩ := ends H As
  have hp : p ∈ H :: (As ++ Bs) := by rw [← List.cons_append, e]; simp
  have h1 := (h.high p hp).1
  obtain ⟨_, _, c2, c3⟩ := (h.node (A := A) (T := Bs) (p := p) (by rw [← List.cons_append, e]; simp)).cells
  have c4 := c3 0 h1
  rw [nx_zero fun x hx => (h.hh.2 x (List.mem_append_right _ hx)).1] at c4
  refine ⟨p.b, p.nb, p.h, A, p, e, rfl, rfl, rfl, ?_, c2, by omega, c4⟩
  unfold lasts
  rw [rowOf_at _ (by omega), if_neg (by omega), e, last_any h1, ptr]
theorem head_ptr (o : Option Nd) : ∃ x : Option Addr, hdp o = .pointer x := by
  cases o
  · exact ⟨none, rfl⟩
  · exact ⟨_, rfl⟩
set_option maxRecDepth 100000 in
set_option maxHeartbeats 2000000 in
theorem holder_yes {B m : Nat} {H : Nd} {mx : Int} {As T : List Nd} {E : Nd} {w : World} (h : SkAt B m H mx (As ++ E :: T) w) (r : Value) :
    Calls Tryd.prog 32 #[r, .string E.k, .agg (lasts (H :: As) 0)] w fun e w' => e = .returned (ptr E) ∧ Below w.heap.size w w' := by
  obtain ⟨w1, hw⟩ : ∃ x, x = w.alloc (.cells (lasts (H :: As) 0) 66) := ⟨_, rfl⟩
  have hb : Below w.heap.size w w1 := by rw [hw]; exact (Below.refl _ _).alloc (Nat.le_refl _) _
  have hn := heap_alloc_new w (.cells (lasts (H :: As) 0) 66)
  rw [← hw] at hn
  have x0 := cell_blk hn 0
  obtain ⟨q, nb, n, A, p, e, hq, hnb, hnn, l0, c2, n0, c4⟩ := (h.under hb).ahead
  rw [l0] at x0
  simp only [List.head?_cons, hdp, ptr] at c4
  obtain ⟨d0, _, _, _⟩ := ((h.under hb).node (A := H :: As) (T := T) (p := E) rfl).cells
  have CL := Lib.hid (less_any E.k E.k w1)
  rw [lt_irrefl] at CL
  have HB := Lib.hid hb
  have HW := Lib.hid hw
  obtain ⟨b, hbb⟩ : ∃ b, b = E.b := ⟨_, rfl⟩
  obtain ⟨k, hk⟩ : ∃ b, b = E.k := ⟨_, rfl⟩
  unfold ptr
  rw [← hbb] at c4 d0 ⊢
  rw [← hk] at d0 CL ⊢
  clear h hn hb hw hq hnb hnn e hbb hk l0
  go_enter Tryd.func32, Tryd.ntmps32
  go_upto_region 1 with fail
  refine wp_letter (fun W => w1 = W) HW.out ?_
  rintro _ rfl
  go_wp2_with (go_at_call 40; (with_reducible refine CL.out.mono ?_); rintro e w' ⟨rfl, rfl⟩)
  go_ret
  exact ⟨rfl, HB.out⟩
set_option maxRecDepth 100000 in
set_option maxHeartbeats 2000000 in
theorem holder_no {B m : Nat} {H : Nd} {mx : Int} {As Bs : List Nd} {w : World} (h : SkAt B m H mx (As ++ Bs) w) (k : ByteArray) (hk : ∀ x ∈ Bs, lt k x.k = true) (r : Value) :
    Calls Tryd.prog 32 #[r, .string k, .agg (lasts (H :: As) 0)] w fun e w' => e = .returned (.pointer none) ∧ Below w.heap.size w w' := by
  obtain ⟨w1, hw⟩ : ∃ x, x = w.alloc (.cells (lasts (H :: As) 0) 66) := ⟨_, rfl⟩
  have hb : Below w.heap.size w w1 := by rw [hw]; exact (Below.refl _ _).alloc (Nat.le_refl _) _
  have hn := heap_alloc_new w (.cells (lasts (H :: As) 0) 66)
  rw [← hw] at hn
  have x0 := cell_blk hn 0
  obtain ⟨q, nb, n, A, p, e, hq, hnb, hnn, l0, c2, n0, c4⟩ := (h.under hb).ahead
  rw [l0] at x0
  have HB := Lib.hid hb
  have HW := Lib.hid hw
  cases Bs with
  | nil =>
    simp only [List.head?_nil, hdp] at c4
    clear h hn hb hw hq hnb hnn e l0 hk
    go_enter Tryd.func32, Tryd.ntmps32
    go_upto_region 1 with fail
    refine wp_letter (fun W => w1 = W) HW.out ?_
    rintro _ rfl
    go_wp2_with fail
    go_ret
    exact ⟨rfl, HB.out⟩
  | cons E T =>
    simp only [List.head?_cons, hdp, ptr] at c4
    obtain ⟨d0, _, _, _⟩ := ((h.under hb).node (A := H :: As) (T := T) (p := E) rfl).cells
    have CL := Lib.hid (less_any k E.k w1)
    rw [hk E (List.mem_cons_self ..)] at CL
    obtain ⟨b, hbb⟩ : ∃ b, b = E.b := ⟨_, rfl⟩
    obtain ⟨k2, hk2⟩ : ∃ b, b = E.k := ⟨_, rfl⟩
    rw [← hbb] at c4 d0
    rw [← hk2] at d0 CL
    clear h hn hb hw hq hnb hnn e hbb hk hk2 l0
    go_enter Tryd.func32, Tryd.ntmps32
    go_upto_region 1 with fail
    refine wp_letter (fun W => w1 = W) HW.out ?_
    rintro _ rfl
    go_wp2_with (go_at_call 40; (with_reducible refine CL.out.mono ?_); rintro e w' ⟨rfl, rfl⟩)
    go_ret
    exact ⟨rfl, HB.out⟩
/-- Where a key stands. -/
def Cut (pass : Bool) (k : ByteArray) (As Bs : List Nd) : Prop := (∀ n ∈ As, below pass k n.k = true) ∧ ∀ n ∈ Bs, below pass k n.k = false
set_option maxRecDepth 100000 in
set_option maxHeartbeats 2000000 in
theorem get_yes {B m : Nat} {H : Nd} {mx : Int} {As T : List Nd} {E : Nd} {w : World} (h : SkAt B m H mx (As ++ E :: T) w) (hc : Cut false E.k As (E :: T)) :
    Calls Tryd.prog 29 #[.pointer (some ⟨m, 0, none⟩), .string E.k] w fun e w' => e = .returned (.tuple #[.int .i64 E.v, .bool true]) ∧ Below w.heap.size w w' := by
  have C1 := Lib.hid (before_any h E.k false hc.1 hc.2)
  have C2 : Hid (∀ w', Below w.heap.size w w' → Calls Tryd.prog 32 #[.pointer (some ⟨m, 0, none⟩), .string E.k, .agg (lasts (H :: As) 0)] w' fun e w'' => e = .returned (ptr E) ∧ Below w'.heap.size w' w'') := Lib.hid fun w' hb => holder_yes (h.under hb) _
  have C3 : Hid (∀ w', Below w.heap.size w w' → w'.cell? ⟨E.b, 1, none⟩ = some (.int .i64 E.v)) := Lib.hid fun w' hb => ((h.under hb).node (A := H :: As) (T := T) (p := E) rfl).cells.2.1
  obtain ⟨b, hbb⟩ : ∃ b, b = E.b := ⟨_, rfl⟩
  obtain ⟨k, hk⟩ : ∃ b, b = E.k := ⟨_, rfl⟩
  obtain ⟨x, hx⟩ : ∃ b, b = E.v := ⟨_, rfl⟩
  unfold ptr at C2
  rw [← hbb] at C2 C3
  rw [← hk] at C1 C2 ⊢
  rw [← hx] at C3 ⊢
  clear h hc hbb hk hx
  go_enter Tryd.func29, Tryd.ntmps29
  go_wp2_with (first | (go_at_call 31; (with_reducible refine C1.out.mono ?_); rintro e w1 ⟨rfl, hb1⟩; have HB1 := Lib.hid hb1; have C4 := Lib.hid (C2.out w1 hb1); clear hb1) | (go_at_call 32; (with_reducible refine C4.out.mono ?_); rintro e w2 ⟨rfl, hb2⟩; have HB2 := Lib.hid (below_mono HB1.out hb2 (Nat.le_refl _)); have c1 := C3.out w2 HB2.out; clear hb2))
  go_ret2
  exact ⟨rfl, HB2.out⟩
set_option maxRecDepth 100000 in
set_option maxHeartbeats 2000000 in
theorem get_no {B m : Nat} {H : Nd} {mx : Int} {As Bs : List Nd} {w : World} (h : SkAt B m H mx (As ++ Bs) w) (k : ByteArray) (hc : Cut false k As Bs) (hn : ∀ x ∈ Bs, lt k x.k = true) :
    Calls Tryd.prog 29 #[.pointer (some ⟨m, 0, none⟩), .string k] w fun e w' => e = .returned (.tuple #[(.int .i64 0), .bool false]) ∧ Below w.heap.size w w' := by
  have C1 := Lib.hid (before_any h k false hc.1 hc.2)
  have C2 : Hid (∀ w', Below w.heap.size w w' → Calls Tryd.prog 32 #[.pointer (some ⟨m, 0, none⟩), .string k, .agg (lasts (H :: As) 0)] w' fun e w'' => e = .returned (.pointer none) ∧ Below w'.heap.size w' w'') := Lib.hid fun w' hb => holder_no (h.under hb) k hn _
  clear h hc hn
  go_enter Tryd.func29, Tryd.ntmps29
  go_wp2_with (first | (go_at_call 31; (with_reducible refine C1.out.mono ?_); rintro e w1 ⟨rfl, hb1⟩; have HB1 := Lib.hid hb1; have C4 := Lib.hid (C2.out w1 hb1); clear hb1) | (go_at_call 32; (with_reducible refine C4.out.mono ?_); rintro e w2 ⟨rfl, hb2⟩; have HB2 := Lib.hid (below_mono HB1.out hb2 (Nat.le_refl _)); clear hb2))
  go_ret2
  exact ⟨rfl, HB2.out⟩
end sk
end Go.Proofs.YtnganclkjoiggaaDoor
