/- Texts of this seat, one behind the other. Conditions: those written at each theorem. -/
import Derived.Test.YthhimllddgfddaaTrW
import Derived.Deep.RegionHeld3
import Derived.Test.YthhimllddgfddaaTrL
import Derived.Test.YthhimllddgfddaaG1
import Derived.Test.YthhimllddgfddaaG2
import Derived.Test.YthhimllddgfddaaG3
namespace Go.Proofs.Ythhimllddgfddaa
open Go.RowKit Go.PlainAid
set_option linter.unusedVariables false
set_option linter.unusedSimpArgs false
theorem four_madeT (v0 v1 v2 v3 : Value) (T : TypeId) (w : World) : ∀ W, w.alloc (.cells #[v0, v1, v2, v3] T) = W → Below w.heap.size w W ∧ W.heap[w.heap.size]? = some (.cells #[v0, v1, v2, v3] T (0, 0)) ∧ W.heap.size = w.heap.size + 1 := by
  rintro W rfl
  exact ⟨(Below.refl w.heap.size w).alloc (Nat.le_refl _) _, heap_alloc_new w _, by simp⟩
theorem four_setT (wr : World) (rb : Nat) (x0 x1 x2 x3 : Value) (o : Array Value) (T : TypeId) (ho : ∃ y0 y1 y2 y3, o = #[y0, y1, y2, y3]) (hb : wr.heap[rb]? = some (.cells o T (0, 0))) : ∀ W, ((((wr.setCell ⟨rb, 0, none⟩ x0).setCell ⟨rb, 1, none⟩ x1).setCell ⟨rb, 2, none⟩ x2).setCell ⟨rb, 3, none⟩ x3) = W → Below rb wr W ∧ (∀ b, b ≠ rb → W.heap[b]? = wr.heap[b]?) ∧ W.heap.size = wr.heap.size ∧ W.heap[rb]? = some (.cells #[x0, x1, x2, x3] T (0, 0)) := by
  rintro W rfl
  obtain ⟨y0, y1, y2, y3, rfl⟩ := ho
  refine ⟨?_, fun b hb => ?_, by simp, ?_⟩
  · exact ((((Below.refl rb wr).setCell (p := ⟨rb, 0, none⟩) (Nat.le_refl _) _).setCell (p := ⟨rb, 1, none⟩) (Nat.le_refl _) _).setCell (p := ⟨rb, 2, none⟩) (Nat.le_refl _) _).setCell (p := ⟨rb, 3, none⟩) (Nat.le_refl _) _
  · exact (Below.heap_setCell _ _ _ _ hb).trans ((Below.heap_setCell _ _ _ _ hb).trans ((Below.heap_setCell _ _ _ _ hb).trans (Below.heap_setCell _ _ _ _ hb)))
  · have q0 := heap_set_at (i := 0) x0 hb
    have q1 := heap_set_at (i := 1) x1 q0
    have q2 := heap_set_at (i := 2) x2 q1
    exact heap_set_at (i := 3) x3 q2
set_option maxRecDepth 100000 in
/-- The last term, where it is right. -/
def lastT (ts : List Tr) : Option Tr := match ts.getLast? with
  | some x => if x.rgt = true then some x else none
  | none => none
theorem lastT_some {ts : List Tr} {x : Tr} (h : lastT ts = some x) : ts[ts.length - 1]? = some x ∧ x.rgt = true ∧ 0 < ts.length := by
  unfold lastT at h
  rw [List.getLast?_eq_getElem?] at h
  split at h
  · rename_i y hy
    split at h
    · rename_i hr
      cases h
      exact ⟨hy, hr, by have := (List.getElem?_eq_some_iff.1 hy).1; omega⟩
    · cases h
  · cases h
abbrev zeroTr : Value := .agg #[.int .i64 0, .string ⟨#[]⟩, .slice none 0 0, .slice none 0 0]
/-- What Last gives. -/
def LstP (R : Nat → Prop) (ts : List Tr) (w : World) (e : Ending) (w' : World) : Prop := (match lastT ts with
  | none => e = .returned (.tuple #[zeroTr, .bool false])
  | some x => ∃ eo ek to' tk, e = .returned (.tuple #[trV x eo ek to' tk, .bool true]) ∧ TrOk R w' x eo ek to' tk) ∧ Below w.heap.size w w'
set_option maxRecDepth 100000 in
set_option maxHeartbeats 4000000 in
theorem rlast_any {R : Nat → Prop} {xs : List Xp} {ts : List Tr} {a0 a1 a2 a3 a4 a5 : Option Addr} {c0 c1 c2 c3 c4 c5 : Nat} (w : World) (hR : ∀ b, R b → b < w.heap.size) (hb : BuiltAt R xs ts a0 a1 a2 a3 a4 a5 w) (hl : ts.length ≤ 60) (hf : ∀ x ∈ ts, x.fit) :
    Calls Try.prog 17 #[treeV xs ts a0 a1 a2 a3 a4 a5 c0 c1 c2 c3 c4 c5] w (LstP R ts w) := by
  obtain ⟨L, hL⟩ : ∃ L, L = xs.length := ⟨_, rfl⟩
  obtain ⟨L2, hL2⟩ : ∃ L, L = ts.length := ⟨_, rfl⟩
  have hv : treeV xs ts a0 a1 a2 a3 a4 a5 c0 c1 c2 c3 c4 c5 = .agg #[.slice a0 L c0, .slice a1 L c1, .slice a2 L c2, .slice a3 L2 c3, .slice a4 L2 c4, .slice a5 L2 c5] := by unfold treeV; rw [← hL, ← hL2]
  have CR : Hid (∀ (i : Nat) (x : Tr), ts[i]? = some x → ∀ W, Below w.heap.size w W → Calls Try.prog 31 #[.agg #[.slice a0 L c0, .slice a1 L c1, .slice a2 L c2, .slice a3 L2 c3, .slice a4 L2 c4, .slice a5 L2 c5], .int .i64 i] W fun e w' => e = .returned (.bool x.rgt) ∧ Below W.heap.size W w') := Lib.hid fun i x hx W hW => by
    have := rtright_any (c0 := c0) (c1 := c1) (c2 := c2) (c3 := c3) (c4 := c4) (c5 := c5) W (fun b h => Nat.lt_of_lt_of_le (hR b h) hW.size) (hb.stay (fun _ h => h) fun b h => hW.block b (hR b h)) hl hx (hf x (List.mem_of_getElem? hx))
    rw [hv] at this
    exact this
  rw [hv]
  have GA := Lib.hid (six_box (.slice a0 L c0) (.slice a1 L c1) (.slice a2 L c2) (.slice a3 L2 c3) (.slice a4 L2 c4) (.slice a5 L2 c5) 58 w)
  have GZ : Hid (∀ W, w.alloc (.cells #[.slice a0 L c0, .slice a1 L c1, .slice a2 L c2, .slice a3 L2 c3, .slice a4 L2 c4, .slice a5 L2 c5] 58) = W → ∀ V, W.alloc (.cells #[.int .i64 0, .string ⟨#[]⟩, .slice none 0 0, .slice none 0 0] 32) = V → Below w.heap.size w V ∧ V.heap[w.heap.size]? = some (.cells #[.slice a0 L c0, .slice a1 L c1, .slice a2 L c2, .slice a3 L2 c3, .slice a4 L2 c4, .slice a5 L2 c5] 58 (0, 0)) ∧ V.heap[w.heap.size + 1]? = some (.cells #[.int .i64 0, .string ⟨#[]⟩, .slice none 0 0, .slice none 0 0] 32 (0, 0))) := Lib.hid (by
    rintro W hW V hV
    obtain ⟨g1, g2, g3⟩ := GA.out W hW
    obtain ⟨k1, k2, k3⟩ := four_madeT _ _ _ _ _ W V hV
    exact ⟨below_mono g1 k1 (Nat.le_refl _), (k1.block _ (by omega)).trans g2, by rw [← g3]; exact k2⟩)
  have HB0 := Lib.hid hb
  have HR := Lib.hid hR
  have HL2 := Lib.hid hL2
  obtain ⟨z, hz⟩ : ∃ z, z = w.heap.size := ⟨_, rfl⟩
  obtain ⟨y, hy⟩ : ∃ z, z = w.heap.size + 1 := ⟨_, rfl⟩
  have hl2 : L2 ≤ 60 := by omega
  clear hb hl hL hL2 hf hv hR
  go_enter Try.func17, Try.ntmps17
  go_upto_region 1 with fail
  obtain ⟨V, hV⟩ : ∃ X, (w.alloc (.cells #[.slice a0 L c0, .slice a1 L c1, .slice a2 L c2, .slice a3 L2 c3, .slice a4 L2 c4, .slice a5 L2 c5] 58)).alloc (.cells #[.int .i64 0, .string ⟨#[]⟩, .slice none 0 0, .slice none 0 0] 32) = X := ⟨_, rfl⟩
  obtain ⟨g1, b1, b2⟩ := GZ.out _ rfl V hV
  rw [← hz] at b1
  rw [← hy] at b2
  rw [hV, ← hz, show z + 1 = y from by omega]
  have HG := Lib.hid g1
  have HB1 := Lib.hid b1
  have HB2 := Lib.hid b2
  have HZY := Lib.hid (show z = w.heap.size ∧ y = w.heap.size + 1 by omega)
  have t0 : V.cell? ⟨z, 0, none⟩ = some (.slice a0 L c0) := cell_blk b1 0
  have t1 : V.cell? ⟨z, 1, none⟩ = some (.slice a1 L c1) := cell_blk b1 1
  have t2 : V.cell? ⟨z, 2, none⟩ = some (.slice a2 L c2) := cell_blk b1 2
  have t3 : V.cell? ⟨z, 3, none⟩ = some (.slice a3 L2 c3) := cell_blk b1 3
  have t4 : V.cell? ⟨z, 4, none⟩ = some (.slice a4 L2 c4) := cell_blk b1 4
  have t5 : V.cell? ⟨z, 5, none⟩ = some (.slice a5 L2 c5) := cell_blk b1 5
  clear hV g1 b1 b2 GA GZ hz hy
  rcases Nat.eq_zero_or_pos L2 with h0 | h0
  · subst h0
    have HE : Hid (lastT ts = none) := Lib.hid (by
      obtain rfl : ts = [] := List.length_eq_zero_iff.1 HL2.out.symm
      rfl)
    obtain ⟨d0, d1, d2, d3⟩ := quad HB2.out
    have p0 : V.frozen? ⟨y, 0, none⟩ = false := free_blk HB2.out 0
    have p1 : V.frozen? ⟨y, 1, none⟩ = false := free_blk HB2.out 1
    have p2 : V.frozen? ⟨y, 2, none⟩ = false := free_blk HB2.out 2
    have p3 : V.frozen? ⟨y, 3, none⟩ = false := free_blk HB2.out 3
    go_wp2_with fail
    have HS := Lib.hid (four_setT V y (.int .i64 0) (.string ⟨#[]⟩) (.slice none 0 0) (.slice none 0 0) _ _ ⟨_, _, _, _, rfl⟩ HB2.out)
    clear d0 d1 d2 d3 p0 p1 p2 p3
    obtain ⟨W9, hW9⟩ : ∃ X, ((((V.setCell ⟨y, 0, none⟩ (.int .i64 0)).setCell ⟨y, 1, none⟩ (.string ⟨#[]⟩)).setCell ⟨y, 2, none⟩ (.slice none 0 0)).setCell ⟨y, 3, none⟩ (.slice none 0 0)) = X := ⟨_, rfl⟩
    obtain ⟨k9, f9, s9, x9⟩ := HS.out W9 hW9
    rw [hW9]
    obtain ⟨d0, d1, d2, d3⟩ := quad x9
    refine bodyPost_ret (v := .tuple #[zeroTr, .bool false]) (by simp [results, Try.results17, go_sem, d0, d1, d2, d3]) rfl ⟨?_, HG.out.trans (k9.mono (by have := HZY.out; omega))⟩
    rw [HE.out]
  · obtain ⟨x, hx⟩ : ∃ x, ts[L2 - 1]? = some x := ⟨_, List.getElem?_eq_getElem (by rw [← HL2.out]; omega)⟩
    have CR2 := Lib.hid (CR.out (L2 - 1) x hx V HG.out)
    have e1 : ((L2 - 1 : Nat) : Int) = (L2 : Int) - 1 := by omega
    rw [e1] at CR2
    obtain ⟨a, eo, ek, to', tk, rfl, hra, hek, htk, ⟨y0, y1, y2, y3⟩, hex, hte⟩ := HB0.out.terms.get hx
    have HOK : Hid (TrOk R w x eo ek to' tk) := Lib.hid ⟨hek, htk, hex, hte⟩
    obtain ⟨rg, hrg⟩ : ∃ v, v = x.rgt := ⟨_, rfl⟩
    rw [← hrg] at CR2
    obtain ⟨d0, d1, d2, d3⟩ := quad HB2.out
    have hL0 : ¬ (L2 : Int) = 0 := by omega
    have hL1 : (0 : Int) ≤ (L2 : Int) - 1 := by omega
    have hL2 : ((L2 : Int) == 0) = false := by simp; omega
    cases rg with
    | false =>
      have HE : Hid (lastT ts = none) := Lib.hid (by
        unfold lastT
        rw [List.getLast?_eq_getElem?, ← HL2.out, hx]
        simp [← hrg])
      clear hx hrg hex hte hek htk y0 y1 y2 y3 d0 d1 d2 d3 e1
      go_upto_region 3 with (go_at_call 31; (with_reducible refine CR2.out.mono ?_); rintro e w6 ⟨rfl, hb⟩; have HB6 := Lib.hid hb; clear hb)
      have HB26 := Lib.hid ((HB6.out.block y (lt_of_heap HB2.out)).trans HB2.out)
      obtain ⟨d0, d1, d2, d3⟩ := quad HB26.out
      have p0 : w6.frozen? ⟨y, 0, none⟩ = false := free_blk HB26.out 0
      have p1 : w6.frozen? ⟨y, 1, none⟩ = false := free_blk HB26.out 1
      have p2 : w6.frozen? ⟨y, 2, none⟩ = false := free_blk HB26.out 2
      have p3 : w6.frozen? ⟨y, 3, none⟩ = false := free_blk HB26.out 3
      go_wp2_with fail
      have HS := Lib.hid (four_setT w6 y (.int .i64 0) (.string ⟨#[]⟩) (.slice none 0 0) (.slice none 0 0) _ _ ⟨_, _, _, _, rfl⟩ HB26.out)
      clear d0 d1 d2 d3 p0 p1 p2 p3
      obtain ⟨W9, hW9⟩ : ∃ X, ((((w6.setCell ⟨y, 0, none⟩ (.int .i64 0)).setCell ⟨y, 1, none⟩ (.string ⟨#[]⟩)).setCell ⟨y, 2, none⟩ (.slice none 0 0)).setCell ⟨y, 3, none⟩ (.slice none 0 0)) = X := ⟨_, rfl⟩
      obtain ⟨k9, f9, s9, x9⟩ := HS.out W9 hW9
      rw [hW9]
      obtain ⟨d0, d1, d2, d3⟩ := quad x9
      refine bodyPost_ret (v := .tuple #[zeroTr, .bool false]) (by simp [results, Try.results17, go_sem, d0, d1, d2, d3]) rfl ⟨?_, (below_mono HG.out HB6.out (Nat.le_refl _)).trans (k9.mono (by have := HZY.out; omega))⟩
      rw [HE.out]
    | true =>
      have HE : Hid (lastT ts = some x) := Lib.hid (by
        unfold lastT
        rw [List.getLast?_eq_getElem?, ← HL2.out, hx]
        simp [← hrg])
      obtain ⟨xo, hxo⟩ : ∃ v, v = x.op := ⟨_, rfl⟩
      obtain ⟨xn, hxn⟩ : ∃ v, v = x.nm := ⟨_, rfl⟩
      obtain ⟨m1, hm1⟩ : ∃ m, m = x.exprs.length := ⟨_, rfl⟩
      obtain ⟨m2, hm2⟩ : ∃ m, m = x.terms.length := ⟨_, rfl⟩
      have HXE : Hid (trV x eo ek to' tk = .agg #[.int .i64 xo, .string xn, .slice eo m1 ek, .slice to' m2 tk]) := Lib.hid (by rw [hm1, hm2, hxo, hxn])
      rw [← hxo] at y0
      rw [← hxn] at y1
      rw [← hm1] at y2
      rw [← hm2] at y3
      have hti : ((L2 : Int) - 1).toNat = L2 - 1 := by omega
      have HCELL : Hid (∀ W, Below w.heap.size w W → (W.cell? (a.add ((L2 - 1) * 4)) = some (.int .i64 xo) ∧ W.cell? ⟨(a.add ((L2 - 1) * 4)).block, (a.add ((L2 - 1) * 4)).off + 1, none⟩ = some (.string xn) ∧ W.cell? ⟨(a.add ((L2 - 1) * 4)).block, (a.add ((L2 - 1) * 4)).off + 2, none⟩ = some (.slice eo m1 ek) ∧ W.cell? ⟨(a.add ((L2 - 1) * 4)).block, (a.add ((L2 - 1) * 4)).off + 3, none⟩ = some (.slice to' m2 tk))) := Lib.hid fun W hW => by
        have ha : (a.add ((L2 - 1) * 4)).block < w.heap.size := by rw [add_block]; exact HR.out _ hra
        exact ⟨(hW.cell (p := a.add ((L2 - 1) * 4)) ha).trans y0, (hW.cell (p := ⟨(a.add ((L2 - 1) * 4)).block, (a.add ((L2 - 1) * 4)).off + 1, none⟩) ha).trans y1, (hW.cell (p := ⟨(a.add ((L2 - 1) * 4)).block, (a.add ((L2 - 1) * 4)).off + 2, none⟩) ha).trans y2, (hW.cell (p := ⟨(a.add ((L2 - 1) * 4)).block, (a.add ((L2 - 1) * 4)).off + 3, none⟩) ha).trans y3⟩
      clear hx hrg hex hte hek htk y0 y1 y2 y3 d0 d1 d2 d3 e1 hxo hxn hm1 hm2
      go_upto_region 4 with (go_at_call 31; (with_reducible refine CR2.out.mono ?_); rintro e w6 ⟨rfl, hb⟩; have HB6 := Lib.hid hb; clear hb)
      have HW6 := Lib.hid (below_mono HG.out HB6.out (Nat.le_refl _))
      have HB26 := Lib.hid ((HB6.out.block y (lt_of_heap HB2.out)).trans HB2.out)
      have HB16 := Lib.hid ((HB6.out.block z (lt_of_heap HB1.out)).trans HB1.out)
      clear t0 t1 t2 t3 t4 t5
      have t3 : w6.cell? ⟨z, 3, none⟩ = some (.slice (some a) L2 c3) := cell_blk HB16.out 3
      obtain ⟨y0, y1, y2, y3⟩ := HCELL.out w6 HW6.out
      obtain ⟨d0, d1, d2, d3⟩ := quad HB26.out
      have p0 : w6.frozen? ⟨y, 0, none⟩ = false := free_blk HB26.out 0
      have p1 : w6.frozen? ⟨y, 1, none⟩ = false := free_blk HB26.out 1
      have p2 : w6.frozen? ⟨y, 2, none⟩ = false := free_blk HB26.out 2
      have p3 : w6.frozen? ⟨y, 3, none⟩ = false := free_blk HB26.out 3
      go_wp2_with fail
      have HS := Lib.hid (four_setT w6 y (.int .i64 xo) (.string xn) (.slice eo m1 ek) (.slice to' m2 tk) _ _ ⟨_, _, _, _, rfl⟩ HB26.out)
      clear d0 d1 d2 d3 p0 p1 p2 p3
      obtain ⟨W9, hW9⟩ : ∃ X, ((((w6.setCell ⟨y, 0, none⟩ (.int .i64 xo)).setCell ⟨y, 1, none⟩ (.string xn)).setCell ⟨y, 2, none⟩ (.slice eo m1 ek)).setCell ⟨y, 3, none⟩ (.slice to' m2 tk)) = X := ⟨_, rfl⟩
      obtain ⟨k9, f9, s9, x9⟩ := HS.out W9 hW9
      rw [hW9]
      obtain ⟨d0, d1, d2, d3⟩ := quad x9
      refine bodyPost_ret (v := .tuple #[.agg #[.int .i64 xo, .string xn, .slice eo m1 ek, .slice to' m2 tk], .bool true]) (by simp [results, Try.results17, go_sem, d0, d1, d2, d3]) rfl ⟨?_, HW6.out.trans (k9.mono (by have := HZY.out; omega))⟩
      rw [HE.out]
      refine ⟨eo, ek, to', tk, by rw [HXE.out], HOK.out.stay (fun _ h => h) fun b hb => ?_⟩
      have hbw := HR.out b hb
      exact (f9 b (by have := HZY.out; omega)).trans (HW6.out.block b hbw)
end Go.Proofs.Ythhimllddgfddaa
namespace Go.Proofs.Ythhimllddgfddaa
open Go.ChangeShapes Go.WideShapes Go.RowKit Go.Deep Go.WideElems Go.Maps
set_option linter.unusedVariables false
set_option linter.unusedSimpArgs false
/-- Flows in memory. -/
def FlA (S : Nat → Prop) (w : World) (l : List Fw) (va : Option Addr) : Prop := ∀ (i : Nat) f, l[i]? = some f → ∃ a, va = some a ∧ S a.block ∧ w.cell? (a.add (i * 2)) = some (.string f.coin) ∧ w.cell? ⟨(a.add (i * 2)).block, (a.add (i * 2)).off + 1, none⟩ = some (.int .i64 f.n)
theorem FlA.stay {S T : Nat → Prop} {w w' : World} {l : List Fw} {va : Option Addr} (h : FlA S w l va) (hT : ∀ b, S b → T b) (hS : ∀ b, S b → w'.heap[b]? = w.heap[b]?) : FlA T w' l va := fun i f hf => by
  obtain ⟨a, h1, h2, h3, h4⟩ := h i f hf
  have hb : w'.heap[(a.add (i * 2)).block]? = w.heap[(a.add (i * 2)).block]? := by rw [add_block]; exact hS _ h2
  exact ⟨a, h1, hT _ h2, (cell_heap hb).trans h3, (cell_heap (a := ⟨(a.add (i * 2)).block, (a.add (i * 2)).off + 1, none⟩) hb).trans h4⟩
theorem flatG_get : ∀ (l : List Fw) (i : Nat) (f : Fw), l[i]? = some f → (flatG l)[i * 2]? = some (.string f.coin) ∧ (flatG l)[i * 2 + 1]? = some (.int .i64 f.n)
  | [], i, f, h => by simp at h
  | p :: t, 0, f, h => by
    simp at h
    subst h
    exact ⟨rfl, rfl⟩
  | p :: t, i + 1, f, h => by
    have ih := flatG_get t i f (by simpa using h)
    rw [show (i + 1) * 2 = i * 2 + 1 + 1 from by omega]
    exact ih
theorem FlA.of {S : Nat → Prop} {w : World} {B : Nat} {T : TypeId} {va : Option Addr} {n c : Nat} {l : List Fw} (h : w.ownsRow B T 2 (.slice va n c) l.length (flatG l)) (hS : ∀ b, (Value.slice va n c).ownBlock = some b → S b) : FlA S w l va := fun i f hi => by
  have hil : i < l.length := (List.getElem?_eq_some_iff.1 hi).1
  have hll := flatG_len l
  rcases h.2 with ⟨hv, h0⟩ | ⟨b, cp, cur, hv, hb, hg, hc, _, hsz, htk⟩
  · omega
  · injection hv with e1 e2 e3
    subst e1
    have hcell : ∀ k u, (flatG l)[k]? = some u → w.cell? ⟨b, k, none⟩ = some u := by
      intro k u hk
      have hk2 := (List.getElem?_eq_some_iff.1 hk).1
      rw [cell_blk hg, ← hk, ← htk, List.getElem?_take_of_lt (by omega)]
      simp
    have ea : ∀ j, (⟨b, 0, none⟩ : Addr).add j = ⟨b, j, none⟩ := fun j => by unfold Addr.add; split <;> simp_all
    refine ⟨⟨b, 0, none⟩, rfl, hS b rfl, ?_⟩
    rw [ea]
    exact ⟨hcell _ _ (flatG_get l i f hi).1, hcell _ _ (flatG_get l i f hi).2⟩
theorem row_val {B k n : Nat} {T : TypeId} {v : Value} {xs : List Value} {w : World} (h : w.ownsRow B T k v n xs) : ∃ a c, v = .slice a n c := by
  rcases h.2 with ⟨hv, h0⟩ | ⟨b, cp, cur, hv, _⟩
  · exact ⟨none, 0, by rw [hv, h0]⟩
  · exact ⟨_, _, hv⟩
/-- What comes of it all, as lists in memory. -/
def CameP (g : Got) (e : Ending) (w' : World) : Prop := match g with
  | none => e = .returned (.tuple #[.slice none 0 0, .slice none 0 0, .int .i64 2])
  | some (p, h) => ∃ l va vc ga gc, e = .returned (.tuple #[.slice va l.length vc, .slice ga h.length gc, .int .i64 0]) ∧ l.map (·.p) = p ∧ PaA (fun b => b < w'.heap.size) w' l va ∧ FlA (fun b => b < w'.heap.size) w' h ga
theorem came_pa {B : Nat} {g : Got} {e : Ending} {w' : World} (h : Came B g e w') : CameP g e w' := by
  cases g with
  | none => exact h
  | some x =>
    obtain ⟨p, f⟩ := x
    obtain ⟨l, pv, gv, he, hm, h1, h2, h3, h4⟩ := h
    obtain ⟨va, vc, rfl⟩ := row_val h1
    obtain ⟨ga, gc, rfl⟩ := row_val h2
    exact ⟨l, va, vc, ga, gc, he, hm, PaA.of h1 (fun q hq => (h4 q hq).stay (fun b hb => hb.1) (fun _ _ => rfl)) (fun b hb => (row_own h1 hb).1), FlA.of h2 (fun b hb => (row_own h2 hb).1)⟩
theorem PaA.next {w w' : World} {l : List Pp} {va : Option Addr} (h : PaA (fun b => b < w.heap.size) w l va) (k : Below w.heap.size w w') : PaA (fun b => b < w'.heap.size) w' l va := h.stay (fun b hb => Nat.lt_of_lt_of_le hb k.size) fun b hb => k.block b hb
theorem FlA.next {w w' : World} {l : List Fw} {va : Option Addr} (h : FlA (fun b => b < w.heap.size) w l va) (k : Below w.heap.size w w') : FlA (fun b => b < w'.heap.size) w' l va := h.stay (fun b hb => Nat.lt_of_lt_of_le hb k.size) fun b hb => k.block b hb
theorem sumC_few {P : List Pt} (h : ∀ p ∈ P, p.t.cnt ≤ 200) : ∀ j, sumC (P.take j) ≤ 200 * j := by
  induction P with
  | nil => intro j; simp [sumC]
  | cons y t ih =>
    intro j
    cases j with
    | zero => simp [sumC]
    | succ j =>
      have h1 := h y (by simp)
      have h2 := ih (fun p hp => h p (by simp [hp])) j
      simp only [List.take_succ_cons, sumC]
      omega
set_option maxRecDepth 100000 in
set_option maxHeartbeats 8000000 in
theorem sizeP_any {S : Nat → Prop} (l : List Pp) (va : Option Addr) (vc : Nat) (w : World) (hS : ∀ b, S b → b < w.heap.size) (h : PaA S w l va) (hl : l.length ≤ 1000) (hc : ∀ q ∈ l, q.p.t.cnt ≤ 200) :
    Calls Try.prog 12 #[.slice va l.length vc] w fun e w' => e = .returned (.int .i64 (sumC (l.map (·.p)) : Nat)) ∧ Below w.heap.size w w' := by
  obtain ⟨m, hm⟩ : ∃ m, m = l.length := ⟨_, rfl⟩
  obtain ⟨P, hP⟩ : ∃ P, P = l.map (·.p) := ⟨_, rfl⟩
  rw [← hm, ← hP]
  have HX : Hid (∀ W, Below w.heap.size w W → PaA S W l va) := Lib.hid fun W hW => h.stay (fun _ h => h) fun b hb => hW.block b (hS b hb)
  have HS := Lib.hid hS
  have HM := Lib.hid (And.intro hm hP)
  have HC := Lib.hid hc
  have HF : Hid (∀ j, sumC (P.take j) ≤ 200 * j) := Lib.hid (sumC_few (fun p hp => by
    rw [hP] at hp
    obtain ⟨q, hq, rfl⟩ := List.mem_map.1 hp
    exact hc q hq))
  have hm6 : m ≤ 1000 := by omega
  clear h hl hm hS hc hP
  go_enter Try.func12, Try.ntmps12
  go_upto_region 3 with fail
  go_loopw [3, 4] (fun n v wr => ∃ j : Nat, n = .int .i64 (sumC (P.take j) : Nat) ∧ v = .int .i64 j ∧ j ≤ m ∧ Hid (Below w.heap.size w wr)) (fun _ v _ => m - (intOf v).toNat)
  case atStart => exact ⟨0, rfl, rfl, by omega, Lib.hid (Below.refl _ _)⟩
  case round =>
    obtain ⟨j, rfl, rfl, hj, HR⟩ := hrel
    have j0 : (0 : Int) ≤ (j : Int) := by omega
    by_cases hlt : j < m
    · obtain ⟨q, hq⟩ : ∃ q, l[j]? = some q := ⟨_, List.getElem?_eq_getElem (by rw [← HM.out.1]; exact hlt)⟩
      obtain ⟨a, rfl, hsa, hsx, hqp⟩ := HX.out wr HR.out j q hq
      have hcn := HC.out q (List.mem_of_getElem? hq)
      have hPj : P[j]? = some q.p := by rw [HM.out.2, List.getElem?_map, hq]; rfl
      have hT := sumC_take hPj
      have hfw := HF.out j
      obtain ⟨⟨f, tn, un, t⟩, uo, uk, eo, ek, tb, tk⟩ := q
      dsimp only at hsx hcn hT
      have hSr : ∀ b, S b → b < wr.heap.size := fun b hb => Nat.lt_of_lt_of_le (HS.out b hb) HR.out.size
      have CS : Hid (∀ V, Below wr.heap.size wr V → Calls Try.prog 8 #[trV t eo ek tb tk] V fun e w' => e = .returned (.tuple #[.int .i64 t.cnt, .int .i64 t.dep]) ∧ Below V.heap.size V w') := Lib.hid fun V hV => by
        have htr := hqp.tr.next hSr hV
        exact size_any t eo ek tb tk V (fun b hb => Nat.lt_of_lt_of_le (hSr b hb) hV.size) htr.ec htr.tc htr.ex htr.te (by omega)
      obtain ⟨op, hop⟩ : ∃ r, r = t.op := ⟨_, rfl⟩
      obtain ⟨nm, hnm⟩ : ∃ r, r = t.nm := ⟨_, rfl⟩
      obtain ⟨em, hem⟩ : ∃ r, r = t.exprs.length := ⟨_, rfl⟩
      obtain ⟨tm, htm⟩ : ∃ r, r = t.terms.length := ⟨_, rfl⟩
      obtain ⟨cn, hcn2⟩ : ∃ r, r = t.cnt := ⟨_, rfl⟩
      obtain ⟨dp, hdp⟩ : ∃ r, r = t.dep := ⟨_, rfl⟩
      obtain ⟨s0, hs0⟩ : ∃ r, r = sumC (P.take j) := ⟨_, rfl⟩
      rw [show trV t eo ek tb tk = .agg #[.int .i64 op, .string nm, .slice eo em ek, .slice tb tm tk] from by rw [hop, hnm, hem, htm], ← hcn2, ← hdp] at CS
      rw [← hop, ← hnm, ← hem, ← htm] at hsx
      rw [← hcn2] at hcn
      rw [← hcn2, ← hs0] at hT
      rw [← hs0] at hfw ⊢
      obtain ⟨y0, y1, y2, y3, y4, y5, y6⟩ := hsx
      have j1 : (j : Int) < (m : Int) := by omega
      have hws : IntKind.i64.wrap ((s0 : Int) + (cn : Int)) = ((s0 + cn : Nat) : Int) := by rw [IntKind.wrap_i64]; omega
      have HT := Lib.hid hT
      clear hq hsa hqp hPj hT hSr hop hnm hem htm hcn2 hdp hs0
      go_wp2_with (go_at_call 8; (with_reducible refine (CS.out _ (Below.refl _ _)).mono ?_); rintro e w4 ⟨rfl, hb⟩; have HB4 := Lib.hid (below_mono HR.out hb (Nat.le_refl _)); clear hb)
      go_roundw
      case rel => exact ⟨j + 1, by rw [HT.out, Int.natCast_add], by first | rfl | go_num, by omega, HB4⟩
      case measure => simp [intOf]; omega
    · obtain rfl : j = m := by omega
      have j1 : ¬ (j : Int) < (j : Int) := by omega
      have HT : Hid (P.take j = P) := Lib.hid (List.take_of_length_le (by rw [HM.out.2, List.length_map, HM.out.1]; exact Nat.le_refl _))
      go_wp2_with fail
      go_ret
      exact ⟨by rw [HT.out]; rfl, HR.out⟩
end Go.Proofs.Ythhimllddgfddaa
namespace Go.Proofs.Ythhimllddgfddaa
open Go.RowKit Go.PlainAid Go.Sort
set_option linter.unusedVariables false
set_option linter.unusedSimpArgs false
theorem KnAt.wide {B C : Nat} {ao : Option Addr} {l : List Kn} {w : World} (h : KnAt B ao l w) (k : B ≤ C) : KnAt C ao l w := ⟨h.there, fun a e hp => ⟨Nat.lt_of_lt_of_le (h.cells a e hp).1 k, fun i x hi => by
  obtain ⟨bo, m, co, n, h1, h2, h3, h4, h5⟩ := (h.cells a e hp).2 i x hi
  exact ⟨bo, m, co, n, h1, h2, h3, h4.wide k, h5.wide k⟩⟩⟩
/-- What Last gives, taken apart. -/
theorem LstP.parts {R : Nat → Prop} {ts : List Tr} {w w' : World} {e : Ending} (h : LstP R ts w e w') : Below w.heap.size w w' ∧ ((lastT ts = none ∧ e = .returned (.tuple #[.agg #[.int .i64 0, .string ⟨#[]⟩, .slice none 0 0, .slice none 0 0], .bool false])) ∨ ∃ (x : Tr) (eo : Option Addr) (ek : Nat) (tb : Option Addr) (tk : Nat) (xo : Int) (xn : ByteArray) (m1 m2 : Nat), (lastT ts = some x ∧ TrOk R w' x eo ek tb tk ∧ ∀ p pk q qk, trV x p pk q qk = .agg #[.int .i64 xo, .string xn, .slice p m1 pk, .slice q m2 qk]) ∧ e = .returned (.tuple #[.agg #[.int .i64 xo, .string xn, .slice eo m1 ek, .slice tb m2 tk], .bool true])) := by
  obtain ⟨h1, hb⟩ := h
  refine ⟨hb, ?_⟩
  cases hl : lastT ts with
  | none =>
    rw [hl] at h1
    exact .inl ⟨rfl, h1⟩
  | some x =>
    rw [hl] at h1
    obtain ⟨eo, ek, tb, tk, he, hok⟩ := h1
    exact .inr ⟨x, eo, ek, tb, tk, x.op, x.nm, x.exprs.length, x.terms.length, ⟨rfl, hok, fun _ _ _ _ => rfl⟩, he⟩
/-- What the law's last gives. -/
def LastQ (ts : List Tr) (w : World) (e : Ending) (w' : World) : Prop := (match lastT ts with
  | none => e = .returned (.tuple #[.agg #[.int .i64 0, .string ⟨#[]⟩, .slice none 0 0, .slice none 0 0], .bool false])
  | some x => ∃ eo ek tb tk, e = .returned (.tuple #[trV x eo ek tb tk, .bool x.flt.isNone]) ∧ TrOk (fun b => b < w'.heap.size) w' x eo ek tb tk) ∧ Below w.heap.size w w'
set_option maxRecDepth 100000 in
set_option maxHeartbeats 8000000 in
theorem last23_any {ls : List Lf} {ks : List Kn} {ao co : Option Addr} {cap kap : Nat} (w : World) (hl : LfAt w.heap.size ao ls w) (hk : KnAt w.heap.size co ks w) (hfl : ∀ f ∈ ls, f.nm.size ≤ maxLen) (hfk : ∀ f ∈ ks, f.nm.size ≤ maxLen) (hg1 : ls.length ≤ 60) (hg2 : ks.length ≤ 60) :
    Calls Try.prog 7 #[.slice ao ls.length cap, .slice co ks.length kap] w (LastQ (bTs (bXs ls) ks) w) := by
  have CB : Hid (∀ W, Below w.heap.size w W → Calls Try.prog 16 #[.slice ao ls.length cap, .slice co ks.length kap] W (BuildP W (bXs ls) (bTs (bXs ls) ks))) := Lib.hid fun W hW => rbuild_any (cap := cap) (kap := kap) W ((hl.under hW).wide hW.size) ((hk.under hW).wide hW.size) hg1 hg2
  have hxf := bXs_fit ls hfl ls.length (Nat.le_refl _)
  rw [List.take_length] at hxf
  have htl := bTs_len (bXs ls) ks ks.length (Nat.le_refl _)
  have htf := bTs_fit (bXs ls) hxf ks hfk ks.length (Nat.le_refl _)
  rw [List.take_length] at htl htf
  obtain ⟨xs, hxs⟩ : ∃ xs, xs = bXs ls := ⟨_, rfl⟩
  rw [← hxs] at CB htl htf ⊢
  obtain ⟨ts, hts⟩ : ∃ ts, ts = bTs xs ks := ⟨_, rfl⟩
  rw [← hts] at CB htl htf ⊢
  obtain ⟨n, hn⟩ : ∃ n, n = ls.length := ⟨_, rfl⟩
  obtain ⟨m, hm⟩ : ∃ n, n = ks.length := ⟨_, rfl⟩
  rw [← hn, ← hm] at CB ⊢
  obtain ⟨L, hL⟩ : ∃ L, L = xs.length := ⟨_, rfl⟩
  obtain ⟨L2, hL2⟩ : ∃ L, L = ts.length := ⟨_, rfl⟩
  have HLX := Lib.hid hL.symm
  have HLT := Lib.hid hL2.symm
  have HTF := Lib.hid htf
  have H60 : Hid (ts.length ≤ 60) := Lib.hid (by omega)
  have GZ := Lib.hid (four_madeT (.int .i64 0) (.string ⟨#[]⟩) (.slice none 0 0) (.slice none 0 0) 32 w)
  clear hg1 hg2 hl hk hfl hfk hxf htl htf hxs hts hn hm hL hL2
  go_enter Try.func7, Try.ntmps7
  go_upto_region 1 with fail
  obtain ⟨z, hz⟩ : ∃ z, z = w.heap.size := ⟨_, rfl⟩
  obtain ⟨WZ, hWZ⟩ : ∃ X, w.alloc (.cells #[.int .i64 0, .string ⟨#[]⟩, .slice none 0 0, .slice none 0 0] 32) = X := ⟨_, rfl⟩
  obtain ⟨g1, b1, s1⟩ := GZ.out WZ hWZ
  rw [hWZ, ← hz]
  rw [← hz] at b1 s1
  have HG0 : Hid (Below w.heap.size w WZ ∧ WZ.heap.size = z + 1 ∧ w.heap.size ≤ z) := Lib.hid ⟨g1, s1, by omega⟩
  have HZA : Hid (∀ V, Below WZ.heap.size WZ V → V.heap[z]? = some (.cells #[.int .i64 0, .string ⟨#[]⟩, .slice none 0 0, .slice none 0 0] 32 (0, 0))) := Lib.hid fun V hV => (hV.block z (by omega)).trans b1
  have CB2 := Lib.hid (CB.out WZ g1)
  clear g1 b1 s1 hWZ GZ hz CB
  go_upto_region 2 with (first
    | (go_at_call 16; (with_reducible refine CB2.out.mono ?_); rintro e w1 ⟨R, a0, a1, a2, a3, a4, a5, c0, c1, c2, c3, c4, c5, he, hbt, hR, hcs, hb⟩; obtain rfl : e = Ending.returned (.agg #[.slice a0 L c0, .slice a1 L c1, .slice a2 L c2, .slice a3 L2 c3, .slice a4 L2 c4, .slice a5 L2 c5]) := (by rw [he]; unfold treeV; rw [HLX.out, HLT.out]); have HBT := Lib.hid hbt; have HRL := Lib.hid hR; have HB1 := Lib.hid hb; have CL : Hid (Calls Try.prog 17 #[.agg #[.slice a0 L c0, .slice a1 L c1, .slice a2 L c2, .slice a3 L2 c3, .slice a4 L2 c4, .slice a5 L2 c5]] w1 (LstP R ts w1)) := (by have := Lib.hid (rlast_any (c0 := c0) (c1 := c1) (c2 := c2) (c3 := c3) (c4 := c4) (c5 := c5) w1 (fun b h => (hR b h).2) hbt H60.out HTF.out); unfold treeV at this; rw [HLX.out, HLT.out] at this; exact this); clear he hbt hR hb hcs)
    | (go_at_call 17; (with_reducible refine CL.out.mono ?_); rintro e w2 hP; obtain ⟨hb, hcase⟩ := LstP.parts hP; clear hP; have HB2 := Lib.hid hb; clear hb; obtain ⟨⟨r0, r1, r2, r3⟩, p0, p1, p2, p3⟩ := new_zero w2 (.int .i64 0) (.string ⟨#[]⟩) (.slice none 0 0) (.slice none 0 0) 32; rcases hcase with ⟨hla, rfl⟩ | ⟨x, eo, ek, tb, tk, xo, xn, m1, m2, hh, rfl⟩))
  · skip
    clear r0 r1 r2 r3 p0 p1 p2 p3 CL CB2
    obtain ⟨W4, hW4⟩ : ∃ X, w2.alloc (.cells #[.int .i64 0, .string ⟨#[]⟩, .slice none 0 0, .slice none 0 0] 32) = X := ⟨_, rfl⟩
    obtain ⟨k4, b4, s4⟩ := four_madeT _ _ _ _ _ w2 W4 hW4
    obtain ⟨y, hy⟩ : ∃ y, y = w2.heap.size := ⟨_, rfl⟩
    rw [hW4, ← hy]
    rw [← hy] at b4
    have HB4 := Lib.hid (below_mono (below_mono HB1.out HB2.out (Nat.le_refl _)) k4 (Nat.le_refl _))
    have HX4 := Lib.hid b4
    have HLA := Lib.hid hla
    obtain ⟨e0, e1, e2, e3⟩ := quad b4
    clear hW4 k4 b4 s4 hy hla
    obtain ⟨d0, d1, d2, d3⟩ := quad (HZA.out W4 HB4.out)
    have p0 : (W4).frozen? ⟨z, 0, none⟩ = false := free_blk (HZA.out W4 HB4.out) 0
    have p1 : (W4).frozen? ⟨z, 1, none⟩ = false := free_blk (HZA.out W4 HB4.out) 1
    have p2 : (W4).frozen? ⟨z, 2, none⟩ = false := free_blk (HZA.out W4 HB4.out) 2
    have p3 : (W4).frozen? ⟨z, 3, none⟩ = false := free_blk (HZA.out W4 HB4.out) 3
    have hun : undef = Value.tuple #[] := rfl
    first | go_region_with (fail) | fail
    all_goals
      go_wp2_with fail
      have HS10 := Lib.hid (four_set W4 z (.int .i64 0) (.string ⟨#[]⟩) (.slice none 0 0) (.slice none 0 0) _ _ ⟨_, _, _, _, rfl⟩ (HZA.out W4 HB4.out))
      clear d0 d1 d2 d3 p0 p1 p2 p3
      obtain ⟨W10, hW10⟩ : ∃ Y, (((W4.setCell ⟨z, 0, none⟩ (.int .i64 0)).setCell ⟨z, 1, none⟩ (.string ⟨#[]⟩)).setCell ⟨z, 2, none⟩ (.slice none 0 0)).setCell ⟨z, 3, none⟩ (.slice none 0 0) = Y := ⟨_, rfl⟩
      rw [hW10]
      obtain ⟨k10, h10, s10, x10⟩ := HS10.out W10 hW10
      obtain ⟨u0, u1, u2, u3⟩ := quad (w := W10.drew) x10
      exact bodyPost_ret (v := .tuple #[.agg #[.int .i64 0, .string ⟨#[]⟩, .slice none 0 0, .slice none 0 0], .bool false]) (by simp [results, Try.results7, go_sem, u0, u1, u2, u3]) rfl ⟨by rw [HLA.out], ((below_mono HG0.out.1 HB4.out (Nat.le_refl _)).trans (k10 _ (by have := HG0.out.2.2; omega))).drew⟩
  · skip
    clear r0 r1 r2 r3 p0 p1 p2 p3 CL CB2
    obtain ⟨hla, hok, hxe⟩ := hh
    obtain ⟨W4, hW4⟩ : ∃ X, w2.alloc (.cells #[.int .i64 xo, .string xn, .slice eo m1 ek, .slice tb m2 tk] 32) = X := ⟨_, rfl⟩
    obtain ⟨k4, b4, s4⟩ := four_madeT _ _ _ _ _ w2 W4 hW4
    obtain ⟨y, hy⟩ : ∃ y, y = w2.heap.size := ⟨_, rfl⟩
    rw [hW4, ← hy]
    rw [← hy] at b4
    have HB24 := Lib.hid (below_mono HB2.out k4 (Nat.le_refl _))
    have HB4 := Lib.hid (below_mono HB1.out HB24.out (Nat.le_refl _))
    have hRw : ∀ b, R b → b < w1.heap.size := fun b hb => (HRL.out b hb).2
    have hRz : ∀ b, R b → z < b := fun b hb => by have := (HRL.out b hb).1; have := HG0.out.2.1; omega
    have HOK4 : Hid (TrOk R W4 x eo ek tb tk) := Lib.hid (hok.stay (fun _ h => h) fun b hb => k4.block b (Nat.lt_of_lt_of_le (hRw b hb) HB2.out.size))
    obtain ⟨bn, hbn⟩ : ∃ b, b = x.flt.isNone := ⟨_, rfl⟩
    have hrp := trgt_parts (lastT_some hla).2.1
    have CF : Hid (∀ V, Below W4.heap.size W4 V → Calls Try.prog 18 #[.agg #[.int .i64 xo, .string xn, .slice eo m1 ek, .slice tb m2 tk]] V fun e w' => e = .returned (.bool bn) ∧ Below V.heap.size V w') := Lib.hid fun V hV => by
      have := rfits_any (B := W4.heap.size) (S := R) (fun b hb => by have := hRw b hb; have := HB24.out.size; omega) x eo ek tb tk V hV.size hrp.2.2 (HOK4.out.next (fun b hb => by have := hRw b hb; have := HB24.out.size; omega) hV) (by have := hrp.1; omega)
      rw [hxe, ← hbn] at this
      exact this
    have HYX : Hid (∀ V, Below W4.heap.size W4 V → V.cell? ⟨y, 0, none⟩ = some (.int .i64 xo) ∧ V.cell? ⟨y, 1, none⟩ = some (.string xn) ∧ V.cell? ⟨y, 2, none⟩ = some (.slice eo m1 ek) ∧ V.cell? ⟨y, 3, none⟩ = some (.slice tb m2 tk)) := Lib.hid fun V hV => quad ((hV.block y (lt_of_heap b4)).trans b4)
    have hyz : ¬ y = z := by have := HG0.out.2.1; have := HB1.out.size; have := HB2.out.size; omega
    have hzy : ¬ z = y := fun e => hyz e.symm
    have HLA := Lib.hid (And.intro hla (And.intro hbn hxe))
    have HRW := Lib.hid (And.intro hRw hRz)
    have HBD : Hid (Below W4.heap.size W4 W4.drew) := Lib.hid (Below.refl W4.heap.size W4).drew
    clear hW4 k4 b4 s4 hy hla hok hxe hbn hrp hRw hRz
    go_upto_region 2 with fail
    go_region_held3 (fun w' => w'.cell? ⟨y, 0, none⟩ = some (.int .i64 xo) ∧ w'.cell? ⟨y, 1, none⟩ = some (.string xn) ∧ w'.cell? ⟨y, 2, none⟩ = some (.slice eo m1 ek) ∧ w'.cell? ⟨y, 3, none⟩ = some (.slice tb m2 tk))
      (first | exact HYX.out _ HB5.out | exact HYX.out _ HBD.out | (go_keep; done))
      ((go_at_call 18; (with_reducible refine (CF.out _ HBD.out).mono ?_); rintro e w5 ⟨rfl, hb⟩; have HB5 := Lib.hid (below_mono HBD.out hb (Nat.le_refl _)); clear hb; have hz5 := HZA.out w5 (below_mono HB4.out HB5.out (Nat.le_refl _)); obtain ⟨d0, d1, d2, d3⟩ := quad hz5; have p0 := free_blk hz5 0; have p1 := free_blk hz5 1; have p2 := free_blk hz5 2; have p3 := free_blk hz5 3; have HZ5 := Lib.hid hz5; clear hz5))
    go_wp2_with fail
    have HS10 := Lib.hid (four_set w5 z (.int .i64 xo) (.string xn) (.slice eo m1 ek) (.slice tb m2 tk) _ _ ⟨_, _, _, _, rfl⟩ HZ5.out)
    clear d0 d1 d2 d3 p0 p1 p2 p3
    obtain ⟨W10, hW10⟩ : ∃ Y, (((w5.setCell ⟨z, 0, none⟩ (.int .i64 xo)).setCell ⟨z, 1, none⟩ (.string xn)).setCell ⟨z, 2, none⟩ (.slice eo m1 ek)).setCell ⟨z, 3, none⟩ (.slice tb m2 tk) = Y := ⟨_, rfl⟩
    rw [hW10]
    obtain ⟨k10, h10, s10, x10⟩ := HS10.out W10 hW10
    obtain ⟨u0, u1, u2, u3⟩ := quad x10
    have hfin : LastQ ts w (.returned (.tuple #[.agg #[.int .i64 xo, .string xn, .slice eo m1 ek, .slice tb m2 tk], .bool bn])) W10 := by
      refine ⟨?_, ((below_mono HG0.out.1 (below_mono HB4.out HB5.out (Nat.le_refl _)) (Nat.le_refl _))).trans (k10 _ (by have := HG0.out.2.2; omega))⟩
      rw [HLA.out.1]
      refine ⟨eo, ek, tb, tk, by rw [HLA.out.2.1, HLA.out.2.2], HOK4.out.stay (fun b hb => ?_) fun b hb => ?_⟩
      · have h1 := HRW.out.1 b hb
        have h2 := HB24.out.size
        have h3 := HB5.out.size
        have h4 := HB2.out.size
        show b < W10.heap.size
        omega
      · have h1 := HRW.out.1 b hb
        have h2 := HRW.out.2 b hb
        have h3 := HB24.out.size
        exact (h10 b (by omega)).trans (HB5.out.block b (by omega))
    exact bodyPost_ret (v := .tuple #[.agg #[.int .i64 xo, .string xn, .slice eo m1 ek, .slice tb m2 tk], .bool bn]) (by simp [results, Try.results7, go_sem, u0, u1, u2, u3]) rfl hfin
end Go.Proofs.Ythhimllddgfddaa
namespace Go.Proofs.Ythhimllddgfddaa
open Go.RowKit Go.PlainAid Go.Sort
set_option linter.unusedVariables false
set_option linter.unusedSimpArgs false
theorem sumC_len : ∀ P : List Pt, P.length ≤ sumC P
  | [] => Nat.le_refl _
  | p :: t => by
    have h1 := p.t.cnt_eq
    have h2 := sumC_len t
    simp only [List.length_cons, sumC]
    omega
theorem okP_cnt {y : Pt} (h : OkP y) : y.t.cnt ≤ 200 := fts_zero h.1.1
/-- Parts in memory, all right. -/
structure PsA (w : World) (P : List Pt) (va : Option Addr) : Prop where
  lay : ∃ l : List Pp, l.map (·.p) = P ∧ PaA (fun b => b < w.heap.size) w l va
  ok : ∀ y ∈ P, OkP y
  few : sumC P ≤ 200
theorem PsA.next {w w' : World} {P : List Pt} {va : Option Addr} (h : PsA w P va) (k : Below w.heap.size w w') : PsA w' P va := by
  obtain ⟨⟨l, h1, h2⟩, h3, h4⟩ := h
  exact ⟨⟨l, h1, h2.next k⟩, h3, h4⟩
theorem right_ok {P : List Pt} {va : Option Addr} {vc m : Nat} (hm : m = P.length) (w : World) (h : PsA w P va) :
    Calls Try.prog 11 #[.slice va m vc] w fun e w' => e = .returned (.bool true) ∧ Below w.heap.size w w' := by
  obtain ⟨⟨l, h1, h2⟩, h3, h4⟩ := h
  have hl : l.length = P.length := by rw [← h1]; simp
  have hlen := sumC_len P
  have := rightL_any l va vc w (fun _ h => h) h2 (by omega) (fun q hq => (h3 q.p (by rw [← h1]; exact List.mem_map_of_mem hq)).2.2)
  rw [h1, rgt_all (fun y hy => (h3 y hy).1) (by omega), hl, ← hm] at this
  exact this
theorem size_ok {P : List Pt} {va : Option Addr} {vc m : Nat} (hm : m = P.length) (w : World) (h : PsA w P va) :
    Calls Try.prog 12 #[.slice va m vc] w fun e w' => e = .returned (.int .i64 (sumC P : Nat)) ∧ Below w.heap.size w w' := by
  obtain ⟨⟨l, h1, h2⟩, h3, h4⟩ := h
  have hl : l.length = P.length := by rw [← h1]; simp
  have hlen := sumC_len P
  have := sizeP_any l va vc w (fun _ h => h) h2 (by omega) (fun q hq => okP_cnt (h3 q.p (by rw [← h1]; exact List.mem_map_of_mem hq)))
  rw [h1, hl, ← hm] at this
  exact this
/-- What has come, as parts and flows in memory. -/
def CameA (g : Got) (e : Ending) (w' : World) : Prop := (g = none ∧ e = .returned (.tuple #[.slice none 0 0, .slice none 0 0, .int .i64 2])) ∨ ∃ (P : List Pt) (G : List Fw) (va : Option Addr) (vc m : Nat) (ga : Option Addr) (gc k : Nat), (g = some (P, G) ∧ m = P.length ∧ k = G.length ∧ PsA w' P va ∧ FlA (fun b => b < w'.heap.size) w' G ga ∧ m ≤ 200 ∧ ∀ f ∈ G, in64 f.n = true) ∧ e = .returned (.tuple #[.slice va m vc, .slice ga k gc, .int .i64 0])
theorem came_a {B : Nat} {g : Got} {e : Ending} {w' : World} (h : Came B g e w') (hg : ∀ P G, g = some (P, G) → (∀ y ∈ P, OkP y) ∧ sumC P ≤ 200 ∧ ∀ f ∈ G, in64 f.n = true) : CameA g e w' := by
  have h0 := came_pa h
  cases g with
  | none => exact .inl ⟨rfl, h0⟩
  | some x =>
    obtain ⟨P, G⟩ := x
    obtain ⟨l, va, vc, ga, gc, he, hm, h1, h2⟩ := h0
    obtain ⟨g1, g2, g3⟩ := hg P G rfl
    have hl : l.length = P.length := by rw [← hm]; simp
    have hlen := sumC_len P
    exact .inr ⟨P, G, va, vc, P.length, ga, gc, G.length, ⟨rfl, rfl, rfl, ⟨⟨l, hm, h1⟩, g1, g2⟩, h2, by omega, g3⟩, by rw [he, hl]⟩
theorem start_ok {F : List Fx} {day : Int} {a : Option Addr} {c : Nat} (hl : F.length ≤ 200) (hd : InR day) (hF : FxIn F) (x : Tr) (eo : Option Addr) (ek : Nat) (tb : Option Addr) (tk : Nat) (w : World) (hx : TrOk (fun b => b < w.heap.size) w x eo ek tb tk) (hfx : FxA (fun b => b < w.heap.size) a F w) (hft : x.fts = 0) (hfi : x.fine PX) (hf : x.fit ∧ x.thin ∧ x.dep ≤ 900) :
    Calls Try.prog 9 #[trV x eo ek tb tk, .agg #[.int .i64 day, .slice a F.length c]] w fun e w' => CameA (x.acq (evF F day) 1 false []) e w' ∧ Below w.heap.size w w' := by
  have hc := fts_zero hft
  have hdp : x.dep ≤ 16 := (trgt_parts (fts_parts hft).1).2.1
  refine (start_good (S := fun b => b < w.heap.size) (fa := a) (fc := c) (F := F) (day := day) (PE := PX) (ev := evF F day) (evG_any hl hd hF) (evG_in hd hF) x eo ek tb tk w (fun _ h => h) hx hfx (fun V hV => ?_) hfi (by omega) (by omega)).mono ?_
  · have := fitsOf_any x eo ek tb tk V (fun b hb => Nat.lt_of_lt_of_le hb hV.size) (hx.next (fun _ h => h) hV) hf.1 (by omega)
    rw [hft] at this
    exact this
  · rintro e w' ⟨h1, h2⟩
    exact ⟨came_a h1 fun P G hg => by
      have := came_all (evF F day) hft hfi hf hg
      exact ⟨this.1, by omega, this.2.2⟩, h2⟩
theorem step_ok2 {F : List Fx} {day : Int} {a : Option Addr} {c : Nat} (hl : F.length ≤ 200) (hd : InR day) (hF : FxIn F) {P : List Pt} {va : Option Addr} {vc m : Nat} (hm : m = P.length) (w : World) (h : PsA w P va) (hfx : FxA (fun b => b < w.heap.size) a F w) :
    Calls Try.prog 13 #[.slice va m vc, .agg #[.int .i64 day, .slice a F.length c]] w fun e w' => CameA (stp (evF F day) P) e w' ∧ Below w.heap.size w w' := by
  have hr : Hid (∀ V, Below w.heap.size w V → Calls Try.prog 11 #[.slice va m vc] V fun e w' => e = .returned (.bool true) ∧ Below V.heap.size V w') := Lib.hid fun V hV => right_ok hm V (h.next hV)
  obtain ⟨⟨l, h1, h2⟩, h3, h4⟩ := h
  have hln : l.length = P.length := by rw [← h1]; simp
  have hlen := sumC_len P
  rw [hm, ← hln] at hr ⊢
  have := step_good (S := fun b => b < w.heap.size) (fa := a) (fc := c) (F := F) (day := day) (PE := PX) (ev := evF F day) (evG_any hl hd hF) (evG_in hd hF) l va vc w (fun _ h => h) h2 hfx hr.out (fun q hq => (h3 q.p (by rw [← h1]; exact List.mem_map_of_mem hq)).2.1) (by rw [h1]; omega) (by omega)
  rw [h1] at this
  refine this.mono ?_
  rintro e w' ⟨k1, k2⟩
  exact ⟨came_a k1 fun Q G hg => by
    have := step_all (evF F day) h3 hg
    exact ⟨fun y hy => (this.1 y hy).1, by omega, this.2.2⟩, k2⟩
/-- What has come, its values by letters. -/
def Camed (g : Got) (en : Int) (m k : Nat) (va ga : Option Addr) (w' : World) : Prop := (g = none ∧ en = 2) ∨ ∃ (P : List Pt) (G : List Fw), g = some (P, G) ∧ en = 0 ∧ m = P.length ∧ k = G.length ∧ PsA w' P va ∧ FlA (fun b => b < w'.heap.size) w' G ga ∧ m ≤ 200 ∧ ∀ f ∈ G, in64 f.n = true
def CameB (g : Got) (e : Ending) (w' : World) : Prop := ∃ (va : Option Addr) (vc m : Nat) (ga : Option Addr) (gc k : Nat) (en : Int), e = .returned (.tuple #[.slice va m vc, .slice ga k gc, .int .i64 en]) ∧ Hid (Camed g en m k va ga w')
theorem came_b {g : Got} {e : Ending} {w' : World} (h : CameA g e w') : CameB g e w' := by
  rcases h with ⟨hg, he⟩ | ⟨P, G, va, vc, m, ga, gc, k, ⟨h1, h2, h3, h4, h5, h6, h7⟩, he⟩
  · exact ⟨none, 0, 0, none, 0, 0, 2, he, Lib.hid (.inl ⟨hg, rfl⟩)⟩
  · exact ⟨va, vc, m, ga, gc, k, 0, he, Lib.hid (.inr ⟨P, G, h1, rfl, h2, h3, h4, h5, h6, h7⟩)⟩
/-- What the law's last gives, taken apart. -/
theorem LastQ.parts {ts : List Tr} {w w' : World} {e : Ending} (h : LastQ ts w e w') : Below w.heap.size w w' ∧ ((lastT ts = none ∧ e = .returned (.tuple #[.agg #[.int .i64 0, .string ⟨#[]⟩, .slice none 0 0, .slice none 0 0], .bool false])) ∨ ∃ (x : Tr) (eo : Option Addr) (ek : Nat) (tb : Option Addr) (tk : Nat) (xo : Int) (xn : ByteArray) (m1 m2 : Nat) (bn : Bool), Hid (lastT ts = some x ∧ TrOk (fun b => b < w'.heap.size) w' x eo ek tb tk ∧ bn = x.flt.isNone ∧ ∀ p pk q qk, trV x p pk q qk = .agg #[.int .i64 xo, .string xn, .slice p m1 pk, .slice q m2 qk]) ∧ e = .returned (.tuple #[.agg #[.int .i64 xo, .string xn, .slice eo m1 ek, .slice tb m2 tk], .bool bn])) := by
  obtain ⟨h1, hb⟩ := h
  refine ⟨hb, ?_⟩
  cases hl : lastT ts with
  | none =>
    rw [hl] at h1
    exact .inl ⟨rfl, h1⟩
  | some x =>
    rw [hl] at h1
    obtain ⟨eo, ek, tb, tk, he, hok⟩ := h1
    exact .inr ⟨x, eo, ek, tb, tk, x.op, x.nm, x.exprs.length, x.terms.length, x.flt.isNone, Lib.hid ⟨rfl, hok, rfl, fun _ _ _ _ => rfl⟩, he⟩
/-- The last term of Build's, where it is right and fits. -/
theorem last_fine {ls : List Lf} {ks : List Kn} (h1 : ∀ f ∈ ls, f.nm.size ≤ maxLen) (h2 : ∀ f ∈ ls, InR f.n) (h3 : ∀ f ∈ ks, f.nm.size ≤ maxLen) (hl : ls.length ≤ 60) (hk : ks.length ≤ 60) {x : Tr} (hx : lastT (bTs (bXs ls) ks) = some x) (hn : x.flt.isNone = true) : x.rgt = true ∧ x.fts = 0 ∧ x.fine PX ∧ (x.fit ∧ x.thin ∧ x.dep ≤ 900) := by
  obtain ⟨ha, hr, _⟩ := lastT_some hx
  have hm := List.mem_of_getElem? ha
  have hft : x.fts = 0 := by
    unfold Tr.fts
    rw [if_pos hr]
    cases hf : x.flt with
    | none => rfl
    | some l => rw [hf] at hn; cases hn
  have hxf := bXs_fit ls h1 ls.length (Nat.le_refl _)
  have hxt := bXs_thin ls ls.length (Nat.le_refl _)
  rw [List.take_length] at hxf hxt
  have htf := bTs_fit (bXs ls) hxf ks h3 ks.length (Nat.le_refl _)
  have htt := bTs_thin (bXs ls) (fun x hx => ⟨(hxt x hx).1, by have := (hxt x hx).2; omega⟩) ks ks.length (Nat.le_refl _)
  rw [List.take_length] at htf htt
  exact ⟨hr, hft, bTs_fine h1 h2 (by omega) hm hft, htf x hm, (htt x hm).1, by have := (htt x hm).2; omega⟩
theorem boxes_made (e0 e1 f0 f1 : Value) (T : TypeId) (w : World) : ∀ W, (w.alloc (.cells #[e0, e1] T)).alloc (.cells #[f0, f1] T) = W → Below w.heap.size w W ∧ W.heap[w.heap.size]? = some (.cells #[e0, e1] T (0, 0)) ∧ W.heap[w.heap.size + 1]? = some (.cells #[f0, f1] T (0, 0)) ∧ W.heap.size = w.heap.size + 2 := by
  rintro W rfl
  obtain ⟨k1, b1, s1⟩ := two_made e0 e1 T w _ rfl
  obtain ⟨k2, b2, s2⟩ := two_made f0 f1 T (w.alloc (.cells #[e0, e1] T)) _ rfl
  exact ⟨below_mono k1 k2 (Nat.le_refl _), (k2.block _ (by omega)).trans b1, by rw [← s1]; exact b2, by omega⟩
end Go.Proofs.Ythhimllddgfddaa
namespace Go.Proofs.Ythhimllddgfddaa
open Go.ChangeShapes Go.WideShapes Go.RowKit Go.Deep Go.WideElems Go.Maps
set_option linter.unusedVariables false
set_option linter.unusedSimpArgs false
def tUsd : Tr := .mk 2 ⟨#[85, 83, 68]⟩ [] []
def tEur : Tr := .mk 2 ⟨#[69, 85, 82]⟩ [] []
def tWhen : Tr := .mk 7 ⟨#[]⟩ [xDay] [tEur]
def tBoth : Tr := .mk 4 ⟨#[]⟩ [] [tUsd, tWhen]
def evD (d : Int) (x : Xp) : Vl := x.evl (fun s => seenF d s []) d
theorem day_fit : xDay.fit := by
  simp [xDay, Xp.fit, Xp.fit.fits, maxLen, ByteArray.size]
theorem day_thin : xDay.thin := by
  simp [xDay, Xp.thin, Xp.thin.thins]
theorem day_wok (sn : ByteArray → Option Fx) (day : Int) : xDay.wok pOps sn day := by
  simp [xDay, Xp.wok, Xp.wok.woks, Xp.ev.evs, wokN, pOps]
theorem day_has : xDay.has = true := by decide +kernel
theorem day_0 : evD 0 xDay = ⟨2, 0, false⟩ := by
  unfold evD Xp.evl
  rw [if_pos day_has]
  rfl
theorem day_1 : evD 19723 xDay = ⟨2, 0, true⟩ := by
  unfold evD Xp.evl
  rw [if_pos day_has]
  rfl
theorem both_fts : tBoth.fts = 0 := by decide +kernel
theorem tboth_fit : tBoth.fit := by
  simp [tBoth, tUsd, tWhen, tEur, Tr.fit, Tr.fit.fits, maxLen, ByteArray.size, day_fit]
theorem twhen_fit : tWhen.fit := by
  simp [tWhen, tEur, Tr.fit, Tr.fit.fits, maxLen, ByteArray.size, day_fit]
theorem twhen_thin : tWhen.thin := by
  simp [tWhen, tEur, Tr.thin, Tr.thin.thins, day_thin]
theorem twhen_fine : tWhen.fine fun x => x = xDay := by
  simp [tWhen, tEur, Tr.fine, Tr.fine.fines, shp]
theorem tboth_fine : tBoth.fine fun x => x = xDay := by
  simp [tBoth, tUsd, tWhen, tEur, Tr.fine, Tr.fine.fines, shp]
theorem both_acq : tBoth.acq (evD 0) 1 false [] = some ([⟨1, false, [], tWhen⟩], [⟨⟨#[85, 83, 68]⟩, 1⟩]) := by
  have h1 : tUsd.acq (evD 0) 1 false [] = some ([], [⟨⟨#[85, 83, 68]⟩, 1⟩]) := by rw [Tr.acq_eq]; unfold acqN; simp [tUsd, Tr.op, Tr.nm]
  have h2 : tWhen.acq (evD 0) 1 false [] = some ([⟨1, false, [], tWhen⟩], []) := by rw [Tr.acq_eq]; unfold acqN; simp [tWhen, Tr.op, Tr.exprs, day_0]
  rw [Tr.acq_eq]
  unfold acqN
  simp only [tBoth, Tr.op, Tr.terms, List.map_cons, List.map_nil, List.headD_cons, List.getD_cons_succ, List.getD_cons_zero]
  simp [h1, h2, both]
theorem when_stp : stp (evD 19723) [⟨1, false, [], tWhen⟩] = some ([], [⟨⟨#[69, 85, 82]⟩, 1⟩]) := by
  have h1 : tEur.acq (evD 19723) 1 false [] = some ([], [⟨⟨#[69, 85, 82]⟩, 1⟩]) := by rw [Tr.acq_eq]; unfold acqN; simp [tEur, Tr.op, Tr.nm]
  have h2 : tWhen.acq (evD 19723) 1 false [] = some ([], [⟨⟨#[69, 85, 82]⟩, 1⟩]) := by rw [Tr.acq_eq]; unfold acqN; simp [tWhen, Tr.op, Tr.exprs, Tr.terms, day_1, h1]
  simp [stp, ovB, ovI, h2, both]
theorem when_rgt : rgtGo [⟨1, false, [], tWhen⟩] 0 = true := by decide +kernel
theorem evD_any (d : Int) : ∀ x, x = xDay → ∀ (S : Nat → Prop) (bo : Option Addr) (k : Nat) (V : World), (∀ b, S b → b < V.heap.size) → ExL S V x.args bo → x.args.length ≤ k → FxA S none [] V → Calls Try.prog 57 #[exV x bo k, .agg #[.int .i64 d, .slice none ([] : List Fx).length 0]] V fun e w' => e = .returned (vlV (evD d x)) ∧ Below V.heap.size V w' := by
  rintro x rfl S bo k V hS hx hk hfx
  exact evalOf_any (F := []) xDay bo k V hS hS pOps_worked (by simp) hk hx day_fit day_thin (by decide) (fun _ => day_wok _ _) hfx
theorem evD_in (d : Int) (hd : d = 0 ∨ d = 19723) : ∀ x, x = xDay → in64 (evD d x).n = true := by
  rintro x rfl
  rcases hd with rfl | rfl
  · rw [day_0]; decide
  · rw [day_1]; decide
/-- The example's term in memory. -/
theorem both_ok {w : World} {z e t a : Nat} (h0 : w.heap[z]? = some (.cells cDay 53 (0, 0))) (h2 : w.heap[e]? = some (.cells #[.int .i64 15, .int .i64 0, .string ⟨#[]⟩, .slice (some ⟨z, 0, none⟩) 2 2] 53 (0, 0))) (h3 : w.heap[t]? = some (.cells #[.int .i64 2, .string ⟨#[69, 85, 82]⟩, .slice none 0 0, .slice none 0 0] 32 (0, 0))) (h5 : w.heap[a]? = some (.cells #[.int .i64 2, .string ⟨#[85, 83, 68]⟩, .slice none 0 0, .slice none 0 0, .int .i64 7, .string ⟨#[]⟩, .slice (some ⟨e, 0, none⟩) 1 1, .slice (some ⟨t, 0, none⟩) 1 1] 32 (0, 0))) :
    TrOk (fun b => b < w.heap.size) w tBoth none 0 (some ⟨a, 0, none⟩) 2 := by
  have ea : ∀ g j, (⟨g, 0, none⟩ : Addr).add j = ⟨g, j, none⟩ := fun g j => by unfold Addr.add; split <;> simp_all
  have hx : ExL (fun b => b < w.heap.size) w [xDay] (some ⟨e, 0, none⟩) := fun _ => ⟨_, rfl, lt_of_heap h2, ExR.mk fun i u hu => by
    match i, hu with
    | 0, hu =>
      simp at hu
      subst hu
      rw [ea]
      exact ⟨some ⟨z, 0, none⟩, 2, by decide, ⟨cell_blk h2 0, cell_blk h2 1, cell_blk h2 2, cell_blk h2 3⟩, two_list (x := .mk 4 0 ⟨#[]⟩ []) (y := .mk 2 19723 ⟨#[]⟩ []) (lt_of_heap h0) h0 (Nat.le_refl _) (Nat.le_refl _) (no_list _ _ _) (no_list _ _ _)⟩⟩
  have ht : TrL (fun b => b < w.heap.size) w [tEur] (some ⟨t, 0, none⟩) := fun _ => ⟨_, rfl, lt_of_heap h3, TrR.mk fun i u hu => by
    match i, hu with
    | 0, hu =>
      simp at hu
      subst hu
      rw [ea]
      exact ⟨none, 0, none, 0, by decide, by decide, ⟨cell_blk h3 0, cell_blk h3 1, cell_blk h3 2, cell_blk h3 3⟩, no_list _ _ _, fun h => absurd rfl h⟩⟩
  refine ⟨by decide, by decide, no_list _ _ _, fun _ => ⟨_, rfl, lt_of_heap h5, TrR.mk fun i u hu => ?_⟩⟩
  rw [ea]
  match i, hu with
  | 0, hu =>
    simp [tBoth, Tr.terms] at hu
    subst hu
    exact ⟨none, 0, none, 0, by decide, by decide, ⟨cell_blk h5 0, cell_blk h5 1, cell_blk h5 2, cell_blk h5 3⟩, no_list _ _ _, fun h => absurd rfl h⟩
  | 1, hu =>
    simp [tBoth, Tr.terms] at hu
    subst hu
    exact ⟨some ⟨e, 0, none⟩, 1, some ⟨t, 0, none⟩, 1, by decide, by decide, ⟨cell_blk h5 4, cell_blk h5 5, cell_blk h5 6, cell_blk h5 7⟩, hx, ht⟩
theorem flow_one {w : World} {B : Nat} {gv : Value} {s : ByteArray} {n : Int} (h : w.ownsRow B 55 2 gv 1 (flatG [⟨s, n⟩])) : ∃ g c, gv = .slice (some ⟨g, 0, none⟩) 1 c ∧ g < w.heap.size ∧ B ≤ g ∧ w.cell? ⟨g, 0, none⟩ = some (.string s) ∧ w.cell? ⟨g, 1, none⟩ = some (.int .i64 n) := by
  rcases h.2 with ⟨hv, h0⟩ | ⟨b, cp, cur, hv, hb, hg, hc, _, hsz, htk⟩
  · omega
  · have hcell : ∀ k, k < 2 → w.cell? ⟨b, k, none⟩ = (flatG [⟨s, n⟩])[k]? := by
      intro k hk
      rw [cell_blk hg, ← htk, List.getElem?_take_of_lt (by omega)]
      simp
    exact ⟨b, cp, hv, lt_of_heap hg, hb, hcell 0 (by omega), hcell 1 (by omega)⟩
end Go.Proofs.Ythhimllddgfddaa
namespace Go.Proofs.Ythhimllddgfddaa
open Go.ChangeShapes Go.WideShapes Go.RowKit Go.Deep Go.WideElems Go.Maps
set_option linter.unusedVariables false
set_option linter.unusedSimpArgs false
theorem trip (o1 o2 o3 : Array Value) (T1 T2 T3 : TypeId) (w : World) : ∀ W, ((w.alloc (.cells o1 T1)).alloc (.cells o2 T2)).alloc (.cells o3 T3) = W → Below w.heap.size w W ∧ W.heap[w.heap.size]? = some (.cells o1 T1 (0, 0)) ∧ W.heap[w.heap.size + 1]? = some (.cells o2 T2 (0, 0)) ∧ W.heap[w.heap.size + 2]? = some (.cells o3 T3 (0, 0)) ∧ W.heap.size = w.heap.size + 3 := by
  rintro W rfl
  have k1 := (Below.refl w.heap.size w).alloc (Nat.le_refl _) (.cells o1 T1)
  have s1 : (w.alloc (.cells o1 T1)).heap.size = w.heap.size + 1 := by simp
  have k2 := (Below.refl (w.alloc (.cells o1 T1)).heap.size (w.alloc (.cells o1 T1))).alloc (Nat.le_refl _) (.cells o2 T2)
  have s2 : ((w.alloc (.cells o1 T1)).alloc (.cells o2 T2)).heap.size = w.heap.size + 2 := by simp
  have k3 := (Below.refl ((w.alloc (.cells o1 T1)).alloc (.cells o2 T2)).heap.size ((w.alloc (.cells o1 T1)).alloc (.cells o2 T2))).alloc (Nat.le_refl _) (.cells o3 T3)
  refine ⟨below_mono (below_mono k1 k2 (Nat.le_refl _)) k3 (Nat.le_refl _), ?_, ?_, ?_, by simp⟩
  · exact (k3.block _ (by omega)).trans ((k2.block _ (by omega)).trans (heap_alloc_new w _))
  · refine (k3.block _ (by omega)).trans ?_
    rw [← s1]
    exact heap_alloc_new _ _
  · rw [← s2]
    exact heap_alloc_new _ _
theorem one_part {l : List Pp} {x : Pt} (h : l.map (·.p) = [x]) : ∃ q, l = [q] ∧ q.p = x := by
  match l, h with
  | [q], h => simp at h; exact ⟨q, rfl, h⟩
set_option maxRecDepth 100000 in
set_option maxHeartbeats 8000000 in
theorem awake_any (w : World) : Calls Try.prog 6 #[] w fun e w' => e = .returned (.bool true) ∧ Below w.heap.size w w' := by
  have GA := Lib.hid (list_box cDay (.int .i64 15) (.int .i64 0) (.string ⟨#[]⟩) (.slice (some ⟨w.heap.size, 0, none⟩) 2 2) 53 w)
  have hun : undef = Value.tuple #[] := rfl
  go_enter Try.func6, Try.ntmps6
  obtain ⟨⟨r0, r1, r2, r3⟩, p0, p1, p2, p3⟩ := new_zero (w.alloc (.cells cDay 53)) (.int .i64 0) (.int .i64 0) (.string ⟨#[]⟩) (.slice none 0 0) 53
  go_upto_region 2 with fail
  clear r0 r1 r2 r3 p0 p1 p2 p3
  obtain ⟨z, hz⟩ : ∃ z, z = w.heap.size := ⟨_, rfl⟩
  rw [← hz] at GA
  rw [← hz]
  obtain ⟨W1, hW1⟩ : ∃ X, (w.alloc (.cells cDay 53)).alloc (.cells #[.int .i64 15, .int .i64 0, .string ⟨#[]⟩, .slice (some ⟨z, 0, none⟩) 2 2] 53) = X := ⟨_, rfl⟩
  obtain ⟨g1, b1, b2, sz1⟩ := GA.out W1 hW1
  rw [hW1]
  have HG1 : Hid (Below w.heap.size w W1 ∧ W1.heap[z]? = some (.cells cDay 53 (0, 0)) ∧ W1.heap[z + 1]? = some (.cells #[.int .i64 15, .int .i64 0, .string ⟨#[]⟩, .slice (some ⟨z, 0, none⟩) 2 2] 53 (0, 0)) ∧ z = w.heap.size ∧ W1.heap.size = z + 2) := Lib.hid ⟨hz ▸ g1, b1, b2, hz, sz1⟩
  clear g1 b1 b2 sz1 hW1 GA hz
  obtain ⟨l0, l1, l2, l3⟩ := quad HG1.out.2.2.1
  have GB := Lib.hid (trip #[.int .i64 15, .int .i64 0, .string ⟨#[]⟩, .slice (some ⟨z, 0, none⟩) 2 2] #[.int .i64 2, .string ⟨#[69, 85, 82]⟩, .slice none 0 0, .slice none 0 0] #[.int .i64 7, .string ⟨#[]⟩, .slice (some ⟨W1.heap.size, 0, none⟩) 1 1, .slice (some ⟨W1.heap.size + 1, 0, none⟩) 1 1] 53 32 32 W1)
  obtain ⟨⟨r0, r1, r2, r3⟩, p0, p1, p2, p3⟩ := new_zero ((W1.alloc (.cells #[.int .i64 15, .int .i64 0, .string ⟨#[]⟩, .slice (some ⟨z, 0, none⟩) 2 2] 53)).alloc (.cells #[.int .i64 2, .string ⟨#[69, 85, 82]⟩, .slice none 0 0, .slice none 0 0] 32)) (.int .i64 0) (.string ⟨#[]⟩) (.slice none 0 0) (.slice none 0 0) 32
  go_upto_region 3 with fail
  clear r0 r1 r2 r3 p0 p1 p2 p3 l0 l1 l2 l3
  obtain ⟨y, hy⟩ : ∃ y, y = W1.heap.size := ⟨_, rfl⟩
  rw [← hy] at GB
  rw [← hy]
  obtain ⟨W2, hW2⟩ : ∃ X, ((W1.alloc (.cells #[.int .i64 15, .int .i64 0, .string ⟨#[]⟩, .slice (some ⟨z, 0, none⟩) 2 2] 53)).alloc (.cells #[.int .i64 2, .string ⟨#[69, 85, 82]⟩, .slice none 0 0, .slice none 0 0] 32)).alloc (.cells #[.int .i64 7, .string ⟨#[]⟩, .slice (some ⟨y, 0, none⟩) 1 1, .slice (some ⟨y + 1, 0, none⟩) 1 1] 32) = X := ⟨_, rfl⟩
  obtain ⟨g1, b1, b2, b3, sz1⟩ := GB.out W2 hW2
  rw [hW2]
  rw [hy] at g1
  have HG2 : Hid (Below w.heap.size w W2 ∧ W2.heap[z]? = some (.cells cDay 53 (0, 0)) ∧ W2.heap[y]? = some (.cells #[.int .i64 15, .int .i64 0, .string ⟨#[]⟩, .slice (some ⟨z, 0, none⟩) 2 2] 53 (0, 0)) ∧ W2.heap[y + 1]? = some (.cells #[.int .i64 2, .string ⟨#[69, 85, 82]⟩, .slice none 0 0, .slice none 0 0] 32 (0, 0)) ∧ W2.heap[y + 2]? = some (.cells #[.int .i64 7, .string ⟨#[]⟩, .slice (some ⟨y, 0, none⟩) 1 1, .slice (some ⟨y + 1, 0, none⟩) 1 1] 32 (0, 0))) := Lib.hid ⟨below_mono HG1.out.1 g1 (Nat.le_refl _), (g1.block z (lt_of_heap HG1.out.2.1)).trans HG1.out.2.1, b1, b2, b3⟩
  clear g1 b1 b2 b3 sz1 hW2 GB hy
  obtain ⟨l0, l1, l2, l3⟩ := quad HG2.out.2.2.2.2
  have CA : Hid (∀ V, W2.alloc (.cells #[.int .i64 2, .string ⟨#[85, 83, 68]⟩, .slice none 0 0, .slice none 0 0, .int .i64 7, .string ⟨#[]⟩, .slice (some ⟨y, 0, none⟩) 1 1, .slice (some ⟨y + 1, 0, none⟩) 1 1] 32) = V → Calls Try.prog 9 #[.agg #[.int .i64 4, .string ⟨#[]⟩, .slice none 0 0, .slice (some ⟨W2.heap.size, 0, none⟩) 2 2], .agg #[.int .i64 0, .slice none 0 0]] V fun e w' => Came V.heap.size (some ([⟨1, false, [], tWhen⟩], [⟨⟨#[85, 83, 68]⟩, 1⟩])) e w' ∧ Below w.heap.size w w') := Lib.hid (by
    rintro V hV
    have k : Below W2.heap.size W2 V := by rw [← hV]; exact (Below.refl _ _).alloc (Nat.le_refl _) _
    have x5 : V.heap[W2.heap.size]? = some (.cells #[.int .i64 2, .string ⟨#[85, 83, 68]⟩, .slice none 0 0, .slice none 0 0, .int .i64 7, .string ⟨#[]⟩, .slice (some ⟨y, 0, none⟩) 1 1, .slice (some ⟨y + 1, 0, none⟩) 1 1] 32 (0, 0)) := by rw [← hV]; exact heap_alloc_new W2 _
    have keep : ∀ {b : Nat} {o : Obj}, W2.heap[b]? = some o → V.heap[b]? = some o := fun hb => (k.block _ (lt_of_heap hb)).trans hb
    obtain ⟨h1, h2, h3, h4, h5⟩ := HG2.out
    have hok := both_ok (keep h2) (keep h3) (keep h4) x5
    have hS : ∀ b, (fun b => b < V.heap.size) b → b < V.heap.size := fun b h => h
    have hs := start_good (F := []) (fa := none) (fc := 0) (day := 0) (PE := fun x => x = xDay) (ev := evD 0) (evD_any 0) (evD_in 0 (.inl rfl)) tBoth none 0 (some ⟨W2.heap.size, 0, none⟩) 2 V hS hok (fun h => absurd rfl h) (fun U hU => by
      have := fitsOf_any tBoth none 0 (some ⟨W2.heap.size, 0, none⟩) 2 U (fun b hb => Nat.lt_of_lt_of_le (hS b hb) hU.size) (hok.next hS hU) tboth_fit (by decide)
      rw [both_fts] at this
      exact this) tboth_fine (by decide) (by decide)
    rw [both_acq] at hs
    refine hs.mono ?_
    rintro e w' ⟨hc, hb⟩
    exact ⟨hc, below_mono (below_mono h1 k (Nat.le_refl _)) hb (Nat.le_refl _)⟩)
  go_upto_region 4 with (go_at_call 9; (with_reducible refine (CA.out _ rfl).mono ?_); rintro e w4 ⟨⟨lp, pv, gv, rfl, hlp, hpr, hgr, hpg, hqp⟩, hb⟩; have HB4 := Lib.hid hb; have HLP := Lib.hid (And.intro hlp (And.intro hpr (And.intro hgr hqp))); clear hb hlp hpr hgr hpg hqp)
  obtain ⟨hlp, hpr, hgr, hqp⟩ := HLP.out
  obtain ⟨q, hq1, hq2⟩ := one_part hlp
  subst hq1
  obtain ⟨va, vc, rfl⟩ := row_form hpr
  obtain ⟨g, gc, rfl, hg1, hg2, hg3, hg4⟩ := flow_one hgr
  have CS : Hid (Calls Try.prog 13 #[.slice va 1 vc, .agg #[.int .i64 19723, .slice none 0 0]] w4 fun e w' => Came w4.heap.size (some ([], [⟨⟨#[69, 85, 82]⟩, 1⟩])) e w' ∧ Below w4.heap.size w4 w') := Lib.hid (by
    have hS : ∀ b, (fun b => b < w4.heap.size) b → b < w4.heap.size := fun b h => h
    have hpa : PaA (fun b => b < w4.heap.size) w4 [q] va := PaA.of hpr (fun p hp => (hqp p hp).stay (fun b hb => hb.1) (fun _ _ => rfl)) (fun b hb => (row_own hpr hb).1)
    have hr := step_good (F := []) (fa := none) (fc := 0) (day := 19723) (PE := fun x => x = xDay) (ev := evD 19723) (evD_any 19723) (evD_in 19723 (.inr rfl)) [q] va vc w4 hS hpa (fun h => absurd rfl h) (fun V hV => by
      have := rightL_any [q] va vc V (fun b hb => Nat.lt_of_lt_of_le (hS b hb) hV.size) (hpa.stay (fun _ h => h) fun b hb => hV.block b hb) (by simp) (fun p hp => by
        rw [List.mem_singleton] at hp
        rw [hp, hq2]
        exact ⟨twhen_fit, twhen_thin, by decide, (fun x hx => by cases hx), by simp⟩)
      rw [show [q].map (·.p) = [⟨1, false, [], tWhen⟩] from by simp [hq2], when_rgt] at this
      exact this) (fun p hp => by
        rw [List.mem_singleton] at hp
        rw [hp, hq2]
        exact ⟨twhen_fine, by decide, (fun x hx => by cases hx), by simp, by decide⟩) (by rw [show [q].map (·.p) = [⟨1, false, [], tWhen⟩] from by simp [hq2]]; decide) (by simp)
    rw [show [q].map (·.p) = [⟨1, false, [], tWhen⟩] from by simp [hq2], when_stp] at hr
    exact hr)
  have HGL := Lib.hid (And.intro hg1 (And.intro hg3 hg4))
  clear hlp hpr hgr hqp hg1 hg2 hg3 hg4 HLP
  go_upto_region 5 with (go_at_call 13; (with_reducible refine CS.out.mono ?_); rintro e w5 ⟨⟨lq, pw, gw, rfl, hlq, hpr2, hgr2, hpg2, hqp2⟩, hb⟩; have HB5 := Lib.hid hb; have HLQ := Lib.hid (And.intro hlq (And.intro hpr2 hgr2)); clear hb hlq hpr2 hgr2 hpg2 hqp2)
  obtain ⟨hlq, hpr2, hgr2⟩ := HLQ.out
  have hq0 : lq = [] := by simpa using hlq
  subst hq0
  obtain ⟨va2, vc2, rfl⟩ := row_form hpr2
  obtain ⟨g2, gc2, rfl, hk1, hk2, hk3, hk4⟩ := flow_one hgr2
  have e0 : w5.cell? ⟨g, 0, none⟩ = some (.string ⟨#[85, 83, 68]⟩) := (HB5.out.cell (p := ⟨g, 0, none⟩) HGL.out.1).trans HGL.out.2.1
  have e1 : w5.cell? ⟨g, 1, none⟩ = some (.int .i64 1) := (HB5.out.cell (p := ⟨g, 1, none⟩) HGL.out.1).trans HGL.out.2.2
  have HBF := Lib.hid (below_mono HB4.out HB5.out (Nat.le_refl _))
  clear hlq hpr2 hgr2 hk1 hk2 HLQ
  go_wp2_with fail
  exact bodyPost_ret (v := .bool true) (by simp [results, Try.results6, go_sem]) rfl ⟨rfl, HBF.out⟩
end Go.Proofs.Ythhimllddgfddaa
namespace Go.Proofs.Ythhimllddgfddaa
open Go.RowKit Go.PlainAid Go.Sort
set_option linter.unusedVariables false
set_option linter.unusedSimpArgs false
set_option maxRecDepth 100000 in
set_option maxHeartbeats 16000000 in
theorem lifeRests_walk {ls : List Lf} {ks : List Kn} {ao co : Option Addr} {cap kap : Nat} {Ra Rb : Nat → Prop} {fo ho : Option Addr} {F G : List Fx} {fc hc : Nat} (dv dw : Int) (w : World) (hl : LfAt w.heap.size ao ls w) (hk : KnAt w.heap.size co ks w) (hfl : ∀ f ∈ ls, f.nm.size ≤ maxLen) (hfk : ∀ f ∈ ks, f.nm.size ≤ maxLen) (hfr : ∀ f ∈ ls, InR f.n) (hd : InR dv) (hF : FxIn F) (hfx : FxA Ra fo F w) (hR : ∀ b, Ra b → b < w.heap.size) (hd2 : InR dw) (hG : FxIn G) (hgx : FxA Rb ho G w) (hR2 : ∀ b, Rb b → b < w.heap.size) :
    Calls Try.prog 3 #[.slice ao ls.length cap, .slice co ks.length kap, .agg #[.int .i64 dv, .slice fo F.length fc], .agg #[.int .i64 dw, .slice ho G.length hc]] w fun e w' => e = .returned (.bool true) ∧ Below w.heap.size w w' := by
  have CA : Hid (∀ W, Calls Try.prog 6 #[] W fun e w' => e = .returned (.bool true) ∧ Below W.heap.size W w') := Lib.hid awake_any
  obtain ⟨r, hr⟩ : ∃ r, r = (decide (60 < ls.length) || (decide (60 < ks.length) || decide (60 < F.length))) := ⟨_, rfl⟩
  have CG : Hid (∀ V, Calls Try.prog 5 #[.slice ao ls.length cap, .slice co ks.length kap, .agg #[.int .i64 dv, .slice fo F.length fc]] V fun e w' => e = .returned (.bool r) ∧ Below V.heap.size V w') := Lib.hid fun V => great23_any ls.length ks.length F.length ao co fo cap kap fc dv V r hr
  have HGR : Hid (r = false → ls.length ≤ 60 ∧ ks.length ≤ 60 ∧ F.length ≤ 60) := Lib.hid fun h => by
    rw [h] at hr
    simp at hr
    omega
  have CLL : Hid (r = false → ∀ V, Below w.heap.size w V → Calls Try.prog 7 #[.slice ao ls.length cap, .slice co ks.length kap] V (LastQ (bTs (bXs ls) ks) V)) := Lib.hid fun h V hV => last23_any V ((hl.under hV).wide hV.size) ((hk.under hV).wide hV.size) hfl hfk (HGR.out h).1 (HGR.out h).2.1
  have HX : Hid (r = false → ∀ x, lastT (bTs (bXs ls) ks) = some x → x.flt.isNone = true → x.rgt = true ∧ x.fts = 0 ∧ x.fine PX ∧ (x.fit ∧ x.thin ∧ x.dep ≤ 900)) := Lib.hid fun h x h1 h2 => last_fine hfl hfr hfk (HGR.out h).1 (HGR.out h).2.1 h1 h2
  have CE1 : Hid (r = false → ∀ V, Below w.heap.size w V → Calls Try.prog 10 #[.agg #[.int .i64 dv, .slice fo F.length fc]] V fun e w' => (∃ a c, e = .returned (.agg #[.int .i64 dv, .slice a F.length c]) ∧ FxA (fun b => b < w'.heap.size) a F w') ∧ Below V.heap.size V w') := Lib.hid fun h V hV => by
    have h60 := (HGR.out h).2.2
    refine (env_any (cap := fc) dv V (hfx.stay (fun _ h => h) fun b hb => hV.block b (hR b hb)) (by omega) (fun b hb => Nat.lt_of_lt_of_le (hR b hb) hV.size)).mono ?_
    rintro e w' ⟨⟨a, c, h1, h2⟩, hb⟩
    exact ⟨⟨a, c, h1, h2.stay (fun b hb => hb.2) fun _ _ => rfl⟩, hb⟩
  have CE2 : Hid (G.length ≤ 60 → ∀ V, Below w.heap.size w V → Calls Try.prog 10 #[.agg #[.int .i64 dw, .slice ho G.length hc]] V fun e w' => (∃ a c, e = .returned (.agg #[.int .i64 dw, .slice a G.length c]) ∧ FxA (fun b => b < w'.heap.size) a G w') ∧ Below V.heap.size V w') := Lib.hid fun h V hV => by
    refine (env_any (cap := hc) dw V (hgx.stay (fun _ h => h) fun b hb => hV.block b (hR2 b hb)) (by omega) (fun b hb => Nat.lt_of_lt_of_le (hR2 b hb) hV.size)).mono ?_
    rintro e w' ⟨⟨a, c, h1, h2⟩, hb⟩
    exact ⟨⟨a, c, h1, h2.stay (fun b hb => hb.2) fun _ _ => rfl⟩, hb⟩
  have CS0 : Hid (r = false → ∀ (x : Tr) (eo : Option Addr) (ek : Nat) (tb : Option Addr) (tk : Nat) (V : World) (a : Option Addr) (c : Nat), x.fts = 0 → x.fine PX → (x.fit ∧ x.thin ∧ x.dep ≤ 900) → TrOk (fun b => b < V.heap.size) V x eo ek tb tk → FxA (fun b => b < V.heap.size) a F V → Calls Try.prog 9 #[trV x eo ek tb tk, .agg #[.int .i64 dv, .slice a F.length c]] V fun e w' => CameB (x.acq (evF F dv) 1 false []) e w' ∧ Below V.heap.size V w') := Lib.hid fun h x eo ek tb tk V a c h1 h2 h3 h4 h5 => (start_ok (by have := (HGR.out h).2.2; omega) hd hF x eo ek tb tk V h4 h5 h1 h2 h3).mono fun e w' ⟨k1, k2⟩ => ⟨came_b k1, k2⟩
  have CT0 : Hid (G.length ≤ 60 → ∀ (P : List Pt) (va : Option Addr) (vc m : Nat) (V : World) (a : Option Addr) (c : Nat), m = P.length → PsA V P va → FxA (fun b => b < V.heap.size) a G V → Calls Try.prog 13 #[.slice va m vc, .agg #[.int .i64 dw, .slice a G.length c]] V fun e w' => CameB (stp (evF G dw) P) e w' ∧ Below V.heap.size V w') := Lib.hid fun h P va vc m V a c h1 h2 h3 => (step_ok2 (by omega) hd2 hG h1 V h2 h3).mono fun e w' ⟨k1, k2⟩ => ⟨came_b k1, k2⟩
  obtain ⟨ev1, hev1⟩ : ∃ v, v = evF F dv := ⟨_, rfl⟩
  obtain ⟨ev2, hev2⟩ : ∃ v, v = evF G dw := ⟨_, rfl⟩
  rw [← hev1] at CS0
  rw [← hev2] at CT0
  obtain ⟨ts, hts⟩ : ∃ ts, ts = bTs (bXs ls) ks := ⟨_, rfl⟩
  rw [← hts] at CLL HX
  obtain ⟨n, hn⟩ : ∃ n, n = ls.length := ⟨_, rfl⟩
  obtain ⟨k, hk0⟩ : ∃ n, n = ks.length := ⟨_, rfl⟩
  obtain ⟨m, hm⟩ : ∃ n, n = F.length := ⟨_, rfl⟩
  obtain ⟨mg, hmg⟩ : ∃ n, n = G.length := ⟨_, rfl⟩
  rw [← hn, ← hk0] at CG CLL ⊢
  rw [← hm] at CG CE1 CS0 ⊢
  rw [← hmg] at CE2 CT0 ⊢
  have GB := Lib.hid (boxes_made (.int .i64 dv) (.slice fo m fc) (.int .i64 dw) (.slice ho mg hc) 26 w)
  have hun : undef = Value.tuple #[] := rfl
  clear HGR hr hl hk hfl hfk hfr hd hF hfx hR hd2 hG hgx hR2 hev1 hev2 hts hn hk0 hm hmg
  go_enter Try.func3, Try.ntmps3
  go_upto_region 1 with fail
  obtain ⟨z, hz⟩ : ∃ z, z = w.heap.size := ⟨_, rfl⟩
  obtain ⟨W, hW⟩ : ∃ X, (w.alloc (.cells #[.int .i64 dv, .slice fo m fc] 26)).alloc (.cells #[.int .i64 dw, .slice ho mg hc] 26) = X := ⟨_, rfl⟩
  have s1 : (w.alloc (.cells #[.int .i64 dv, .slice fo m fc] 26)).heap.size = w.heap.size + 1 := by simp
  obtain ⟨g1, b1, b2, s2⟩ := GB.out W hW
  rw [hW]
  try rw [s1]
  rw [← hz] at b1 b2 s2 ⊢
  have HG1 := Lib.hid g1
  have HBX : Hid (∀ V, Below W.heap.size W V → (V.cell? ⟨z, 0, none⟩ = some (.int .i64 dv) ∧ V.cell? ⟨z, 1, none⟩ = some (.slice fo m fc)) ∧ (V.cell? ⟨z + 1, 0, none⟩ = some (.int .i64 dw) ∧ V.cell? ⟨z + 1, 1, none⟩ = some (.slice ho mg hc))) := Lib.hid fun V hV => ⟨duo ((hV.block z (by omega)).trans b1), duo ((hV.block (z + 1) (by omega)).trans b2)⟩
  clear g1 b1 b2 s1 s2 hW hz GB
  obtain ⟨⟨e0, e1⟩, f0, f1⟩ := HBX.out W (Below.refl _ _)
  cases r with
  | true =>
    clear CLL HX CE1 CS0 CT0 CE2 f0 f1
    go_wp2_with (first | (go_at_call 5; (with_reducible refine (CG.out _).mono ?_); rintro e w1 ⟨rfl, hB⟩; have HB1 := Lib.hid (below_mono HG1.out hB (Nat.le_refl _)); clear hB) | (go_at_call 6; (with_reducible refine (CA.out _).mono ?_); rintro e W1 ⟨rfl, hB⟩; have HB := Lib.hid (below_mono HB1.out hB (Nat.le_refl _)); clear hB))
    go_ret
    exact ⟨rfl, HB.out⟩
  | false =>
    by_cases hgg : 60 < mg
    · have i1 : (60 : Int) < (mg : Int) := by omega
      clear CLL HX CE1 CS0 CT0 CE2 f0 f1
      go_wp2_with (first | (go_at_call 5; (with_reducible refine (CG.out _).mono ?_); rintro e w1 ⟨rfl, hB⟩; obtain ⟨⟨c0, c1⟩, f0, f1⟩ := HBX.out w1 hB; have HB1 := Lib.hid (below_mono HG1.out hB (Nat.le_refl _)); clear hB) | (go_at_call 6; (with_reducible refine (CA.out _).mono ?_); rintro e W1 ⟨rfl, hB⟩; have HB := Lib.hid (below_mono HB1.out hB (Nat.le_refl _)); clear hB))
      go_ret
      exact ⟨rfl, HB.out⟩
    · have i1 : ¬ (60 : Int) < (mg : Int) := by omega
      have CLQ := Lib.hid (CLL.out rfl)
      have HXQ := Lib.hid (HX.out rfl)
      have CE1Q := Lib.hid (CE1.out rfl)
      have CS0Q := Lib.hid (CS0.out rfl)
      have CE2Q := Lib.hid (CE2.out (by omega))
      have CT0Q := Lib.hid (CT0.out (by omega))
      clear f0 f1 hgg CLL HX CE1 CS0 CE2 CT0
      go_upto_region 3 with (go_at_call 5; (with_reducible refine (CG.out _).mono ?_); rintro e w1 ⟨rfl, hB⟩; obtain ⟨⟨c0, c1⟩, f0, f1⟩ := HBX.out w1 hB; have HBW1 := Lib.hid hB; have HB1 := Lib.hid (below_mono HG1.out hB (Nat.le_refl _)); clear hB)
      clear e0 e1 c0 c1 f0 f1 CG i1
      have CL1 := Lib.hid (CLQ.out w1 HB1.out)
      clear CLQ
      go_upto_region 4 with (go_at_call 7; (with_reducible refine CL1.out.mono ?_); rintro e w2 hP; obtain ⟨hb, hcase⟩ := LastQ.parts hP; clear hP; have HB2 := Lib.hid (below_mono HB1.out hb (Nat.le_refl _)); have HBW2 := Lib.hid (below_mono HBW1.out hb (Nat.le_refl _)); clear hb; obtain ⟨⟨r0, r1, r2, r3⟩, p0, p1, p2, p3⟩ := new_zero w2 (.int .i64 0) (.string ⟨#[]⟩) (.slice none 0 0) (.slice none 0 0) 32; rcases hcase with ⟨hla, rfl⟩ | ⟨x, eo, ek, tb, tk, xo, xn, m1, m2, bn, hh, rfl⟩)
      · skip
        clear r0 r1 r2 r3 p0 p1 p2 p3 CL1
        obtain ⟨W4, hW4⟩ : ∃ X, w2.alloc (.cells #[.int .i64 0, .string ⟨#[]⟩, .slice none 0 0, .slice none 0 0] 32) = X := ⟨_, rfl⟩
        obtain ⟨k4, b4, s4⟩ := four_madeT _ _ _ _ _ w2 W4 hW4
        rw [hW4]
        have HB4 := Lib.hid (below_mono HB2.out k4 (Nat.le_refl _))
        clear hW4 k4 b4 s4 hla
        go_wp2_with (go_at_call 6; (with_reducible refine (CA.out _).mono ?_); rintro e W1 ⟨rfl, hB⟩; have HB := Lib.hid (below_mono HB4.out hB (Nat.le_refl _)); clear hB)
        go_ret
        exact ⟨rfl, HB.out⟩
      · skip
        clear r0 r1 r2 r3 p0 p1 p2 p3 CL1
        obtain ⟨hla, hok, hbn, hxe⟩ := hh.out
        clear hh
        obtain ⟨W4, hW4⟩ : ∃ X, w2.alloc (.cells #[.int .i64 xo, .string xn, .slice eo m1 ek, .slice tb m2 tk] 32) = X := ⟨_, rfl⟩
        obtain ⟨k4, b4, s4⟩ := four_madeT _ _ _ _ _ w2 W4 hW4
        obtain ⟨y, hy⟩ : ∃ y, y = w2.heap.size := ⟨_, rfl⟩
        rw [hW4, ← hy]
        rw [← hy] at b4
        have HB4 := Lib.hid (below_mono HB2.out k4 (Nat.le_refl _))
        have HBW4 := Lib.hid (below_mono HBW2.out k4 (Nat.le_refl _))
        have HOK4 : Hid (TrOk (fun b => b < W4.heap.size) W4 x eo ek tb tk) := Lib.hid (hok.stay (fun b hb => Nat.lt_of_lt_of_le hb k4.size) fun b hb => k4.block b hb)
        have HYX : Hid (∀ V, Below W4.heap.size W4 V → V.cell? ⟨y, 0, none⟩ = some (.int .i64 xo) ∧ V.cell? ⟨y, 1, none⟩ = some (.string xn) ∧ V.cell? ⟨y, 2, none⟩ = some (.slice eo m1 ek) ∧ V.cell? ⟨y, 3, none⟩ = some (.slice tb m2 tk)) := Lib.hid fun V hV => quad ((hV.block y (lt_of_heap b4)).trans b4)
        have HLA := Lib.hid (And.intro hla (And.intro hbn hxe))
        clear hW4 k4 b4 s4 hy hok hla hbn hxe
        cases bn with
        | false =>
          go_wp2_with (go_at_call 6; (with_reducible refine (CA.out _).mono ?_); rintro e W1 ⟨rfl, hB⟩; have HB := Lib.hid (below_mono HB4.out hB (Nat.le_refl _)); clear hB)
          go_ret
          exact ⟨rfl, HB.out⟩
        | true =>
          obtain ⟨hla, hbn, hxe⟩ := HLA.out
          obtain ⟨hxr, hxt, hxf, hxb⟩ := HXQ.out x hla hbn.symm
          have hcn := fts_zero hxt
          have CZ : Hid (∀ V, Below W4.heap.size W4 V → Calls Try.prog 8 #[.agg #[.int .i64 xo, .string xn, .slice eo m1 ek, .slice tb m2 tk]] V fun e w' => e = .returned (.tuple #[.int .i64 x.cnt, .int .i64 x.dep]) ∧ Below V.heap.size V w') := Lib.hid fun V hV => by
            have h := HOK4.out.next (fun _ h => h) hV
            have := size_any x eo ek tb tk V (fun b hb => Nat.lt_of_lt_of_le hb hV.size) h.ec h.tc h.ex h.te (by omega)
            rw [hxe] at this
            exact this
          have CS : Hid (∀ V, Below W4.heap.size W4 V → ∀ a c, FxA (fun b => b < V.heap.size) a F V → Calls Try.prog 9 #[.agg #[.int .i64 xo, .string xn, .slice eo m1 ek, .slice tb m2 tk], .agg #[.int .i64 dv, .slice a m c]] V fun e w' => CameB (x.acq ev1 1 false []) e w' ∧ Below V.heap.size V w') := Lib.hid fun V hV a c hfa => by
            have h : TrOk (fun b => b < V.heap.size) V x eo ek tb tk := (HOK4.out.next (fun _ h => h) hV).stay (fun b hb => Nat.lt_of_lt_of_le hb hV.size) fun _ _ => rfl
            have := CS0Q.out x eo ek tb tk V a c hxt hxf hxb h hfa
            rw [hxe] at this
            exact this
          have HGOT : Hid (∀ P g, x.acq ev1 1 false [] = some (P, g) → sumC P ≤ x.cnt) := Lib.hid fun P g hg => (came_all ev1 hxt hxf hxb hg).2.1
          obtain ⟨got, hgot⟩ : ∃ g, g = x.acq ev1 1 false [] := ⟨_, rfl⟩
          obtain ⟨xc, hxc⟩ : ∃ g, g = x.cnt := ⟨_, rfl⟩
          obtain ⟨xd, hxd⟩ : ∃ g, g = x.dep := ⟨_, rfl⟩
          rw [← hgot] at CS HGOT
          rw [← hxc] at CZ HGOT hcn
          rw [← hxd] at CZ
          clear HLA hla hbn hxe hxr hxt hxf hxb hgot hxc hxd HXQ CS0Q HOK4
          obtain ⟨y0, y1, y2, y3⟩ := HYX.out W4 (Below.refl _ _)
          go_upto_region 7 with (go_at_call 8; (with_reducible refine (CZ.out _ (Below.refl _ _)).mono ?_); rintro e w5 ⟨rfl, hb⟩; have HB45 := Lib.hid hb; clear hb y0 y1 y2 y3)
          have HB := Lib.hid (Below.refl w5.heap.size w5)
          have HBD : Hid (Below w5.heap.size w5 w5.drew) := Lib.hid (Below.refl w5.heap.size w5).drew
          have HCELL : Hid (∀ V, Below w5.heap.size w5 V → (V.cell? ⟨z, 0, none⟩ = some (.int .i64 dv) ∧ V.cell? ⟨z, 1, none⟩ = some (.slice fo m fc)) ∧ (V.cell? ⟨y, 0, none⟩ = some (.int .i64 xo) ∧ V.cell? ⟨y, 1, none⟩ = some (.string xn) ∧ V.cell? ⟨y, 2, none⟩ = some (.slice eo m1 ek) ∧ V.cell? ⟨y, 3, none⟩ = some (.slice tb m2 tk))) := Lib.hid fun V hV => ⟨(HBX.out V (below_mono HBW4.out (below_mono HB45.out hV (Nat.le_refl _)) (Nat.le_refl _))).1, HYX.out V (below_mono HB45.out hV (Nat.le_refl _))⟩
          go_region_held3 (fun w' => (w'.cell? ⟨z, 0, none⟩ = some (.int .i64 dv) ∧ w'.cell? ⟨z, 1, none⟩ = some (.slice fo m fc)) ∧ (w'.cell? ⟨y, 0, none⟩ = some (.int .i64 xo) ∧ w'.cell? ⟨y, 1, none⟩ = some (.string xn) ∧ w'.cell? ⟨y, 2, none⟩ = some (.slice eo m1 ek) ∧ w'.cell? ⟨y, 3, none⟩ = some (.slice tb m2 tk)))
            (first | exact HCELL.out _ HB9.out | exact HCELL.out _ HB8.out | exact HCELL.out _ HBD.out)
            (first
              | (go_at_call 10; (with_reducible refine (CE1Q.out _ (below_mono HB4.out (below_mono HB45.out HBD.out (Nat.le_refl _)) (Nat.le_refl _))).mono ?_); rintro e w8 ⟨⟨a1, k1, rfl, hf1⟩, hb⟩; have HB8 := Lib.hid (below_mono HBD.out hb (Nat.le_refl _)); have HF1 := Lib.hid hf1; clear hb hf1)
              | (go_at_call 9; (with_reducible refine (CS.out _ (below_mono HB45.out HB8.out (Nat.le_refl _)) _ _ HF1.out).mono ?_); rintro e w9 ⟨⟨va, vc, mp, ga, gc, mf, en, rfl, hcm⟩, hb⟩; have HB9 := Lib.hid (below_mono HB8.out hb (Nat.le_refl _)); have HCM := hcm; clear hb hcm))
          have HW9 : Hid (Below w.heap.size w w9) := Lib.hid (below_mono HB4.out (below_mono HB45.out HB9.out (Nat.le_refl _)) (Nat.le_refl _))
          have HBX9 : Hid (∀ V, Below w9.heap.size w9 V → V.cell? ⟨z + 1, 0, none⟩ = some (.int .i64 dw) ∧ V.cell? ⟨z + 1, 1, none⟩ = some (.slice ho mg hc)) := Lib.hid fun V hV => (HBX.out V (below_mono HBW4.out (below_mono HB45.out (below_mono HB9.out hV (Nat.le_refl _)) (Nat.le_refl _)) (Nat.le_refl _))).2
          clear HB HBD HCELL HB8 HF1 HB9 HB45 HYX HBW4 HB4 HBX CZ CS CE1Q
          rcases HCM.out with ⟨hg, rfl⟩ | ⟨P, G1, hg, rfl, hm1, hm2, hps, hfl, hm3, hin⟩
          · clear hg
            go_wp2_with (go_at_call 6; (with_reducible refine (CA.out _).mono ?_); rintro e W1 ⟨rfl, hB⟩; have HB := Lib.hid (below_mono HW9.out hB (Nat.le_refl _)); clear hB)
            go_ret
            exact ⟨rfl, HB.out⟩
          · have hsp : sumC P ≤ xc := HGOT.out P G1 hg
            have hpok : ∀ y ∈ P, OkP y := hps.ok
            have hfew := hps.few
            have CR : Hid (∀ V, Below w9.heap.size w9 V → Calls Try.prog 11 #[.slice va mp vc] V fun e w' => e = .returned (.bool true) ∧ Below V.heap.size V w') := Lib.hid fun V hV => right_ok hm1 V (hps.next hV)
            have CZP : Hid (∀ V, Below w9.heap.size w9 V → Calls Try.prog 12 #[.slice va mp vc] V fun e w' => e = .returned (.int .i64 (sumC P : Nat)) ∧ Below V.heap.size V w') := Lib.hid fun V hV => size_ok hm1 V (hps.next hV)
            have CT : Hid (∀ V, Below w9.heap.size w9 V → ∀ a c, FxA (fun b => b < V.heap.size) a G V → Calls Try.prog 13 #[.slice va mp vc, .agg #[.int .i64 dw, .slice a mg c]] V fun e w' => CameB (stp ev2 P) e w' ∧ Below V.heap.size V w') := Lib.hid fun V hV a c hfa => CT0Q.out P va vc mp V a c hm1 (hps.next hV) hfa
            have HST : Hid (∀ Q g, stp ev2 P = some (Q, g) → stp ev2 Q = some (Q, []) ∧ sumC Q ≤ sumC P) := Lib.hid fun Q g hq => by
              have := step_all ev2 hpok hq
              exact ⟨stp_stays fun y hy => (this.1 y hy).2, this.2.1⟩
            obtain ⟨got2, hgot2⟩ : ∃ g, g = stp ev2 P := ⟨_, rfl⟩
            obtain ⟨sp, hsp2⟩ : ∃ s, s = sumC P := ⟨_, rfl⟩
            rw [← hgot2] at CT HST
            rw [← hsp2] at CZP HST hsp hfew
            have i2 : ¬ (xc : Int) < (sp : Int) := by omega
            clear hg hm1 hm2 hps hfl hin hpok hgot2 hsp2 HCM HGOT
            go_upto_region 12 with (first | (go_at_call 11; (with_reducible refine (CR.out _ (Below.refl _ _)).mono ?_); rintro e w10 ⟨rfl, hb⟩; have HB10 := Lib.hid hb; clear hb) | (go_at_call 12; (with_reducible refine (CZP.out _ HB10.out).mono ?_); rintro e w11 ⟨rfl, hb⟩; have HB11 := Lib.hid (below_mono HB10.out hb (Nat.le_refl _)); obtain ⟨f0, f1⟩ := HBX9.out _ HB11.out; clear hb))
            go_upto_region 13 with (first | (go_at_call 10; (with_reducible refine (CE2Q.out _ (below_mono HW9.out HB11.out (Nat.le_refl _))).mono ?_); rintro e w12 ⟨⟨a2, k2, rfl, hf2⟩, hb⟩; have HB12 := Lib.hid (below_mono HB11.out hb (Nat.le_refl _)); have HF2 := Lib.hid hf2; clear hb hf2) | (go_at_call 13; (with_reducible refine (CT.out _ HB12.out _ _ HF2.out).mono ?_); rintro e w13 ⟨⟨qa, qc, mq, g2a, g2c, mf2, en2, rfl, hcm⟩, hb⟩; have HB13 := Lib.hid (below_mono HB12.out hb (Nat.le_refl _)); have HCM2 := hcm; clear hb hcm))
            clear f0 f1
            have HW13 : Hid (Below w.heap.size w w13) := Lib.hid (below_mono HW9.out HB13.out (Nat.le_refl _))
            rcases HCM2.out with ⟨hg, rfl⟩ | ⟨Q, G2, hg, rfl, hn1, hn2, hqs, hql, hn3, hin2⟩
            · clear hg
              go_wp2_with (go_at_call 6; (with_reducible refine (CA.out _).mono ?_); rintro e W1 ⟨rfl, hB⟩; have HB := Lib.hid (below_mono HW13.out hB (Nat.le_refl _)); clear hB)
              go_ret
              exact ⟨rfl, HB.out⟩
            · obtain ⟨hst, hsq⟩ := HST.out Q G2 hg
              have CR2 : Hid (∀ V, Below w13.heap.size w13 V → Calls Try.prog 11 #[.slice qa mq qc] V fun e w' => e = .returned (.bool true) ∧ Below V.heap.size V w') := Lib.hid fun V hV => right_ok hn1 V (hqs.next hV)
              have CZQ : Hid (∀ V, Below w13.heap.size w13 V → Calls Try.prog 12 #[.slice qa mq qc] V fun e w' => e = .returned (.int .i64 (sumC Q : Nat)) ∧ Below V.heap.size V w') := Lib.hid fun V hV => size_ok hn1 V (hqs.next hV)
              have CT2 : Hid (∀ V, Below w13.heap.size w13 V → ∀ a c, FxA (fun b => b < V.heap.size) a G V → Calls Try.prog 13 #[.slice qa mq qc, .agg #[.int .i64 dw, .slice a mg c]] V fun e w' => (∃ (ra : Option Addr) (rc : Nat) (g3a : Option Addr) (g3c : Nat), e = .returned (.tuple #[.slice ra mq rc, .slice g3a 0 g3c, .int .i64 0]) ∧ Hid (∀ U, Below w'.heap.size w' U → Calls Try.prog 12 #[.slice ra mq rc] U fun e u' => e = .returned (.int .i64 (sumC Q : Nat)) ∧ Below U.heap.size U u')) ∧ Below V.heap.size V w') := Lib.hid fun V hV a c hfa => by
                have := CT0Q.out Q qa qc mq V a c hn1 (hqs.next hV) hfa
                rw [hst] at this
                refine this.mono ?_
                rintro e w' ⟨⟨ra, rc, mr, g3a, g3c, mg3, en3, he, hcs⟩, hb⟩
                refine ⟨?_, hb⟩
                rcases hcs.out with ⟨h0, _⟩ | ⟨R, G3, h0, h1, h2, h3, h4, _⟩
                · cases h0
                · injection h0 with h0
                  injection h0 with h5 h6
                  subst h5 h6
                  rw [h1, h3, h2, ← hn1] at he
                  exact ⟨ra, rc, g3a, g3c, he, Lib.hid fun U hU => size_ok hn1 U (h4.next hU)⟩
              obtain ⟨sq, hsq2⟩ : ∃ s, s = sumC Q := ⟨_, rfl⟩
              rw [← hsq2] at CZQ CT2 hsq
              have i3 : (sq : Int) ≤ (sp : Int) := by omega
              have HBX13 : Hid (∀ V, Below w13.heap.size w13 V → V.cell? ⟨z + 1, 0, none⟩ = some (.int .i64 dw) ∧ V.cell? ⟨z + 1, 1, none⟩ = some (.slice ho mg hc)) := Lib.hid fun V hV => HBX9.out V (below_mono HB13.out hV (Nat.le_refl _))
              have CZP2 : Hid (∀ V, Below w13.heap.size w13 V → Calls Try.prog 12 #[.slice va mp vc] V fun e w' => e = .returned (.int .i64 (sp : Nat)) ∧ Below V.heap.size V w') := Lib.hid fun V hV => CZP.out V (below_mono HB13.out hV (Nat.le_refl _))
              clear hg hn1 hn2 hqs hql hin2 hst hsq hsq2 HCM2 HST CR CZP CT HF2 HBX9 HB10 HB11 HB12 HB13
              obtain ⟨f0, f1⟩ := HBX13.out _ (Below.refl _ _)
              go_upto_region 16 with (first | (go_at_call 10; (with_reducible refine (CE2Q.out _ HW13.out).mono ?_); rintro e w14 ⟨⟨a3, k3, rfl, hf3⟩, hb⟩; have HB14 := Lib.hid hb; have HF3 := Lib.hid hf3; clear hb hf3) | (go_at_call 13; (with_reducible refine (CT2.out _ HB14.out _ _ HF3.out).mono ?_); rintro e w15 ⟨⟨ra, rc, g3a, g3c, rfl, hcz⟩, hb⟩; have HB15 := Lib.hid (below_mono HB14.out hb (Nat.le_refl _)); have CZR := hcz; have HB := Lib.hid (Below.refl w15.heap.size w15); clear hb hcz))
              clear f0 f1
              go_wp2_with (first
                | (go_at_call 11; (with_reducible refine (CR2.out _ (below_mono HB15.out HB.out (Nat.le_refl _))).mono ?_); rintro e w16 ⟨rfl, hb⟩; have HB := Lib.hid (below_mono HB.out hb (Nat.le_refl _)); clear hb)
                | (go_at_call 12; (with_reducible refine (CZQ.out _ (below_mono HB15.out HB.out (Nat.le_refl _))).mono ?_); rintro e w16 ⟨rfl, hb⟩; have HB := Lib.hid (below_mono HB.out hb (Nat.le_refl _)); clear hb)
                | (go_at_call 12; (with_reducible refine (CZP2.out _ (below_mono HB15.out HB.out (Nat.le_refl _))).mono ?_); rintro e w16 ⟨rfl, hb⟩; have HB := Lib.hid (below_mono HB.out hb (Nat.le_refl _)); clear hb)
                | (go_at_call 12; (with_reducible refine (CZR.out _ HB.out).mono ?_); rintro e w16 ⟨rfl, hb⟩; have HB := Lib.hid (below_mono HB.out hb (Nat.le_refl _)); clear hb)
                | (go_at_call 6; (with_reducible refine (CA.out _).mono ?_); rintro e W1 ⟨rfl, hB⟩; have HB := Lib.hid (below_mono HB.out hB (Nat.le_refl _)); clear hB))
              go_ret
              exact ⟨rfl, below_mono HW13.out (below_mono HB15.out HB.out (Nat.le_refl _)) (Nat.le_refl _)⟩
end Go.Proofs.Ythhimllddgfddaa
namespace Go.Proofs.Ythhimllddgfddaa
open Go.ChangeShapes Go.WideShapes Go.RowKit Go.Deep Go.WideElems Go.Maps
set_option linter.unusedVariables false
set_option linter.unusedSimpArgs false
theorem bel_drewR {B : Nat} {w w' : World} (h : Below B w w') (n : Nat) : Below B w (w'.drewN n) := ⟨h.os, h.tape, h.output, h.size, h.block⟩
theorem undrawR {w w' : World} (h : Below w.drew.heap.size w.drew w') : Below w.heap.size w w' := ⟨h.os, h.tape, h.output, h.size, h.block⟩
theorem wrap_neg {a b : Int} (h : a = -b) (ha : in64 a = true) : IntKind.i64.wrap (-b) = a := by
  unfold in64 at ha
  simp at ha
  rw [IntKind.wrap_i64]
  omega
set_option maxRecDepth 100000 in
set_option maxHeartbeats 16000000 in
theorem opposite_any {S : Nat → Prop} (la lb : List Pp) (G H : List Fw) (va vb ga gb : Option Addr) (vac vbc gac gbc : Nat) (w : World) (hS : ∀ b, S b → b < w.heap.size) (hab : Twos OpP (la.map (·.p)) (lb.map (·.p))) (hgh : Twos OpF G H) (ha : PaA S w la va) (hb : PaA S w lb vb) (hga : FlA S w G ga) (hgb : FlA S w H gb) (hl : la.length ≤ 1000) (hg : G.length ≤ 1000) (hok : ∀ q ∈ la, q.p.t.cnt < 1000 ∧ in64 q.p.f = true) (hin : ∀ f ∈ G, in64 f.n = true) :
    Calls Try.prog 15 #[.slice va la.length vac, .slice ga G.length gac, .slice vb lb.length vbc, .slice gb H.length gbc] w fun e w' => e = .returned (.bool true) ∧ Below w.heap.size w w' := by
  obtain ⟨m, hm⟩ : ∃ m, m = la.length := ⟨_, rfl⟩
  obtain ⟨n, hn⟩ : ∃ m, m = G.length := ⟨_, rfl⟩
  have hlb : lb.length = m := by rw [hm]; have := hab.1; simpa using this.symm
  have hlh : H.length = n := by rw [hn]; exact hgh.1.symm
  rw [hlb, hlh, ← hm, ← hn]
  have HP : Hid (∀ W, Below w.heap.size w W → PaA S W la va ∧ PaA S W lb vb) := Lib.hid fun W hW => ⟨ha.stay (fun _ h => h) fun b hb => hW.block b (hS b hb), hb.stay (fun _ h => h) fun b hb => hW.block b (hS b hb)⟩
  have HF : Hid (∀ W, Below w.heap.size w W → FlA S W G ga ∧ FlA S W H gb) := Lib.hid fun W hW => ⟨hga.stay (fun _ h => h) fun b hb => hW.block b (hS b hb), hgb.stay (fun _ h => h) fun b hb => hW.block b (hS b hb)⟩
  have HAB := Lib.hid (And.intro hab hgh)
  have HM := Lib.hid (And.intro hm (And.intro hn (And.intro hlb hlh)))
  have HS := Lib.hid hS
  have HOK := Lib.hid (And.intro hok hin)
  have hm9 : m ≤ 1000 := by omega
  have hn9 : n ≤ 1000 := by omega
  have hun : undef = Value.tuple #[] := rfl
  clear ha hb hga hgb hl hg hok hin hS hab hgh hm hn hlb hlh
  go_enter Try.func15, Try.ntmps15
  go_upto_region 4 with fail
  go_loopw [9] (fun v wr => ∃ j : Nat, j ≤ n ∧ v = .int .i64 j ∧ Hid (Below w.heap.size w wr)) (fun v _ => n - (intOf v).toNat)
  case atStart => exact ⟨0, by omega, rfl, Lib.hid (Below.refl _ _)⟩
  case round =>
    obtain ⟨j, hj, rfl, HR⟩ := hrel
    have j0 : (0 : Int) ≤ (j : Int) := by omega
    by_cases hlt : j < n
    · obtain ⟨f, hf⟩ : ∃ f, G[j]? = some f := ⟨_, List.getElem?_eq_getElem (by rw [← HM.out.2.1]; exact hlt)⟩
      obtain ⟨g, hg⟩ : ∃ f, H[j]? = some f := ⟨_, List.getElem?_eq_getElem (by rw [HM.out.2.2.2]; exact hlt)⟩
      obtain ⟨a, rfl, hsa, y0, y1⟩ := (HF.out wr HR.out).1 j f hf
      obtain ⟨a', rfl, hsa', z0, z1⟩ := (HF.out wr HR.out).2 j g hg
      have hop := HAB.out.2.2 j f g hf hg
      have hneg := wrap_neg hop.2 (HOK.out.2 f (List.mem_of_getElem? hf))
      have j1 : (j : Int) < (n : Int) := by omega
      rw [← hop.1] at z0
      obtain ⟨fc, hfc⟩ : ∃ v, v = f.coin := ⟨_, rfl⟩
      obtain ⟨fn, hfn⟩ : ∃ v, v = f.n := ⟨_, rfl⟩
      obtain ⟨gn, hgn⟩ : ∃ v, v = g.n := ⟨_, rfl⟩
      rw [← hfc] at y0 z0
      rw [← hfn] at y1 hneg
      rw [← hgn] at z1 hneg
      clear hf hg hsa hsa' hfc hfn hgn hop
      go_upto_region 6 with fail
      go_quiet (fail)
      go_wp2_with fail
      go_roundw
      case rel => exact ⟨j + 1, by omega, by go_num, Lib.hid (bel_drewR HR.out _)⟩
      case measure => simp [intOf]; omega
    · obtain rfl : j = n := by omega
      have j1 : ¬ (j : Int) < (j : Int) := by omega
      go_upto_region 9 with fail
      go_loopw [10] (fun v wr => ∃ j : Nat, j ≤ m ∧ v = .int .i64 j ∧ Hid (Below w.heap.size w wr)) (fun v _ => m - (intOf v).toNat)
      case atStart => exact ⟨0, by omega, rfl, HR⟩
      case round =>
        obtain ⟨i, hi, rfl, HQ⟩ := hrel
        have i0 : (0 : Int) ≤ (i : Int) := by omega
        by_cases hilt : i < m
        · obtain ⟨qa, hqa⟩ : ∃ q, la[i]? = some q := ⟨_, List.getElem?_eq_getElem (by rw [← HM.out.1]; exact hilt)⟩
          obtain ⟨qb, hqb⟩ : ∃ q, lb[i]? = some q := ⟨_, List.getElem?_eq_getElem (by rw [HM.out.2.2.1]; exact hilt)⟩
          have hpp : OpP qa.p qb.p := HAB.out.1.2 i qa.p qb.p (by rw [List.getElem?_map, hqa]; rfl) (by rw [List.getElem?_map, hqb]; rfl)
          obtain ⟨a, rfl, hsa, hsx, hqp⟩ := (HP.out wr HQ.out).1 i qa hqa
          obtain ⟨a2, rfl, hsa2, hsx2, hqp2⟩ := (HP.out wr HQ.out).2 i qb hqb
          have hok := HOK.out.1 qa (List.mem_of_getElem? hqa)
          obtain ⟨⟨f, tn, un, t⟩, uo, uk, eo, ek, tb, tk⟩ := qa
          obtain ⟨⟨f2, tn2, un2, t2⟩, uo2, uk2, eo2, ek2, tb2, tk2⟩ := qb
          obtain ⟨p1, p2, p3, p4⟩ := hpp
          dsimp only at hsx hsx2 hok p1 p2 p3 p4
          subst p3 p4
          obtain ⟨o1, o2⟩ := hok
          have hneg := wrap_neg p1 o2
          have htn : (tn == tn2) = false := by rw [p2]; cases tn <;> rfl
          have hSr : ∀ b, S b → b < wr.heap.size := fun b hb => Nat.lt_of_lt_of_le (HS.out b hb) HQ.out.size
          have CT : Hid (∀ V, Below wr.heap.size wr V → Calls Try.prog 28 #[trV t eo ek tb tk, trV t eo2 ek2 tb2 tk2] V fun e w' => e = .returned (.bool true) ∧ Below V.heap.size V w') := Lib.hid fun V hV => rsameT_any (S := S) (B := wr.heap.size) hSr t eo ek tb tk eo2 ek2 tb2 tk2 V hV.size o1 (hqp.tr.next hSr hV) (hqp2.tr.next hSr hV)
          obtain ⟨um, hum⟩ : ∃ r, r = un.length := ⟨_, rfl⟩
          obtain ⟨op, hop⟩ : ∃ r, r = t.op := ⟨_, rfl⟩
          obtain ⟨nm, hnm⟩ : ∃ r, r = t.nm := ⟨_, rfl⟩
          obtain ⟨em, hem⟩ : ∃ r, r = t.exprs.length := ⟨_, rfl⟩
          obtain ⟨tm, htm⟩ : ∃ r, r = t.terms.length := ⟨_, rfl⟩
          rw [show trV t eo ek tb tk = .agg #[.int .i64 op, .string nm, .slice eo em ek, .slice tb tm tk] from by rw [hop, hnm, hem, htm], show trV t eo2 ek2 tb2 tk2 = .agg #[.int .i64 op, .string nm, .slice eo2 em ek2, .slice tb2 tm tk2] from by rw [hop, hnm, hem, htm]] at CT
          rw [← hum, ← hop, ← hnm, ← hem, ← htm] at hsx hsx2
          have HSV : Hid (SevX wr (a.add (i * 7)) (.int .i64 f) (.bool tn) (.slice uo um uk) (.int .i64 op) (.string nm) (.slice eo em ek) (.slice tb tm tk) ∧ SevX wr (a2.add (i * 7)) (.int .i64 f2) (.bool tn2) (.slice uo2 um uk2) (.int .i64 op) (.string nm) (.slice eo2 em ek2) (.slice tb2 tm tk2)) := Lib.hid ⟨hsx, hsx2⟩
          have HAD : Hid (a.block < wr.heap.size ∧ a2.block < wr.heap.size) := Lib.hid ⟨hSr _ hsa, hSr _ hsa2⟩
          obtain ⟨y0, y1, y2, y3, y4, y5, y6⟩ := hsx
          obtain ⟨z0, z1, z2, z3, z4, z5, z6⟩ := hsx2
          have i1 : (i : Int) < (m : Int) := by omega
          clear hqa hqb hsa hsa2 hqp hqp2 o1 o2 hSr hum hop hnm hem htm p1 p2
          go_upto_region 11 with fail
          go_cut [98] (fun v wx => v = .bool false ∧ Hid (Below wr.heap.size wr wx))
          case first =>
            go_region_held3 (fun w' => (w'.cell? (a.add (i * 7)) = some (.int .i64 f) ∧ w'.cell? ⟨((a.add (i * 7))).block, ((a.add (i * 7))).off + 1, none⟩ = some (.bool tn) ∧ w'.cell? ⟨((a.add (i * 7))).block, ((a.add (i * 7))).off + 2, none⟩ = some (.slice uo um uk) ∧ w'.cell? ⟨((a.add (i * 7))).block, ((a.add (i * 7))).off + 3, none⟩ = some (.int .i64 op) ∧ w'.cell? ⟨((a.add (i * 7))).block, ((a.add (i * 7))).off + 4, none⟩ = some (.string nm) ∧ w'.cell? ⟨((a.add (i * 7))).block, ((a.add (i * 7))).off + 5, none⟩ = some (.slice eo em ek) ∧ w'.cell? ⟨((a.add (i * 7))).block, ((a.add (i * 7))).off + 6, none⟩ = some (.slice tb tm tk)) ∧ (w'.cell? (a2.add (i * 7)) = some (.int .i64 f2) ∧ w'.cell? ⟨((a2.add (i * 7))).block, ((a2.add (i * 7))).off + 1, none⟩ = some (.bool tn2) ∧ w'.cell? ⟨((a2.add (i * 7))).block, ((a2.add (i * 7))).off + 2, none⟩ = some (.slice uo2 um uk2) ∧ w'.cell? ⟨((a2.add (i * 7))).block, ((a2.add (i * 7))).off + 3, none⟩ = some (.int .i64 op) ∧ w'.cell? ⟨((a2.add (i * 7))).block, ((a2.add (i * 7))).off + 4, none⟩ = some (.string nm) ∧ w'.cell? ⟨((a2.add (i * 7))).block, ((a2.add (i * 7))).off + 5, none⟩ = some (.slice eo2 em ek2) ∧ w'.cell? ⟨((a2.add (i * 7))).block, ((a2.add (i * 7))).off + 6, none⟩ = some (.slice tb2 tm tk2)))
              (first | exact HSV.out | exact ⟨HSV.out.1.stay (HZ4.out.block _ (by rw [add_block]; exact HAD.out.1)), HSV.out.2.stay (HZ4.out.block _ (by rw [add_block]; exact HAD.out.2))⟩ | (go_keep; done))
              ((go_at_call 28; (with_reducible refine (CT.out _ (by first | exact Below.refl _ _ | exact (Below.refl _ _).drew)).mono ?_); rintro e w4 ⟨rfl, h1⟩; have HZ4 : Hid (Below wr.heap.size wr w4) := Lib.hid (by first | with_reducible exact h1 | with_reducible exact undrawR h1); clear h1))
            go_wp2_with fail
            go_meet
            exact ⟨rfl, HZ4⟩
          case rest =>
            obtain ⟨rfl, HZ4⟩ := hcut
            go_wp2_with fail
            go_roundw
            case rel => exact ⟨i + 1, by omega, by go_num, Lib.hid (below_mono HQ.out HZ4.out (Nat.le_refl _))⟩
            case measure => simp [intOf]; omega
        · obtain rfl : i = m := by omega
          have i1 : ¬ (i : Int) < (i : Int) := by omega
          go_wp2_with fail
          go_ret
          exact ⟨rfl, HQ.out⟩
end Go.Proofs.Ythhimllddgfddaa
namespace Go.Proofs.Ythhimllddgfddaa
open Go.RowKit Go.PlainAid Go.Sort
set_option linter.unusedVariables false
set_option linter.unusedSimpArgs false
/-- A contract, given. -/
def tGive (x : Tr) : Tr := .mk 3 ⟨#[]⟩ [] [x]
theorem give_cnt (x : Tr) : (tGive x).cnt = x.cnt + 1 := by
  simp [tGive, Tr.cnt, Tr.cnt.cnts, Xp.cnt.cnts]
  omega
theorem give_dep (x : Tr) : (tGive x).dep = x.dep + 1 := by
  simp [tGive, Tr.dep, Tr.dep.deps, Xp.dep.deps]
  omega
theorem give_fits {x : Tr} (h : x.fit ∧ x.thin ∧ x.dep ≤ 800) : (tGive x).fit ∧ (tGive x).thin ∧ (tGive x).dep ≤ 900 := by
  refine ⟨(Tr.fit_eq _).2 ⟨Nat.zero_le _, fun y hy => (by cases hy), ?_⟩, (Tr.thin_eq _).2 ⟨⟨Nat.zero_le _, (show 1 ≤ 400 by omega)⟩, fun y hy => (by cases hy), ?_⟩, by rw [give_dep]; omega⟩
  · exact (tfits_all _).2 fun y hy => by rw [show (tGive x).terms = [x] from rfl, List.mem_singleton] at hy; subst hy; exact h.1
  · exact (tthins_all _).2 fun y hy => by rw [show (tGive x).terms = [x] from rfl, List.mem_singleton] at hy; subst hy; exact h.2.1
theorem give_fine {x : Tr} (h : x.fine PX) : (tGive x).fine PX := (Tr.fine_eq _ _).2 ⟨⟨fun _ => Nat.le_refl 1, fun h => absurd h (show ¬ (3 : Int) = 4 by omega), fun h => absurd h (show ¬ ((3 : Int) = 6 ∨ (3 : Int) = 7 ∨ (3 : Int) = 8) by omega), (show (1 : Int) ≤ 3 by omega), (show (3 : Int) ≤ 9 by omega)⟩, fun y hy => (by cases hy), fun y hy => by rw [show (tGive x).terms = [x] from rfl, List.mem_singleton] at hy; subst hy; exact h⟩
theorem give_fts {x : Tr} (hr : (tGive x).rgt = true) (hn : x.flt = none) : (tGive x).fts = 0 := by
  unfold Tr.fts
  rw [if_pos hr]
  have : (tGive x).flt = none := by
    rw [Tr.flt_eq]
    show Tr.flt.flts 0 [x] = none
    unfold Tr.flt.flts
    rw [hn]
    rfl
  rw [this]
theorem give_acq (ev : Xp → Vl) (x : Tr) : (tGive x).acq ev 1 false [] = x.acq ev (-1) true [] := by
  rw [Tr.acq_eq]
  unfold acqN
  rw [show (tGive x).op = 3 from rfl, if_neg (show ¬ (3 : Int) = 2 by omega), if_pos (show (3 : Int) = 3 from rfl), if_pos (by decide)]
  rfl
/-- What comes of the two sides. -/
theorem give_opp {ev : Xp → Vl} {x : Tr} {P Q : List Pt} {G H : List Fw} (h1 : x.acq ev 1 false [] = some (P, G)) (h2 : (tGive x).acq ev 1 false [] = some (Q, H)) : Twos OpP P Q ∧ Twos OpF G H := by
  rw [give_acq] at h2
  exact acq_opp ev x 1 false [] P G Q H h1 h2
theorem give_ok {w : World} {x : Tr} {eo : Option Addr} {ek : Nat} {tb : Option Addr} {tk b : Nat} (h : TrOk (fun b => b < w.heap.size) w x eo ek tb tk) (hb : w.heap[b]? = some (.cells #[.int .i64 x.op, .string x.nm, .slice eo x.exprs.length ek, .slice tb x.terms.length tk] 32 (0, 0))) : TrOk (fun b => b < w.heap.size) w (tGive x) none 0 (some ⟨b, 0, none⟩) 1 := by
  have ea : ∀ g j, (⟨g, 0, none⟩ : Addr).add j = ⟨g, j, none⟩ := fun g j => by unfold Addr.add; split <;> simp_all
  refine ⟨Nat.le_refl 0, Nat.le_refl 1, no_list _ _ _, fun _ => ⟨_, rfl, lt_of_heap hb, TrR.mk fun i u hu => ?_⟩⟩
  rw [ea]
  match i, hu with
  | 0, hu =>
    simp [tGive, Tr.terms] at hu
    subst hu
    exact ⟨eo, ek, tb, tk, h.ec, h.tc, ⟨cell_blk hb 0, cell_blk hb 1, cell_blk hb 2, cell_blk hb 3⟩, h.ex, h.te⟩
/-- Parts and flows of the two sides. -/
theorem opp_ok {P Q : List Pt} {G H : List Fw} {va vb ga gb : Option Addr} {vac vbc gac gbc m m2 k k2 : Nat} (w : World) (h1 : Twos OpP P Q) (h2 : Twos OpF G H) (hp : PsA w P va) (hq : PsA w Q vb) (hg : FlA (fun b => b < w.heap.size) w G ga) (hh : FlA (fun b => b < w.heap.size) w H gb) (hm : m = P.length) (hm2 : m2 = Q.length) (hk : k = G.length) (hk2 : k2 = H.length) (hkk : k ≤ 1000) (hin : ∀ f ∈ G, in64 f.n = true) :
    Calls Try.prog 15 #[.slice va m vac, .slice ga k gac, .slice vb m2 vbc, .slice gb k2 gbc] w fun e w' => e = .returned (.bool true) ∧ Below w.heap.size w w' := by
  obtain ⟨⟨la, a1, a2⟩, a3, a4⟩ := hp
  obtain ⟨⟨lb, b1, b2⟩, b3, b4⟩ := hq
  have l1 : la.length = P.length := by rw [← a1]; simp
  have l2 : lb.length = Q.length := by rw [← b1]; simp
  have hlen := sumC_len P
  have := opposite_any la lb G H va vb ga gb vac vbc gac gbc w (fun _ h => h) (by rw [a1, b1]; exact h1) h2 a2 b2 hg hh (by omega) (by omega) (fun q hq => by
    have := a3 q.p (by rw [← a1]; exact List.mem_map_of_mem hq)
    exact ⟨by have := okP_cnt this; omega, this.2.1.2.1⟩) hin
  rw [l1, l2, ← hm, ← hm2, ← hk, ← hk2] at this
  exact this
/-- How many flows come. -/
theorem acq_few (ev : Xp → Vl) {x : Tr} {P : List Pt} {G : List Fw} {f : Int} {tn : Bool} {un : List Xp} (h : x.acq ev f tn un = some (P, G)) : G.length ≤ x.cnt := (acq_len ev x f tn un P G h).2
theorem stp_few {ev : Xp → Vl} : ∀ {P : List Pt} {p : List Pt} {g : List Fw}, stp ev P = some (p, g) → g.length ≤ sumC P
  | [], p, g, h => by
    simp [stp] at h
    obtain ⟨rfl, rfl⟩ := h
    exact Nat.le_refl _
  | y :: t, p, g, h => by
    unfold stp at h
    split at h
    · cases h
    split at h
    · have := stp_few h
      simp only [sumC]
      omega
    · unfold both at h
      split at h
      · cases h
      rename_i p1 g1 h1
      split at h
      · cases h
      rename_i p2 g2 h2
      simp only [Option.some.injEq, Prod.mk.injEq] at h
      obtain ⟨rfl, rfl⟩ := h
      have k1 := acq_few ev h1
      have k2 := stp_few h2
      simp only [sumC, List.length_append]
      omega
theorem Camed.next {g : Got} {en : Int} {m k : Nat} {va ga : Option Addr} {w w' : World} (h : Camed g en m k va ga w) (hb : Below w.heap.size w w') : Camed g en m k va ga w' := by
  rcases h with h | ⟨P, G, h1, h2, h3, h4, h5, h6, h7⟩
  · exact .inl h
  · exact .inr ⟨P, G, h1, h2, h3, h4, h5.next hb, h6.next hb, h7⟩
/-- What the law's last gives, in one form. -/
theorem LastQ.one {ts : List Tr} {w w' : World} {e : Ending} (h : LastQ ts w e w') : Below w.heap.size w w' ∧ ∃ (eo : Option Addr) (ek : Nat) (tb : Option Addr) (tk : Nat) (xo : Int) (xn : ByteArray) (m1 m2 : Nat) (bn : Bool), Hid (bn = true → ∃ x, lastT ts = some x ∧ TrOk (fun b => b < w'.heap.size) w' x eo ek tb tk ∧ x.flt.isNone = true ∧ xo = x.op ∧ xn = x.nm ∧ m1 = x.exprs.length ∧ m2 = x.terms.length) ∧ e = .returned (.tuple #[.agg #[.int .i64 xo, .string xn, .slice eo m1 ek, .slice tb m2 tk], .bool bn]) := by
  obtain ⟨h1, hb⟩ := h
  refine ⟨hb, ?_⟩
  cases hl : lastT ts with
  | none =>
    rw [hl] at h1
    exact ⟨none, 0, none, 0, 0, ⟨#[]⟩, 0, 0, false, Lib.hid fun h => (by cases h), h1⟩
  | some x =>
    rw [hl] at h1
    obtain ⟨eo, ek, tb, tk, he, hok⟩ := h1
    exact ⟨eo, ek, tb, tk, x.op, x.nm, x.exprs.length, x.terms.length, x.flt.isNone, Lib.hid fun h => ⟨x, rfl, hok, h, rfl, rfl, rfl, rfl⟩, he⟩
end Go.Proofs.Ythhimllddgfddaa
namespace Go.Proofs.Ythhimllddgfddaa
open Go.RowKit Go.PlainAid Go.Sort
set_option linter.unusedVariables false
set_option linter.unusedSimpArgs false
set_option maxRecDepth 100000 in
set_option maxHeartbeats 16000000 in
theorem lifeGives_walk {ls : List Lf} {ks : List Kn} {ao co : Option Addr} {cap kap : Nat} {Ra Rb : Nat → Prop} {fo ho : Option Addr} {F G : List Fx} {fc hc : Nat} (dv dw : Int) (w : World) (hl : LfAt w.heap.size ao ls w) (hk : KnAt w.heap.size co ks w) (hfl : ∀ f ∈ ls, f.nm.size ≤ maxLen) (hfk : ∀ f ∈ ks, f.nm.size ≤ maxLen) (hfr : ∀ f ∈ ls, InR f.n) (hd : InR dv) (hF : FxIn F) (hfx : FxA Ra fo F w) (hR : ∀ b, Ra b → b < w.heap.size) (hd2 : InR dw) (hG : FxIn G) (hgx : FxA Rb ho G w) (hR2 : ∀ b, Rb b → b < w.heap.size) :
    Calls Try.prog 4 #[.slice ao ls.length cap, .slice co ks.length kap, .agg #[.int .i64 dv, .slice fo F.length fc], .agg #[.int .i64 dw, .slice ho G.length hc]] w fun e w' => e = .returned (.bool true) ∧ Below w.heap.size w w' := by
  have CA : Hid (∀ W, Calls Try.prog 6 #[] W fun e w' => e = .returned (.bool true) ∧ Below W.heap.size W w') := Lib.hid awake_any
  obtain ⟨r, hr⟩ : ∃ r, r = (decide (60 < ls.length) || (decide (60 < ks.length) || decide (60 < F.length))) := ⟨_, rfl⟩
  have CG : Hid (∀ V, Calls Try.prog 5 #[.slice ao ls.length cap, .slice co ks.length kap, .agg #[.int .i64 dv, .slice fo F.length fc]] V fun e w' => e = .returned (.bool r) ∧ Below V.heap.size V w') := Lib.hid fun V => great23_any ls.length ks.length F.length ao co fo cap kap fc dv V r hr
  have HGR : Hid (r = false → ls.length ≤ 60 ∧ ks.length ≤ 60 ∧ F.length ≤ 60) := Lib.hid fun h => by
    rw [h] at hr
    simp at hr
    omega
  have CLL : Hid (r = false → ∀ V, Below w.heap.size w V → Calls Try.prog 7 #[.slice ao ls.length cap, .slice co ks.length kap] V (LastQ (bTs (bXs ls) ks) V)) := Lib.hid fun h V hV => last23_any V ((hl.under hV).wide hV.size) ((hk.under hV).wide hV.size) hfl hfk (HGR.out h).1 (HGR.out h).2.1
  have HX : Hid (r = false → ∀ x, lastT (bTs (bXs ls) ks) = some x → x.flt.isNone = true → x.rgt = true ∧ x.fts = 0 ∧ x.fine PX ∧ (x.fit ∧ x.thin ∧ x.dep ≤ 900)) := Lib.hid fun h x h1 h2 => last_fine hfl hfr hfk (HGR.out h).1 (HGR.out h).2.1 h1 h2
  have CE1 : Hid (r = false → ∀ V, Below w.heap.size w V → Calls Try.prog 10 #[.agg #[.int .i64 dv, .slice fo F.length fc]] V fun e w' => (∃ a c, e = .returned (.agg #[.int .i64 dv, .slice a F.length c]) ∧ FxA (fun b => b < w'.heap.size) a F w') ∧ Below V.heap.size V w') := Lib.hid fun h V hV => by
    have h60 := (HGR.out h).2.2
    refine (env_any (cap := fc) dv V (hfx.stay (fun _ h => h) fun b hb => hV.block b (hR b hb)) (by omega) (fun b hb => Nat.lt_of_lt_of_le (hR b hb) hV.size)).mono ?_
    rintro e w' ⟨⟨a, c, h1, h2⟩, hb⟩
    exact ⟨⟨a, c, h1, h2.stay (fun b hb => hb.2) fun _ _ => rfl⟩, hb⟩
  have CE2 : Hid (G.length ≤ 60 → ∀ V, Below w.heap.size w V → Calls Try.prog 10 #[.agg #[.int .i64 dw, .slice ho G.length hc]] V fun e w' => (∃ a c, e = .returned (.agg #[.int .i64 dw, .slice a G.length c]) ∧ FxA (fun b => b < w'.heap.size) a G w') ∧ Below V.heap.size V w') := Lib.hid fun h V hV => by
    refine (env_any (cap := hc) dw V (hgx.stay (fun _ h => h) fun b hb => hV.block b (hR2 b hb)) (by omega) (fun b hb => Nat.lt_of_lt_of_le (hR2 b hb) hV.size)).mono ?_
    rintro e w' ⟨⟨a, c, h1, h2⟩, hb⟩
    exact ⟨⟨a, c, h1, h2.stay (fun b hb => hb.2) fun _ _ => rfl⟩, hb⟩
  have CS0 : Hid (r = false → ∀ (x : Tr) (eo : Option Addr) (ek : Nat) (tb : Option Addr) (tk : Nat) (V : World) (a : Option Addr) (c : Nat), x.fts = 0 → x.fine PX → (x.fit ∧ x.thin ∧ x.dep ≤ 900) → TrOk (fun b => b < V.heap.size) V x eo ek tb tk → FxA (fun b => b < V.heap.size) a F V → Calls Try.prog 9 #[trV x eo ek tb tk, .agg #[.int .i64 dv, .slice a F.length c]] V fun e w' => CameB (x.acq (evF F dv) 1 false []) e w' ∧ Below V.heap.size V w') := Lib.hid fun h x eo ek tb tk V a c h1 h2 h3 h4 h5 => (start_ok (by have := (HGR.out h).2.2; omega) hd hF x eo ek tb tk V h4 h5 h1 h2 h3).mono fun e w' ⟨k1, k2⟩ => ⟨came_b k1, k2⟩
  have CT0 : Hid (G.length ≤ 60 → ∀ (P : List Pt) (va : Option Addr) (vc m : Nat) (V : World) (a : Option Addr) (c : Nat), m = P.length → PsA V P va → FxA (fun b => b < V.heap.size) a G V → Calls Try.prog 13 #[.slice va m vc, .agg #[.int .i64 dw, .slice a G.length c]] V fun e w' => CameB (stp (evF G dw) P) e w' ∧ Below V.heap.size V w') := Lib.hid fun h P va vc m V a c h1 h2 h3 => (step_ok2 (by omega) hd2 hG h1 V h2 h3).mono fun e w' ⟨k1, k2⟩ => ⟨came_b k1, k2⟩
  obtain ⟨ev1, hev1⟩ : ∃ v, v = evF F dv := ⟨_, rfl⟩
  obtain ⟨ev2, hev2⟩ : ∃ v, v = evF G dw := ⟨_, rfl⟩
  rw [← hev1] at CS0
  rw [← hev2] at CT0
  obtain ⟨ts, hts⟩ : ∃ ts, ts = bTs (bXs ls) ks := ⟨_, rfl⟩
  rw [← hts] at CLL HX
  obtain ⟨n, hn⟩ : ∃ n, n = ls.length := ⟨_, rfl⟩
  obtain ⟨k, hk0⟩ : ∃ n, n = ks.length := ⟨_, rfl⟩
  obtain ⟨m, hm⟩ : ∃ n, n = F.length := ⟨_, rfl⟩
  obtain ⟨mg, hmg⟩ : ∃ n, n = G.length := ⟨_, rfl⟩
  rw [← hn, ← hk0] at CG CLL ⊢
  rw [← hm] at CG CE1 CS0 ⊢
  rw [← hmg] at CE2 CT0 ⊢
  have GB := Lib.hid (boxes_made (.int .i64 dv) (.slice fo m fc) (.int .i64 dw) (.slice ho mg hc) 26 w)
  have hun : undef = Value.tuple #[] := rfl
  clear HGR hr hl hk hfl hfk hfr hd hF hfx hR hd2 hG hgx hR2 hev1 hev2 hts hn hk0 hm hmg
  go_enter Try.func4, Try.ntmps4
  go_upto_region 1 with fail
  obtain ⟨z, hz⟩ : ∃ z, z = w.heap.size := ⟨_, rfl⟩
  obtain ⟨W, hW⟩ : ∃ X, (w.alloc (.cells #[.int .i64 dv, .slice fo m fc] 26)).alloc (.cells #[.int .i64 dw, .slice ho mg hc] 26) = X := ⟨_, rfl⟩
  have s1 : (w.alloc (.cells #[.int .i64 dv, .slice fo m fc] 26)).heap.size = w.heap.size + 1 := by simp
  obtain ⟨g1, b1, b2, s2⟩ := GB.out W hW
  rw [hW]
  try rw [s1]
  rw [← hz] at b1 b2 s2 ⊢
  have HG1 := Lib.hid g1
  have HBX : Hid (∀ V, Below W.heap.size W V → (V.cell? ⟨z, 0, none⟩ = some (.int .i64 dv) ∧ V.cell? ⟨z, 1, none⟩ = some (.slice fo m fc)) ∧ (V.cell? ⟨z + 1, 0, none⟩ = some (.int .i64 dw) ∧ V.cell? ⟨z + 1, 1, none⟩ = some (.slice ho mg hc))) := Lib.hid fun V hV => ⟨duo ((hV.block z (by omega)).trans b1), duo ((hV.block (z + 1) (by omega)).trans b2)⟩
  clear g1 b1 b2 s1 s2 hW hz GB
  obtain ⟨⟨e0, e1⟩, f0, f1⟩ := HBX.out W (Below.refl _ _)
  cases r with
  | true =>
    clear CLL HX CE1 CS0 CT0 CE2 f0 f1
    go_wp2_with (first | (go_at_call 5; (with_reducible refine (CG.out _).mono ?_); rintro e w1 ⟨rfl, hB⟩; have HB1 := Lib.hid (below_mono HG1.out hB (Nat.le_refl _)); clear hB) | (go_at_call 6; (with_reducible refine (CA.out _).mono ?_); rintro e W1 ⟨rfl, hB⟩; have HB := Lib.hid (below_mono HB1.out hB (Nat.le_refl _)); clear hB))
    go_ret
    exact ⟨rfl, HB.out⟩
  | false =>
    by_cases hgg : 60 < mg
    · have i1 : (60 : Int) < (mg : Int) := by omega
      clear CLL HX CE1 CS0 CT0 CE2 f0 f1
      go_wp2_with (first | (go_at_call 5; (with_reducible refine (CG.out _).mono ?_); rintro e w1 ⟨rfl, hB⟩; obtain ⟨⟨c0, c1⟩, f0, f1⟩ := HBX.out w1 hB; have HB1 := Lib.hid (below_mono HG1.out hB (Nat.le_refl _)); clear hB) | (go_at_call 6; (with_reducible refine (CA.out _).mono ?_); rintro e W1 ⟨rfl, hB⟩; have HB := Lib.hid (below_mono HB1.out hB (Nat.le_refl _)); clear hB))
      go_ret
      exact ⟨rfl, HB.out⟩
    · have i1 : ¬ (60 : Int) < (mg : Int) := by omega
      have CLQ := Lib.hid (CLL.out rfl)
      have HXQ := Lib.hid (HX.out rfl)
      have CE1Q := Lib.hid (CE1.out rfl)
      have CS0Q := Lib.hid (CS0.out rfl)
      have CE2Q := Lib.hid (CE2.out (by omega))
      have CT0Q := Lib.hid (CT0.out (by omega))
      clear f0 f1 hgg CLL HX CE1 CS0 CE2 CT0
      go_upto_region 3 with (go_at_call 5; (with_reducible refine (CG.out _).mono ?_); rintro e w1 ⟨rfl, hB⟩; obtain ⟨⟨c0, c1⟩, f0, f1⟩ := HBX.out w1 hB; have HBW1 := Lib.hid hB; have HB1 := Lib.hid (below_mono HG1.out hB (Nat.le_refl _)); clear hB)
      clear e0 e1 c0 c1 f0 f1 CG i1
      have CL1 := Lib.hid (CLQ.out w1 HB1.out)
      clear CLQ
      go_upto_region 4 with (go_at_call 7; (with_reducible refine CL1.out.mono ?_); rintro e w2 hP; obtain ⟨hb, eo, ek, tb, tk, xo, xn, m1, m2, bn, hh, rfl⟩ := LastQ.one hP; clear hP; have HB2 := Lib.hid (below_mono HB1.out hb (Nat.le_refl _)); have HBW2 := Lib.hid (below_mono HBW1.out hb (Nat.le_refl _)); clear hb; obtain ⟨⟨r0, r1, r2, r3⟩, p0, p1, p2, p3⟩ := new_zero w2 (.int .i64 0) (.string ⟨#[]⟩) (.slice none 0 0) (.slice none 0 0) 32)
      clear r0 r1 r2 r3 p0 p1 p2 p3 CL1
      obtain ⟨W4, hW4⟩ : ∃ X, w2.alloc (.cells #[.int .i64 xo, .string xn, .slice eo m1 ek, .slice tb m2 tk] 32) = X := ⟨_, rfl⟩
      obtain ⟨k4, b4, s4⟩ := four_madeT _ _ _ _ _ w2 W4 hW4
      obtain ⟨y, hy⟩ : ∃ y, y = w2.heap.size := ⟨_, rfl⟩
      rw [hW4, ← hy]
      rw [← hy] at b4
      have HB4 := Lib.hid (below_mono HB2.out k4 (Nat.le_refl _))
      have HBW4 := Lib.hid (below_mono HBW2.out k4 (Nat.le_refl _))
      have HK24 := Lib.hid k4
      have HYX : Hid (∀ V, Below W4.heap.size W4 V → V.cell? ⟨y, 0, none⟩ = some (.int .i64 xo) ∧ V.cell? ⟨y, 1, none⟩ = some (.string xn) ∧ V.cell? ⟨y, 2, none⟩ = some (.slice eo m1 ek) ∧ V.cell? ⟨y, 3, none⟩ = some (.slice tb m2 tk)) := Lib.hid fun V hV => quad ((hV.block y (lt_of_heap b4)).trans b4)
      clear hW4 k4 b4 s4 hy
      have GL := Lib.hid (list_box #[.int .i64 xo, .string xn, .slice eo m1 ek, .slice tb m2 tk] (.int .i64 3) (.string ⟨#[]⟩) (.slice none 0 0) (.slice (some ⟨W4.heap.size, 0, none⟩) 1 1) 32 W4)
      obtain ⟨⟨r0, r1, r2, r3⟩, p0, p1, p2, p3⟩ := new_zero (W4.alloc (.cells #[.int .i64 xo, .string xn, .slice eo m1 ek, .slice tb m2 tk] 32)) (.int .i64 0) (.string ⟨#[]⟩) (.slice none 0 0) (.slice none 0 0) 32
      obtain ⟨y0, y1, y2, y3⟩ := HYX.out W4 (Below.refl _ _)
      go_upto_region 5 with fail
      clear r0 r1 r2 r3 p0 p1 p2 p3 y0 y1 y2 y3
      obtain ⟨u, hu⟩ : ∃ y, y = W4.heap.size := ⟨_, rfl⟩
      obtain ⟨W5, hW5⟩ : ∃ X, (W4.alloc (.cells #[.int .i64 xo, .string xn, .slice eo m1 ek, .slice tb m2 tk] 32)).alloc (.cells #[.int .i64 3, .string ⟨#[]⟩, .slice none 0 0, .slice (some ⟨W4.heap.size, 0, none⟩) 1 1] 32) = X := ⟨_, rfl⟩
      obtain ⟨k5, b5, b6, s5⟩ := GL.out W5 hW5
      rw [hW5, ← hu]
      rw [← hu] at b5 b6
      have HB5 := Lib.hid (below_mono HB4.out k5 (Nat.le_refl _))
      have HBW5 := Lib.hid (below_mono HBW4.out k5 (Nat.le_refl _))
      have HXX : Hid (bn = true → ∃ x, lastT ts = some x ∧ x.flt.isNone = true ∧ TrOk (fun b => b < W5.heap.size) W5 x eo ek tb tk ∧ TrOk (fun b => b < W5.heap.size) W5 (tGive x) none 0 (some ⟨u, 0, none⟩) 1 ∧ (∀ p pk q qk, trV x p pk q qk = .agg #[.int .i64 xo, .string xn, .slice p m1 pk, .slice q m2 qk])) := Lib.hid fun h => by
        obtain ⟨x, h1, h2, h3, h4, h5, h6, h7⟩ := hh.out h
        have h8 : TrOk (fun b => b < W5.heap.size) W5 x eo ek tb tk := (h2.next (fun _ h => h) (below_mono HK24.out k5 (Nat.le_refl _))).stay (fun b hb => Nat.lt_of_lt_of_le hb (below_mono HK24.out k5 (Nat.le_refl _)).size) fun _ _ => rfl
        refine ⟨x, h1, h3, h8, give_ok h8 ?_, fun _ _ _ _ => by rw [h4, h5, h6, h7]⟩
        rw [b5, h4, h5, h6, h7]
      have HYX5 : Hid (∀ V, Below W5.heap.size W5 V → (V.cell? ⟨y, 0, none⟩ = some (.int .i64 xo) ∧ V.cell? ⟨y, 1, none⟩ = some (.string xn) ∧ V.cell? ⟨y, 2, none⟩ = some (.slice eo m1 ek) ∧ V.cell? ⟨y, 3, none⟩ = some (.slice tb m2 tk)) ∧ (V.cell? ⟨u + 1, 0, none⟩ = some (.int .i64 3) ∧ V.cell? ⟨u + 1, 1, none⟩ = some (.string ⟨#[]⟩) ∧ V.cell? ⟨u + 1, 2, none⟩ = some (.slice none 0 0) ∧ V.cell? ⟨u + 1, 3, none⟩ = some (.slice (some ⟨u, 0, none⟩) 1 1))) := Lib.hid fun V hV => ⟨HYX.out V (below_mono k5 hV (Nat.le_refl _)), quad ((hV.block (u + 1) (lt_of_heap b6)).trans b6)⟩
      clear hW5 k5 b5 b6 s5 GL hu HYX HK24 hh
      cases bn with
      | false =>
        clear HXX
        go_wp2_with (go_at_call 6; (with_reducible refine (CA.out _).mono ?_); rintro e W1 ⟨rfl, hB⟩; have HB := Lib.hid (below_mono HB5.out hB (Nat.le_refl _)); clear hB)
        go_ret
        exact ⟨rfl, HB.out⟩
      | true =>
        obtain ⟨x, hla, hnn, hok, hog, hxe⟩ := HXX.out rfl
        obtain ⟨hxr, hxt, hxf, hxb⟩ := HXQ.out x hla hnn
        have hcn := fts_zero hxt
        have hxd : x.dep ≤ 16 := (trgt_parts (fts_parts hxt).1).2.1
        have hgb := give_fits (x := x) ⟨hxb.1, hxb.2.1, by omega⟩
        have hfl : x.flt = none := (fts_parts hxt).2
        have hgt : ∀ p pk q qk, trV (tGive x) p pk q qk = .agg #[.int .i64 3, .string ⟨#[]⟩, .slice p 0 pk, .slice q 1 qk] := fun _ _ _ _ => rfl
        have CRG : Hid (∀ V, Below W5.heap.size W5 V → Calls Try.prog 14 #[.agg #[.int .i64 3, .string ⟨#[]⟩, .slice none 0 0, .slice (some ⟨u, 0, none⟩) 1 1]] V fun e w' => e = .returned (.bool (tGive x).rgt) ∧ Below V.heap.size V w') := Lib.hid fun V hV => by
          have := right_any (S := fun b => b < W5.heap.size) (tGive x) none 0 (some ⟨u, 0, none⟩) 1 V (fun b hb => Nat.lt_of_lt_of_le hb hV.size) (hog.next (fun _ h => h) hV) hgb.1 (by rw [give_cnt]; omega)
          rw [hgt] at this
          exact this
        have CS : Hid (∀ V, Below W5.heap.size W5 V → ∀ a c, FxA (fun b => b < V.heap.size) a F V → Calls Try.prog 9 #[.agg #[.int .i64 xo, .string xn, .slice eo m1 ek, .slice tb m2 tk], .agg #[.int .i64 dv, .slice a m c]] V fun e w' => CameB (x.acq ev1 1 false []) e w' ∧ Below V.heap.size V w') := Lib.hid fun V hV a c hfa => by
          have h : TrOk (fun b => b < V.heap.size) V x eo ek tb tk := (hok.next (fun _ h => h) hV).stay (fun b hb => Nat.lt_of_lt_of_le hb hV.size) fun _ _ => rfl
          have := CS0Q.out x eo ek tb tk V a c hxt hxf hxb h hfa
          rw [hxe] at this
          exact this
        have CSG : Hid ((tGive x).rgt = true → ∀ V, Below W5.heap.size W5 V → ∀ a c, FxA (fun b => b < V.heap.size) a F V → Calls Try.prog 9 #[.agg #[.int .i64 3, .string ⟨#[]⟩, .slice none 0 0, .slice (some ⟨u, 0, none⟩) 1 1], .agg #[.int .i64 dv, .slice a m c]] V fun e w' => CameB ((tGive x).acq ev1 1 false []) e w' ∧ Below V.heap.size V w') := Lib.hid fun hr V hV a c hfa => by
          have h : TrOk (fun b => b < V.heap.size) V (tGive x) none 0 (some ⟨u, 0, none⟩) 1 := (hog.next (fun _ h => h) hV).stay (fun b hb => Nat.lt_of_lt_of_le hb hV.size) fun _ _ => rfl
          have := CS0Q.out (tGive x) none 0 (some ⟨u, 0, none⟩) 1 V a c (give_fts hr hfl) (give_fine hxf) hgb h hfa
          rw [hgt] at this
          exact this
        have HOPP : Hid (∀ P G Q H, x.acq ev1 1 false [] = some (P, G) → (tGive x).acq ev1 1 false [] = some (Q, H) → Twos OpP P Q ∧ Twos OpF G H ∧ G.length ≤ 1000) := Lib.hid fun P G Q H h1 h2 => ⟨(give_opp h1 h2).1, (give_opp h1 h2).2, by have := acq_few ev1 h1; omega⟩
        obtain ⟨rg, hrg⟩ : ∃ g, g = (tGive x).rgt := ⟨_, rfl⟩
        obtain ⟨got, hgot⟩ : ∃ g, g = x.acq ev1 1 false [] := ⟨_, rfl⟩
        obtain ⟨got2, hgot2⟩ : ∃ g, g = (tGive x).acq ev1 1 false [] := ⟨_, rfl⟩
        rw [← hrg] at CRG CSG
        rw [← hgot] at CS HOPP
        rw [← hgot2] at CSG HOPP
        clear HXX hla hnn hok hog hxe hxr hxt hxf hxb hcn hxd hgb hfl hgt hrg hgot hgot2 HXQ CS0Q
        have HW5 : Hid (∀ V, Below W5.heap.size W5 V → Below w.heap.size w V) := Lib.hid fun V hV => below_mono HB5.out hV (Nat.le_refl _)
        have HCELL : Hid (∀ V, Below W5.heap.size W5 V → ((V.cell? ⟨z, 0, none⟩ = some (.int .i64 dv) ∧ V.cell? ⟨z, 1, none⟩ = some (.slice fo m fc)) ∧ (V.cell? ⟨z + 1, 0, none⟩ = some (.int .i64 dw) ∧ V.cell? ⟨z + 1, 1, none⟩ = some (.slice ho mg hc))) ∧ ((V.cell? ⟨y, 0, none⟩ = some (.int .i64 xo) ∧ V.cell? ⟨y, 1, none⟩ = some (.string xn) ∧ V.cell? ⟨y, 2, none⟩ = some (.slice eo m1 ek) ∧ V.cell? ⟨y, 3, none⟩ = some (.slice tb m2 tk)) ∧ (V.cell? ⟨u + 1, 0, none⟩ = some (.int .i64 3) ∧ V.cell? ⟨u + 1, 1, none⟩ = some (.string ⟨#[]⟩) ∧ V.cell? ⟨u + 1, 2, none⟩ = some (.slice none 0 0) ∧ V.cell? ⟨u + 1, 3, none⟩ = some (.slice (some ⟨u, 0, none⟩) 1 1)))) := Lib.hid fun V hV => ⟨HBX.out V (below_mono HBW5.out hV (Nat.le_refl _)), HYX5.out V hV⟩
        clear HBX HYX5 HBW5 HBW4 HBW2 HBW1 HB4 HB2 HB1
        have HB := Lib.hid (Below.refl W5.heap.size W5)
        obtain ⟨_, _, c0, c1, c2, c3⟩ := HCELL.out W5 HB.out
        cases rg with
        | false =>
          clear CSG CS HOPP
          go_wp2_with (first | (go_at_call 14; (with_reducible refine (CRG.out _ HB.out).mono ?_); rintro e W6 ⟨rfl, hB⟩; have HB6 := Lib.hid hB; clear hB) | (go_at_call 6; (with_reducible refine (CA.out _).mono ?_); rintro e W1 ⟨rfl, hB⟩; have HB7 := Lib.hid (below_mono HB6.out hB (Nat.le_refl _)); clear hB))
          go_ret
          exact ⟨rfl, HW5.out _ HB7.out⟩
        | true =>
          have CSG2 := Lib.hid (CSG.out rfl)
          clear CSG
          go_upto_region 7 with (go_at_call 14; (with_reducible refine (CRG.out _ HB.out).mono ?_); rintro e w6 ⟨rfl, hb⟩; have HB6 := Lib.hid hb; clear hb c0 c1 c2 c3)
          have HBD : Hid (Below W5.heap.size W5 w6.drew) := Lib.hid HB6.out.drew
          go_cut [12, 13, 14] (fun v1 v2 v3 wx => ∃ (va : Option Addr) (vc mp : Nat) (ga : Option Addr) (gc mf : Nat) (en : Int), v1 = .slice va mp vc ∧ v2 = .slice ga mf gc ∧ v3 = .int .i64 en ∧ Hid (Below W5.heap.size W5 wx) ∧ Hid (Camed got en mp mf va ga wx))
          case first =>
            go_region_held3 (fun w' => (w'.cell? ⟨z, 0, none⟩ = some (.int .i64 dv) ∧ w'.cell? ⟨z, 1, none⟩ = some (.slice fo m fc)) ∧ (w'.cell? ⟨y, 0, none⟩ = some (.int .i64 xo) ∧ w'.cell? ⟨y, 1, none⟩ = some (.string xn) ∧ w'.cell? ⟨y, 2, none⟩ = some (.slice eo m1 ek) ∧ w'.cell? ⟨y, 3, none⟩ = some (.slice tb m2 tk)))
              (first | exact ⟨(HCELL.out _ HB9.out).1.1, (HCELL.out _ HB9.out).2.1⟩ | exact ⟨(HCELL.out _ HB8.out).1.1, (HCELL.out _ HB8.out).2.1⟩ | exact ⟨(HCELL.out _ HBD.out).1.1, (HCELL.out _ HBD.out).2.1⟩)
              (first
                | (go_at_call 10; (with_reducible refine (CE1Q.out _ (HW5.out _ HBD.out)).mono ?_); rintro e w8 ⟨⟨a1, k1, rfl, hf1⟩, hb⟩; have HB8 := Lib.hid (below_mono HBD.out hb (Nat.le_refl _)); have HF1 := Lib.hid hf1; clear hb hf1)
                | (go_at_call 9; (with_reducible refine (CS.out _ HB8.out _ _ HF1.out).mono ?_); rintro e w9 ⟨⟨va, vc, mp, ga, gc, mf, en, rfl, hcm⟩, hb⟩; have HB9 := Lib.hid (below_mono HB8.out hb (Nat.le_refl _)); have HCM := hcm; clear hb hcm))
            go_wp2_with fail
            go_meet
            exact ⟨va, vc, mp, ga, gc, mf, en, rfl, rfl, rfl, HB9, HCM⟩
          case rest =>
            obtain ⟨va, vc, mp, ga, gc, mf, en, rfl, rfl, rfl, HB9, HCM⟩ := hcut
            obtain ⟨w9, hw9⟩ : ∃ X, X = wc := ⟨_, rfl⟩
            rw [← hw9] at HB9 HCM ⊢
            clear hw9
            have HBE : Hid (Below W5.heap.size W5 w9.drew) := Lib.hid HB9.out.drew
            go_upto_region 8 with fail
            go_cut [15, 16, 17] (fun v1 v2 v3 wx => ∃ (vb : Option Addr) (vd mq : Nat) (gb : Option Addr) (gd mh : Nat) (en2 : Int), v1 = .slice vb mq vd ∧ v2 = .slice gb mh gd ∧ v3 = .int .i64 en2 ∧ Hid (Below w9.heap.size w9 wx) ∧ Hid (Camed got2 en2 mq mh vb gb wx))
            case first =>
              go_region_held3 (fun w' => (w'.cell? ⟨z, 0, none⟩ = some (.int .i64 dv) ∧ w'.cell? ⟨z, 1, none⟩ = some (.slice fo m fc)) ∧ (w'.cell? ⟨u + 1, 0, none⟩ = some (.int .i64 3) ∧ w'.cell? ⟨u + 1, 1, none⟩ = some (.string ⟨#[]⟩) ∧ w'.cell? ⟨u + 1, 2, none⟩ = some (.slice none 0 0) ∧ w'.cell? ⟨u + 1, 3, none⟩ = some (.slice (some ⟨u, 0, none⟩) 1 1)))
                (first | exact ⟨(HCELL.out _ HB11.out).1.1, (HCELL.out _ HB11.out).2.2⟩ | exact ⟨(HCELL.out _ HB10.out).1.1, (HCELL.out _ HB10.out).2.2⟩ | exact ⟨(HCELL.out _ HBE.out).1.1, (HCELL.out _ HBE.out).2.2⟩)
                (first
                  | (go_at_call 10; (with_reducible refine (CE1Q.out _ (HW5.out _ HBE.out)).mono ?_); rintro e w10 ⟨⟨a2, k2, rfl, hf2⟩, hb⟩; have HC10 := Lib.hid (undrawR hb); have HB10 := Lib.hid (below_mono HB9.out HC10.out (Nat.le_refl _)); have HF2 := Lib.hid hf2; clear hb hf2)
                  | (go_at_call 9; (with_reducible refine (CSG2.out _ HB10.out _ _ HF2.out).mono ?_); rintro e w11 ⟨⟨vb, vd, mq, gb, gd, mh, en2, rfl, hcm⟩, hb⟩; have HC11 := Lib.hid (below_mono HC10.out hb (Nat.le_refl _)); have HB11 := Lib.hid (below_mono HB10.out hb (Nat.le_refl _)); have HCM2 := hcm; clear hb hcm))
              go_wp2_with fail
              go_meet
              exact ⟨vb, vd, mq, gb, gd, mh, en2, rfl, rfl, rfl, HC11, HCM2⟩
            case rest =>
              obtain ⟨vb, vd, mq, gb, gd, mh, en2, rfl, rfl, rfl, HC11, HCM2⟩ := hcut
              obtain ⟨w11, hw11⟩ : ∃ X, X = wc := ⟨_, rfl⟩
              rw [← hw11] at HC11 HCM2 ⊢
              clear hw11
              have HCM1 := Lib.hid (HCM.out.next HC11.out)
              have HB11 := Lib.hid (below_mono HB9.out HC11.out (Nat.le_refl _))
              have HX11 : Hid (∀ V, Below w11.heap.size w11 V → Below w.heap.size w V ∧ (V.cell? ⟨z + 1, 0, none⟩ = some (.int .i64 dw) ∧ V.cell? ⟨z + 1, 1, none⟩ = some (.slice ho mg hc))) := Lib.hid fun V hV => ⟨HW5.out V (below_mono HB11.out hV (Nat.le_refl _)), (HCELL.out V (below_mono HB11.out hV (Nat.le_refl _))).1.2⟩
              have HBR := Lib.hid (Below.refl w11.heap.size w11)
              clear HBE HCM HC11 HB11 HCELL HBD HB9 HB6 CS CSG2 CRG HW5 HB CE1Q
              rcases HCM1.out with ⟨hg, rfl⟩ | ⟨P, G1, hg, rfl, hm1, hm2, hps, hfl, hm3, hin⟩
              · clear hg
                go_wp2_with (go_at_call 6; (with_reducible refine (CA.out _).mono ?_); rintro e W1 ⟨rfl, hB⟩; have HB := Lib.hid hB; clear hB)
                go_ret
                exact ⟨rfl, (HX11.out _ HB.out).1⟩
              · have HPP := Lib.hid (And.intro hg (And.intro hm1 (And.intro hm2 (And.intro hps (And.intro hfl hin)))))
                clear hg hm1 hm2 hps hfl hm3 hin
                rcases HCM2.out with ⟨hg, rfl⟩ | ⟨Q, H1, hg, rfl, hm1, hm2, hps, hfl, hm3, hin⟩
                · clear hg
                  go_wp2_with (go_at_call 6; (with_reducible refine (CA.out _).mono ?_); rintro e W1 ⟨rfl, hB⟩; have HB := Lib.hid hB; clear hB)
                  go_ret
                  exact ⟨rfl, (HX11.out _ HB.out).1⟩
                · obtain ⟨hg0, hn1, hn2, hqs, hql, hin2⟩ := HPP.out
                  obtain ⟨t1, t2, t3⟩ := HOPP.out P G1 Q H1 hg0 hg
                  have COP : Hid (∀ V, Below w11.heap.size w11 V → Calls Try.prog 15 #[.slice va mp vc, .slice ga mf gc, .slice vb mq vd, .slice gb mh gd] V fun e w' => e = .returned (.bool true) ∧ Below V.heap.size V w') := Lib.hid fun V hV => opp_ok V t1 t2 (hqs.next hV) (hps.next hV) (hql.next hV) (hfl.next hV) hn1 hm1 hn2 hm2 (by omega) hin2
                  have CT1 : Hid (∀ V, Below w11.heap.size w11 V → ∀ a c, FxA (fun b => b < V.heap.size) a G V → Calls Try.prog 13 #[.slice va mp vc, .agg #[.int .i64 dw, .slice a mg c]] V fun e w' => CameB (stp ev2 P) e w' ∧ Below V.heap.size V w') := Lib.hid fun V hV a c hfa => CT0Q.out P va vc mp V a c hn1 (hqs.next hV) hfa
                  have CT2 : Hid (∀ V, Below w11.heap.size w11 V → ∀ a c, FxA (fun b => b < V.heap.size) a G V → Calls Try.prog 13 #[.slice vb mq vd, .agg #[.int .i64 dw, .slice a mg c]] V fun e w' => CameB (stp ev2 Q) e w' ∧ Below V.heap.size V w') := Lib.hid fun V hV a c hfa => CT0Q.out Q vb vd mq V a c hm1 (hps.next hV) hfa
                  have HOP2 : Hid (∀ P2 G2 Q2 H2, stp ev2 P = some (P2, G2) → stp ev2 Q = some (Q2, H2) → Twos OpP P2 Q2 ∧ Twos OpF G2 H2 ∧ G2.length ≤ 1000) := Lib.hid fun P2 G2 Q2 H2 h1 h2 => by
                    have := stp_opp ev2 t1 h1 h2
                    have k1 := stp_few h1
                    have k2 := hqs.few
                    exact ⟨this.1, this.2, by omega⟩
                  obtain ⟨gt3, hgt3⟩ : ∃ g, g = stp ev2 P := ⟨_, rfl⟩
                  obtain ⟨gt4, hgt4⟩ : ∃ g, g = stp ev2 Q := ⟨_, rfl⟩
                  rw [← hgt3] at CT1 HOP2
                  rw [← hgt4] at CT2 HOP2
                  clear hg hm1 hm2 hps hfl hm3 hin hg0 hn1 hn2 hqs hql hin2 t1 t2 t3 hgt3 hgt4 HPP HCM1 HCM2 CT0Q HOPP
                  go_upto_region 13 with (go_at_call 15; (with_reducible refine (COP.out _ HBR.out).mono ?_); rintro e w12 ⟨rfl, hb⟩; have HB12 := Lib.hid hb; clear hb; obtain ⟨_, f0, f1⟩ := HX11.out w12 HB12.out)
                  go_upto_region 14 with (first | (go_at_call 10; (with_reducible refine (CE2Q.out _ (HX11.out _ HB12.out).1).mono ?_); rintro e w13 ⟨⟨a3, k3, rfl, hf3⟩, hb⟩; have HB13 := Lib.hid (below_mono HB12.out hb (Nat.le_refl _)); have HF3 := Lib.hid hf3; clear hb hf3) | (go_at_call 13; (with_reducible refine (CT1.out _ HB13.out _ _ HF3.out).mono ?_); rintro e w14 ⟨⟨qa, qc, nq, g2a, g2c, nf, en3, rfl, hcm⟩, hb⟩; have HB14 := Lib.hid (below_mono HB13.out hb (Nat.le_refl _)); have HCM3 := hcm; clear hb hcm f0 f1; obtain ⟨_, f0, f1⟩ := HX11.out w14 HB14.out))
                  go_upto_region 15 with (first | (go_at_call 10; (with_reducible refine (CE2Q.out _ (HX11.out _ HB14.out).1).mono ?_); rintro e w15 ⟨⟨a4, k4, rfl, hf4⟩, hb⟩; have HC15 := Lib.hid hb; have HB15 := Lib.hid (below_mono HB14.out hb (Nat.le_refl _)); have HF4 := Lib.hid hf4; clear hb hf4) | (go_at_call 13; (with_reducible refine (CT2.out _ HB15.out _ _ HF4.out).mono ?_); rintro e w16 ⟨⟨ra, rc, nr, g3a, g3c, nh, en4, rfl, hcm⟩, hb⟩; have HC16 := Lib.hid (below_mono HC15.out hb (Nat.le_refl _)); have HB16 := Lib.hid (below_mono HB15.out hb (Nat.le_refl _)); have HCM4 := hcm; clear hb hcm f0 f1))
                  have HCM5 := Lib.hid (HCM3.out.next HC16.out)
                  clear HCM3 HC15 HC16 HB12 HB13 HB14 HB15 HF3 HF4 CT1 CT2 COP CE2Q
                  rcases HCM5.out with ⟨hg, rfl⟩ | ⟨P2, G2, hg, rfl, hn1, hn2, hqs, hql, hm3, hin2⟩
                  · clear hg
                    go_wp2_with (go_at_call 6; (with_reducible refine (CA.out _).mono ?_); rintro e W1 ⟨rfl, hB⟩; have HB := Lib.hid (below_mono HB16.out hB (Nat.le_refl _)); clear hB)
                    go_ret
                    exact ⟨rfl, (HX11.out _ HB.out).1⟩
                  · have HPP := Lib.hid (And.intro hg (And.intro hn1 (And.intro hn2 (And.intro hqs (And.intro hql hin2)))))
                    clear hg hn1 hn2 hqs hql hm3 hin2
                    rcases HCM4.out with ⟨hg, rfl⟩ | ⟨Q2, H2, hg, rfl, hm1, hm2, hps, hfl, hm3, hin⟩
                    · clear hg
                      go_wp2_with (go_at_call 6; (with_reducible refine (CA.out _).mono ?_); rintro e W1 ⟨rfl, hB⟩; have HB := Lib.hid (below_mono HB16.out hB (Nat.le_refl _)); clear hB)
                      go_ret
                      exact ⟨rfl, (HX11.out _ HB.out).1⟩
                    · obtain ⟨hg0, hn1, hn2, hqs, hql, hin2⟩ := HPP.out
                      obtain ⟨t1, t2, t3⟩ := HOP2.out P2 G2 Q2 H2 hg0 hg
                      have CO2 : Hid (Calls Try.prog 15 #[.slice qa nq qc, .slice g2a nf g2c, .slice ra nr rc, .slice g3a nh g3c] w16 fun e w' => e = .returned (.bool true) ∧ Below w16.heap.size w16 w') := Lib.hid (opp_ok w16 t1 t2 hqs hps hql hfl hn1 hm1 hn2 hm2 (by omega) hin2)
                      clear hg hm1 hm2 hps hfl hm3 hin hg0 hn1 hn2 hqs hql hin2 t1 t2 t3 HPP HCM4 HCM5 HOP2
                      go_wp2_with (first | (go_at_call 15; (with_reducible refine CO2.out.mono ?_); rintro e w17 ⟨rfl, hb⟩; have HB17 := Lib.hid (below_mono HB16.out hb (Nat.le_refl _)); clear hb) | (go_at_call 6; (with_reducible refine (CA.out _).mono ?_); rintro e W1 ⟨rfl, hB⟩; have HB := Lib.hid (below_mono HB17.out hB (Nat.le_refl _)); clear hB))
                      go_ret
                      exact ⟨rfl, (HX11.out _ HB.out).1⟩
end Go.Proofs.Ythhimllddgfddaa
