/- Trees: the document's Tree.Last. Conditions: those written at each theorem. -/
import Derived.Test.YtidldlhhmophjaaTrW
import Derived.Test.YtidldlhhmophjaaCkK
import Derived.Deep.RegionHeld3
namespace Go.Proofs.Ytidldlhhmophjaa
open Go.RowKit Go.PlainAid
set_option linter.unusedVariables false
set_option linter.unusedSimpArgs false
theorem four_madeT (v0 v1 v2 v3 : Value) (T : TypeId) (w : World) : ∀ W, w.alloc (.cells #[v0, v1, v2, v3] T) = W → Below w.heap.size w W ∧ W.heap[w.heap.size]? = some (.cells #[v0, v1, v2, v3] T (0, 0)) ∧ W.heap.size = w.heap.size + 1 := by
  rintro W rfl
  exact ⟨(Below.refl w.heap.size w).alloc (Nat.le_refl _) _, heap_alloc_new w _, by simp⟩
theorem four_setT (wr : World) (rb : Nat) (x0 x1 x2 x3 : Value) (o : Array Value) (T : TypeId) (ho : ∃ y0 y1 y2 y3, o = #[y0, y1, y2, y3]) (hb : wr.heap[rb]? = some (.cells o T (0, 0))) : ∀ W, ((((wr.setCell ⟨rb, 0, none⟩ x0).setCell ⟨rb, 1, none⟩ x1).setCell ⟨rb, 2, none⟩ x2).setCell ⟨rb, 3, none⟩ x3) = W → Below rb wr W ∧ (∀ b, b ≠ rb → W.heap[b]? = wr.heap[b]?) ∧ W.heap.size = wr.heap.size ∧ W.heap[rb]? = some (.cells #[x0, x1, x2, x3] T (0, 0)) := by
  rintro W rfl
  obtain ⟨y0, y1, y2, y3, rfl⟩ := ho
  refine ⟨?_, fun b hb => ?_, by simp, ?_⟩
  · exact ((((Below.refl rb wr).setCell (p := ⟨rb, 0, none⟩) (Nat.le_refl _) _).setCell (p := ⟨rb, 1, none⟩) (Nat.le_refl _) _).setCell (p := ⟨rb, 2, none⟩) (Nat.le_refl _) _).setCell (p := ⟨rb, 3, none⟩) (Nat.le_refl _) _
  · exact (Below.heap_setCell _ _ _ _ hb).trans ((Below.heap_setCell _ _ _ _ hb).trans ((Below.heap_setCell _ _ _ _ hb).trans (Below.heap_setCell _ _ _ _ hb)))
  · have q0 := heap_set_at (i := 0) x0 hb
    have q1 := heap_set_at (i := 1) x1 q0
    have q2 := heap_set_at (i := 2) x2 q1
    exact heap_set_at (i := 3) x3 q2
set_option maxRecDepth 100000 in
/-- The last term, where it is right. -/
def lastT (ts : List Tr) : Option Tr := match ts.getLast? with
  | some x => if x.rgt = true then some x else none
  | none => none
theorem lastT_some {ts : List Tr} {x : Tr} (h : lastT ts = some x) : ts[ts.length - 1]? = some x ∧ x.rgt = true ∧ 0 < ts.length := by
  unfold lastT at h
  rw [List.getLast?_eq_getElem?] at h
  split at h
  · rename_i y hy
    split at h
    · rename_i hr
      cases h
      exact ⟨hy, hr, by have := (List.getElem?_eq_some_iff.1 hy).1; omega⟩
    · cases h
  · cases h
theorem lastT_none {ts : List Tr} {x : Tr} (h : lastT ts = none) (hx : ts[ts.length - 1]? = some x) : x.rgt = false := by
  unfold lastT at h
  rw [List.getLast?_eq_getElem?, hx] at h
  simpa using h
abbrev zeroTr : Value := .agg #[.int .i64 0, .string ⟨#[]⟩, .slice none 0 0, .slice none 0 0]
/-- What Last gives. -/
def LstP (R : Nat → Prop) (ts : List Tr) (w : World) (e : Ending) (w' : World) : Prop := (match lastT ts with
  | none => e = .returned (.tuple #[zeroTr, .bool false])
  | some x => ∃ eo ek to' tk, e = .returned (.tuple #[trV x eo ek to' tk, .bool true]) ∧ TrOk R w' x eo ek to' tk) ∧ Below w.heap.size w w'
set_option maxRecDepth 100000 in
set_option maxHeartbeats 4000000 in
theorem rlast_any {R : Nat → Prop} {xs : List Xp} {ts : List Tr} {a0 a1 a2 a3 a4 a5 : Option Addr} {c0 c1 c2 c3 c4 c5 : Nat} (w : World) (hR : ∀ b, R b → b < w.heap.size) (hb : BuiltAt R xs ts a0 a1 a2 a3 a4 a5 w) (hl : ts.length ≤ 60) (hf : ∀ x ∈ ts, x.fit) :
    Calls Try.prog 27 #[treeV xs ts a0 a1 a2 a3 a4 a5 c0 c1 c2 c3 c4 c5] w (LstP R ts w) := by
  obtain ⟨L, hL⟩ : ∃ L, L = xs.length := ⟨_, rfl⟩
  obtain ⟨L2, hL2⟩ : ∃ L, L = ts.length := ⟨_, rfl⟩
  have hv : treeV xs ts a0 a1 a2 a3 a4 a5 c0 c1 c2 c3 c4 c5 = .agg #[.slice a0 L c0, .slice a1 L c1, .slice a2 L c2, .slice a3 L2 c3, .slice a4 L2 c4, .slice a5 L2 c5] := by unfold treeV; rw [← hL, ← hL2]
  have CR : Hid (∀ (i : Nat) (x : Tr), ts[i]? = some x → ∀ W, Below w.heap.size w W → Calls Try.prog 21 #[.agg #[.slice a0 L c0, .slice a1 L c1, .slice a2 L c2, .slice a3 L2 c3, .slice a4 L2 c4, .slice a5 L2 c5], .int .i64 i] W fun e w' => e = .returned (.bool x.rgt) ∧ Below W.heap.size W w') := Lib.hid fun i x hx W hW => by
    have := rtright_any (c0 := c0) (c1 := c1) (c2 := c2) (c3 := c3) (c4 := c4) (c5 := c5) W (fun b h => Nat.lt_of_lt_of_le (hR b h) hW.size) (hb.stay (fun _ h => h) fun b h => hW.block b (hR b h)) hl hx (hf x (List.mem_of_getElem? hx))
    rw [hv] at this
    exact this
  rw [hv]
  have GA := Lib.hid (six_box (.slice a0 L c0) (.slice a1 L c1) (.slice a2 L c2) (.slice a3 L2 c3) (.slice a4 L2 c4) (.slice a5 L2 c5) 29 w)
  have GZ : Hid (∀ W, w.alloc (.cells #[.slice a0 L c0, .slice a1 L c1, .slice a2 L c2, .slice a3 L2 c3, .slice a4 L2 c4, .slice a5 L2 c5] 29) = W → ∀ V, W.alloc (.cells #[.int .i64 0, .string ⟨#[]⟩, .slice none 0 0, .slice none 0 0] 42) = V → Below w.heap.size w V ∧ V.heap[w.heap.size]? = some (.cells #[.slice a0 L c0, .slice a1 L c1, .slice a2 L c2, .slice a3 L2 c3, .slice a4 L2 c4, .slice a5 L2 c5] 29 (0, 0)) ∧ V.heap[w.heap.size + 1]? = some (.cells #[.int .i64 0, .string ⟨#[]⟩, .slice none 0 0, .slice none 0 0] 42 (0, 0))) := Lib.hid (by
    rintro W hW V hV
    obtain ⟨g1, g2, g3⟩ := GA.out W hW
    obtain ⟨k1, k2, k3⟩ := four_madeT _ _ _ _ _ W V hV
    exact ⟨below_mono g1 k1 (Nat.le_refl _), (k1.block _ (by omega)).trans g2, by rw [← g3]; exact k2⟩)
  have HB0 := Lib.hid hb
  have HR := Lib.hid hR
  have HL2 := Lib.hid hL2
  obtain ⟨z, hz⟩ : ∃ z, z = w.heap.size := ⟨_, rfl⟩
  obtain ⟨y, hy⟩ : ∃ z, z = w.heap.size + 1 := ⟨_, rfl⟩
  have hl2 : L2 ≤ 60 := by omega
  clear hb hl hL hL2 hf hv hR
  go_enter Try.func27, Try.ntmps27
  go_upto_region 1 with fail
  obtain ⟨V, hV⟩ : ∃ X, (w.alloc (.cells #[.slice a0 L c0, .slice a1 L c1, .slice a2 L c2, .slice a3 L2 c3, .slice a4 L2 c4, .slice a5 L2 c5] 29)).alloc (.cells #[.int .i64 0, .string ⟨#[]⟩, .slice none 0 0, .slice none 0 0] 42) = X := ⟨_, rfl⟩
  obtain ⟨g1, b1, b2⟩ := GZ.out _ rfl V hV
  rw [← hz] at b1
  rw [← hy] at b2
  rw [hV, ← hz, show z + 1 = y from by omega]
  have HG := Lib.hid g1
  have HB1 := Lib.hid b1
  have HB2 := Lib.hid b2
  have HZY := Lib.hid (show z = w.heap.size ∧ y = w.heap.size + 1 by omega)
  have t0 : V.cell? ⟨z, 0, none⟩ = some (.slice a0 L c0) := cell_blk b1 0
  have t1 : V.cell? ⟨z, 1, none⟩ = some (.slice a1 L c1) := cell_blk b1 1
  have t2 : V.cell? ⟨z, 2, none⟩ = some (.slice a2 L c2) := cell_blk b1 2
  have t3 : V.cell? ⟨z, 3, none⟩ = some (.slice a3 L2 c3) := cell_blk b1 3
  have t4 : V.cell? ⟨z, 4, none⟩ = some (.slice a4 L2 c4) := cell_blk b1 4
  have t5 : V.cell? ⟨z, 5, none⟩ = some (.slice a5 L2 c5) := cell_blk b1 5
  clear hV g1 b1 b2 GA GZ hz hy
  rcases Nat.eq_zero_or_pos L2 with h0 | h0
  · subst h0
    have HE : Hid (lastT ts = none) := Lib.hid (by
      obtain rfl : ts = [] := List.length_eq_zero_iff.1 HL2.out.symm
      rfl)
    obtain ⟨d0, d1, d2, d3⟩ := quad HB2.out
    have p0 : V.frozen? ⟨y, 0, none⟩ = false := free_blk HB2.out 0
    have p1 : V.frozen? ⟨y, 1, none⟩ = false := free_blk HB2.out 1
    have p2 : V.frozen? ⟨y, 2, none⟩ = false := free_blk HB2.out 2
    have p3 : V.frozen? ⟨y, 3, none⟩ = false := free_blk HB2.out 3
    go_wp2_with fail
    have HS := Lib.hid (four_setT V y (.int .i64 0) (.string ⟨#[]⟩) (.slice none 0 0) (.slice none 0 0) _ _ ⟨_, _, _, _, rfl⟩ HB2.out)
    clear d0 d1 d2 d3 p0 p1 p2 p3
    obtain ⟨W9, hW9⟩ : ∃ X, ((((V.setCell ⟨y, 0, none⟩ (.int .i64 0)).setCell ⟨y, 1, none⟩ (.string ⟨#[]⟩)).setCell ⟨y, 2, none⟩ (.slice none 0 0)).setCell ⟨y, 3, none⟩ (.slice none 0 0)) = X := ⟨_, rfl⟩
    obtain ⟨k9, f9, s9, x9⟩ := HS.out W9 hW9
    rw [hW9]
    obtain ⟨d0, d1, d2, d3⟩ := quad x9
    refine bodyPost_ret (v := .tuple #[zeroTr, .bool false]) (by simp [results, Try.results27, go_sem, d0, d1, d2, d3]) rfl ⟨?_, HG.out.trans (k9.mono (by have := HZY.out; omega))⟩
    rw [HE.out]
  · obtain ⟨x, hx⟩ : ∃ x, ts[L2 - 1]? = some x := ⟨_, List.getElem?_eq_getElem (by rw [← HL2.out]; omega)⟩
    have CR2 := Lib.hid (CR.out (L2 - 1) x hx V HG.out)
    have e1 : ((L2 - 1 : Nat) : Int) = (L2 : Int) - 1 := by omega
    rw [e1] at CR2
    obtain ⟨a, eo, ek, to', tk, rfl, hra, hek, htk, ⟨y0, y1, y2, y3⟩, hex, hte⟩ := HB0.out.terms.get hx
    have HOK : Hid (TrOk R w x eo ek to' tk) := Lib.hid ⟨hek, htk, hex, hte⟩
    obtain ⟨rg, hrg⟩ : ∃ v, v = x.rgt := ⟨_, rfl⟩
    rw [← hrg] at CR2
    obtain ⟨d0, d1, d2, d3⟩ := quad HB2.out
    have hL0 : ¬ (L2 : Int) = 0 := by omega
    have hL1 : (0 : Int) ≤ (L2 : Int) - 1 := by omega
    have hL2 : ((L2 : Int) == 0) = false := by simp; omega
    cases rg with
    | false =>
      have HE : Hid (lastT ts = none) := Lib.hid (by
        unfold lastT
        rw [List.getLast?_eq_getElem?, ← HL2.out, hx]
        simp [← hrg])
      clear hx hrg hex hte hek htk y0 y1 y2 y3 d0 d1 d2 d3 e1
      go_upto_region 3 with (go_at_call 21; (with_reducible refine CR2.out.mono ?_); rintro e w6 ⟨rfl, hb⟩; have HB6 := Lib.hid hb; clear hb)
      have HB26 := Lib.hid ((HB6.out.block y (lt_of_heap HB2.out)).trans HB2.out)
      obtain ⟨d0, d1, d2, d3⟩ := quad HB26.out
      have p0 : w6.frozen? ⟨y, 0, none⟩ = false := free_blk HB26.out 0
      have p1 : w6.frozen? ⟨y, 1, none⟩ = false := free_blk HB26.out 1
      have p2 : w6.frozen? ⟨y, 2, none⟩ = false := free_blk HB26.out 2
      have p3 : w6.frozen? ⟨y, 3, none⟩ = false := free_blk HB26.out 3
      go_wp2_with fail
      have HS := Lib.hid (four_setT w6 y (.int .i64 0) (.string ⟨#[]⟩) (.slice none 0 0) (.slice none 0 0) _ _ ⟨_, _, _, _, rfl⟩ HB26.out)
      clear d0 d1 d2 d3 p0 p1 p2 p3
      obtain ⟨W9, hW9⟩ : ∃ X, ((((w6.setCell ⟨y, 0, none⟩ (.int .i64 0)).setCell ⟨y, 1, none⟩ (.string ⟨#[]⟩)).setCell ⟨y, 2, none⟩ (.slice none 0 0)).setCell ⟨y, 3, none⟩ (.slice none 0 0)) = X := ⟨_, rfl⟩
      obtain ⟨k9, f9, s9, x9⟩ := HS.out W9 hW9
      rw [hW9]
      obtain ⟨d0, d1, d2, d3⟩ := quad x9
      refine bodyPost_ret (v := .tuple #[zeroTr, .bool false]) (by simp [results, Try.results27, go_sem, d0, d1, d2, d3]) rfl ⟨?_, (below_mono HG.out HB6.out (Nat.le_refl _)).trans (k9.mono (by have := HZY.out; omega))⟩
      rw [HE.out]
    | true =>
      have HE : Hid (lastT ts = some x) := Lib.hid (by
        unfold lastT
        rw [List.getLast?_eq_getElem?, ← HL2.out, hx]
        simp [← hrg])
      obtain ⟨xo, hxo⟩ : ∃ v, v = x.op := ⟨_, rfl⟩
      obtain ⟨xn, hxn⟩ : ∃ v, v = x.nm := ⟨_, rfl⟩
      obtain ⟨m1, hm1⟩ : ∃ m, m = x.exprs.length := ⟨_, rfl⟩
      obtain ⟨m2, hm2⟩ : ∃ m, m = x.terms.length := ⟨_, rfl⟩
      have HXE : Hid (trV x eo ek to' tk = .agg #[.int .i64 xo, .string xn, .slice eo m1 ek, .slice to' m2 tk]) := Lib.hid (by rw [hm1, hm2, hxo, hxn])
      rw [← hxo] at y0
      rw [← hxn] at y1
      rw [← hm1] at y2
      rw [← hm2] at y3
      have hti : ((L2 : Int) - 1).toNat = L2 - 1 := by omega
      have HCELL : Hid (∀ W, Below w.heap.size w W → (W.cell? (a.add ((L2 - 1) * 4)) = some (.int .i64 xo) ∧ W.cell? ⟨(a.add ((L2 - 1) * 4)).block, (a.add ((L2 - 1) * 4)).off + 1, none⟩ = some (.string xn) ∧ W.cell? ⟨(a.add ((L2 - 1) * 4)).block, (a.add ((L2 - 1) * 4)).off + 2, none⟩ = some (.slice eo m1 ek) ∧ W.cell? ⟨(a.add ((L2 - 1) * 4)).block, (a.add ((L2 - 1) * 4)).off + 3, none⟩ = some (.slice to' m2 tk))) := Lib.hid fun W hW => by
        have ha : (a.add ((L2 - 1) * 4)).block < w.heap.size := by rw [add_block]; exact HR.out _ hra
        exact ⟨(hW.cell (p := a.add ((L2 - 1) * 4)) ha).trans y0, (hW.cell (p := ⟨(a.add ((L2 - 1) * 4)).block, (a.add ((L2 - 1) * 4)).off + 1, none⟩) ha).trans y1, (hW.cell (p := ⟨(a.add ((L2 - 1) * 4)).block, (a.add ((L2 - 1) * 4)).off + 2, none⟩) ha).trans y2, (hW.cell (p := ⟨(a.add ((L2 - 1) * 4)).block, (a.add ((L2 - 1) * 4)).off + 3, none⟩) ha).trans y3⟩
      clear hx hrg hex hte hek htk y0 y1 y2 y3 d0 d1 d2 d3 e1 hxo hxn hm1 hm2
      go_upto_region 4 with (go_at_call 21; (with_reducible refine CR2.out.mono ?_); rintro e w6 ⟨rfl, hb⟩; have HB6 := Lib.hid hb; clear hb)
      have HW6 := Lib.hid (below_mono HG.out HB6.out (Nat.le_refl _))
      have HB26 := Lib.hid ((HB6.out.block y (lt_of_heap HB2.out)).trans HB2.out)
      have HB16 := Lib.hid ((HB6.out.block z (lt_of_heap HB1.out)).trans HB1.out)
      clear t0 t1 t2 t3 t4 t5
      have t3 : w6.cell? ⟨z, 3, none⟩ = some (.slice (some a) L2 c3) := cell_blk HB16.out 3
      obtain ⟨y0, y1, y2, y3⟩ := HCELL.out w6 HW6.out
      obtain ⟨d0, d1, d2, d3⟩ := quad HB26.out
      have p0 : w6.frozen? ⟨y, 0, none⟩ = false := free_blk HB26.out 0
      have p1 : w6.frozen? ⟨y, 1, none⟩ = false := free_blk HB26.out 1
      have p2 : w6.frozen? ⟨y, 2, none⟩ = false := free_blk HB26.out 2
      have p3 : w6.frozen? ⟨y, 3, none⟩ = false := free_blk HB26.out 3
      go_wp2_with fail
      have HS := Lib.hid (four_setT w6 y (.int .i64 xo) (.string xn) (.slice eo m1 ek) (.slice to' m2 tk) _ _ ⟨_, _, _, _, rfl⟩ HB26.out)
      clear d0 d1 d2 d3 p0 p1 p2 p3
      obtain ⟨W9, hW9⟩ : ∃ X, ((((w6.setCell ⟨y, 0, none⟩ (.int .i64 xo)).setCell ⟨y, 1, none⟩ (.string xn)).setCell ⟨y, 2, none⟩ (.slice eo m1 ek)).setCell ⟨y, 3, none⟩ (.slice to' m2 tk)) = X := ⟨_, rfl⟩
      obtain ⟨k9, f9, s9, x9⟩ := HS.out W9 hW9
      rw [hW9]
      obtain ⟨d0, d1, d2, d3⟩ := quad x9
      refine bodyPost_ret (v := .tuple #[.agg #[.int .i64 xo, .string xn, .slice eo m1 ek, .slice to' m2 tk], .bool true]) (by simp [results, Try.results27, go_sem, d0, d1, d2, d3]) rfl ⟨?_, HW6.out.trans (k9.mono (by have := HZY.out; omega))⟩
      rw [HE.out]
      refine ⟨eo, ek, to', tk, by rw [HXE.out], HOK.out.stay (fun _ h => h) fun b hb => ?_⟩
      have hbw := HR.out b hb
      exact (f9 b (by have := HZY.out; omega)).trans (HW6.out.block b hbw)
end Go.Proofs.Ytidldlhhmophjaa
