/- Trees: the document's Simple, walked. Conditions: those written at each theorem. -/
import Derived.Test.YtepoihokbcoidaaTrK
import Derived.Test.YtepoihokbcoidaaTrL
import Derived.Deep.RegionLaw
namespace Go.Proofs.Ytepoihokbcoidaa
open Go.RowKit Go.PlainAid
set_option linter.unusedVariables false
set_option linter.unusedSimpArgs false
/-- append(l, t), of a term in a new block. -/
theorem step_appRo {w : World} {ops : Array Oper} {o : Oper} {a : Act} {K : Act → World → Prop} {Q : Exit → Act → World → Prop} {E : Prop} (hgd : o.guard = none) (s x : Operand)
    (ho : o.op = .call { callee := .builtin .append, args := #[s, x], argTypes := #[28, 28] })
    (B : Nat) (v : Value) (qs : List Q4) (hs : a.eval s = v) (hown : Row4 w B 33 v qs) (g : Nat) (i0 : Int) (t1 : ByteArray) (a2 a3 : Option Addr) (n2 m2 n3 m3 : Nat) (hx : a.eval x = .slice (some ⟨g, 0, none⟩) 1 1)
    (hc : w.heap[g]? = some (.cells #[.int .i64 i0, .string t1, .slice a2 n2 m2, .slice a3 n3 m3] 33 (0, 0))) (hl : qs.length ≤ 1000) (hB : B ≤ w.heap.size)
    (h : ∀ g' cap w', Row4 w' B 33 (.slice (some ⟨g', 0, none⟩) (qs.length + 1) cap) (qs ++ [(.int .i64 i0, .string t1, .slice a2 n2 m2, .slice a3 n3 m3)]) → w.grownBy w' v.ownBlock → (v.ownBlock = some g' ∨ g' = w.heap.size) → g' < w'.heap.size → K (a.put o.dst (.slice (some ⟨g', 0, none⟩) (qs.length + 1) cap)) w') :
    if Region.wanted o (yielded ops a.tmps) = true then Oper.wp Try.prog o a w K Q else E := by
  obtain ⟨i, hi, hz0, hz1, hz2⟩ := info_parts termInfo
  refine step_append_lies w hgd s x 28 ho B 33 i (.agg #[.int .i64 0, .string ⟨#[]⟩, .slice none 0 0, .slice none 0 0]) 4 72 Try.underlying28 hi hz0 hz1 hz2 rfl (by decide) v qs.length (flat4 qs) hs hown ⟨g, 0, none⟩ 1 1 [.int .i64 i0, .string t1, .slice a2 n2 m2, .slice a3 n3 m3] hx rfl ?_ ?_ (by decide) ?_ ?_ hB _ rfl ?_
  · intro j u hj
    match j, hj with
    | 0, hj => simp at hj; subst hj; exact cell_blk hc 0
    | 1, hj => simp at hj; subst hj; exact cell_blk hc 1
    | 2, hj => simp at hj; subst hj; exact cell_blk hc 2
    | 3, hj => simp at hj; subst hj; exact cell_blk hc 3
  · intro u hu
    simp at hu
    rcases hu with rfl | rfl | rfl | rfl <;> rfl
  · unfold maxLen; omega
  · omega
  · intro g' cap w' h1 h2 h3 h4
    refine h g' cap w' ?_ h2 h3 h4
    unfold Row4
    rw [flat4_snoc, List.length_append]
    exact h1

theorem grown_drew {w w' : World} {r : Option Nat} (h : w.drew.grownBy w' r) : w.grownBy w' r := ⟨h.os, h.tape, h.output, h.size, h.block⟩
theorem grown_row {W A C : World} {q : Nat} {row : Option Nat} (hA : W.grownBy A (some q)) (hC : A.grownBy C row) (h : ∀ g, row = some g → W.heap.size ≤ g) : W.grownBy C (some q) :=
  ⟨hC.os.trans hA.os, hC.tape.trans hA.tape, hC.output.trans hA.output, Nat.le_trans hA.size hC.size, fun k hk hne => (hC.block k (Nat.lt_of_lt_of_le hk hA.size) (fun e => by have := h k e.symm; omega)).trans (hA.block k hk hne)⟩
/-- Three boxes of four cells, one behind the other. -/
theorem three_box (x0 x1 x2 x3 y0 y1 y2 y3 z0 z1 z2 z3 : Value) (T : TypeId) (w : World) : ∀ W, ((w.alloc (.cells #[x0, x1, x2, x3] T)).alloc (.cells #[y0, y1, y2, y3] T)).alloc (.cells #[z0, z1, z2, z3] T) = W → W.heap[w.heap.size]? = some (.cells #[x0, x1, x2, x3] T (0, 0)) ∧ W.heap[w.heap.size + 1]? = some (.cells #[y0, y1, y2, y3] T (0, 0)) ∧ W.heap[w.heap.size + 2]? = some (.cells #[z0, z1, z2, z3] T (0, 0)) ∧ Below w.heap.size w W := by
  rintro W rfl
  have h := two_box x0 x1 x2 x3 y0 y1 y2 y3 T w _ rfl
  have hs : ((w.alloc (.cells #[x0, x1, x2, x3] T)).alloc (.cells #[y0, y1, y2, y3] T)).heap.size = w.heap.size + 2 := by simp
  have k := (Below.refl _ ((w.alloc (.cells #[x0, x1, x2, x3] T)).alloc (.cells #[y0, y1, y2, y3] T))).alloc (Nat.le_refl _) (.cells #[z0, z1, z2, z3] T)
  refine ⟨(k.block _ (by omega)).trans h.1, (k.block _ (by omega)).trans h.2.1, ?_, below_mono h.2.2 k (Nat.le_refl _)⟩
  rw [← hs]; exact heap_alloc_new _ _

set_option maxRecDepth 100000 in
set_option maxHeartbeats 16000000 in
theorem rsimple_any {S : Nat → Prop} {B : Nat} (hS : ∀ b, S b → b < B) (x : Tr) : ∀ (eo' : Option Addr) (ek' : Nat) (tb' : Option Addr) (tk' : Nat) (w : World), B ≤ w.heap.size → x.blt = true → TrOk S w x eo' ek' tb' tk' →
    Calls Try.prog 11 #[trV x eo' ek' tb' tk'] w (SimPost S w x.sim) := by
  induction x using Tr.ind with
  | h x IH =>
  intro eo' ek' tb' tk' w hB hb hx
  have hlen := blt_len hb
  have hsim := x.sim_eq
  obtain ⟨l, hl⟩ : ∃ l, l = x.exprs := ⟨_, rfl⟩
  obtain ⟨l2, hl2⟩ : ∃ l, l = x.terms := ⟨_, rfl⟩
  obtain ⟨m, hm⟩ : ∃ m, m = l.length := ⟨_, rfl⟩
  obtain ⟨m2, hm2⟩ : ∃ m, m = l2.length := ⟨_, rfl⟩
  obtain ⟨xo, hxo⟩ : ∃ v, v = x.op := ⟨_, rfl⟩
  obtain ⟨xs, hxs⟩ : ∃ v, v = x.nm := ⟨_, rfl⟩
  rw [show trV x eo' ek' tb' tk' = .agg #[.int .i64 xo, .string xs, .slice eo' m ek', .slice tb' m2 tk'] from by rw [hm, hm2, hl, hl2, hxo, hxs]]
  rw [← hl2] at IH hlen hsim
  rw [← hl, ← hxo] at hlen hsim
  rw [← hxs] at hsim
  rw [← hm, ← hm2] at hlen
  have hm7 : m2 < 1000 := by have := hlen.2.1; unfold kidT at this; (repeat' split at this) <;> omega
  obtain ⟨byy, hy⟩ : ∃ z, z = w.heap.size + 1 := ⟨_, rfl⟩
  obtain ⟨z, hz⟩ : ∃ z, z = w.heap.size := ⟨_, rfl⟩
  obtain ⟨o3, ho3⟩ : ∃ z, z = w.heap.size + 2 := ⟨_, rfl⟩
  have GA := Lib.hid (three_box (.int .i64 xo) (.string xs) (.slice eo' m ek') (.slice tb' m2 tk') (.int .i64 0) (.string ⟨#[]⟩) (.slice none 0 0) (.slice none 0 0) (.int .i64 xo) (.string xs) (.slice eo' m ek') (.slice none 0 0) 33 w)
  have HST : Hid (∀ W, Below w.heap.size w W → TrOk S W x eo' ek' tb' tk') := Lib.hid fun W hW => hx.next (fun b h => by have := hS b h; omega) hW
  have HX : Hid (∀ W, Below w.heap.size w W → TrL S W l2 tb') := Lib.hid fun W hW => by rw [hl2]; exact (HST.out W hW).te
  have HXE : Hid (∀ W, Below w.heap.size w W → ExL S W l eo') := Lib.hid fun W hW => by rw [hl]; exact (HST.out W hW).ex
  have HCE : Hid (m ≤ ek') := Lib.hid (by rw [hm, hl]; exact hx.ec)
  have HI : Hid (∀ y ∈ l2, ∀ (eo : Option Addr) (ek : Nat) (tb : Option Addr) (tk : Nat) W, Below w.heap.size w W → TrOk S W y eo ek tb tk → Calls Try.prog 11 #[trV y eo ek tb tk] W (SimPost S W y.sim)) := Lib.hid fun u hu eo ek tb tk W hW h => IH u hu eo ek tb tk W (by have := hW.size; omega) (hlen.2.2.1 u hu) h
  have HLEN := Lib.hid hlen
  have HSIM := Lib.hid hsim
  have HM := Lib.hid hm
  have HM2 := Lib.hid hm2
  have HL := Lib.hid (And.intro hl hl2)
  have HSB : Hid (∀ b, S b → b < w.heap.size) := Lib.hid fun b h => by have := hS b h; omega
  have HZY := Lib.hid (show byy ≠ z ∧ w.heap.size ≤ z ∧ w.heap.size ≤ byy ∧ byy = w.heap.size + 1 ∧ z = w.heap.size ∧ o3 = w.heap.size + 2 by omega)
  clear IH hb hx hlen hsim hl hl2 hm hm2 hxo hxs
  go_enter Try.func11, Try.ntmps11
  go_upto_region 1 with fail
  obtain ⟨c0, c1, c2, c3⟩ : (((w.alloc (.cells #[.int .i64 xo, .string xs, .slice eo' m ek', .slice tb' m2 tk'] 33)).alloc (.cells #[.int .i64 0, .string ⟨#[]⟩, .slice none 0 0, .slice none 0 0] 33)).cell? ⟨w.heap.size, 0, none⟩ = some (.int .i64 xo)) ∧ _ ∧ _ ∧ _ := quad (two_box (.int .i64 xo) (.string xs) (.slice eo' m ek') (.slice tb' m2 tk') (.int .i64 0) (.string ⟨#[]⟩) (.slice none 0 0) (.slice none 0 0) 33 w _ rfl).1
  go_upto_region 2 with fail
  clear c0 c1 c2 c3
  obtain ⟨W, hW⟩ : ∃ X, ((w.alloc (.cells #[.int .i64 xo, .string xs, .slice eo' m ek', .slice tb' m2 tk'] 33)).alloc (.cells #[.int .i64 0, .string ⟨#[]⟩, .slice none 0 0, .slice none 0 0] 33)).alloc (.cells #[.int .i64 xo, .string xs, .slice eo' m ek', .slice none 0 0] 33) = X := ⟨_, rfl⟩
  obtain ⟨b1, b2, b3, g1⟩ := GA.out W hW
  have HG := Lib.hid g1
  rw [← hz] at b1
  rw [← hy] at b2
  rw [← ho3] at b3
  rw [hW, ← hz, show z + 1 + 1 = o3 from by omega, show z + 1 = byy from by omega]
  have HB1 := Lib.hid b1
  have HB2 := Lib.hid b2
  have HB3 := Lib.hid b3
  have HO3W := Lib.hid (lt_of_heap b3)
  have HSWB : Hid (∀ b, S b → b < W.heap.size) := Lib.hid fun b h => by have := HSB.out b h; have := g1.size; omega
  clear hW b1 b2 b3 g1 GA hz hy ho3
  go_upto_region 3 with fail
  go_loopw [4] (fun v wr => ∃ (j : Nat) (va : Option Addr) (vc : Nat) (qs : List Q4), j ≤ m2 ∧ v = .int .i64 j ∧ Hid (qs.length = j ∧ Row4 wr W.heap.size 33 (.slice va j vc) qs ∧ Fits (QT (RJ S W.heap.size (.slice va j vc) wr) wr) ((l2.take j).map Tr.sim) qs) ∧ Hid (W.grownBy wr (some o3) ∧ wr.heap[o3]? = some (.cells #[.int .i64 xo, .string xs, .slice eo' m ek', .slice va j vc] 33 (0, 0)))) (fun v _ => m2 - (intOf v).toNat)
  case atStart => exact ⟨0, none, 0, [], by omega, rfl, Lib.hid ⟨rfl, Row4.nil _ _ _, by simpa using Fits.nil _⟩, Lib.hid ⟨World.grownBy.refl W _, HB3.out⟩⟩
  case round =>
    obtain ⟨j, va, vc, qs, hj, rfl, HR, HB⟩ := hrel
    have HBW : Hid (Below w.heap.size w wr) := Lib.hid (HG.out.grown HB.out.1 HG.out.size (fun g hg => by cases hg; have := HZY.out; omega))
    have hzw : z < W.heap.size ∧ byy < W.heap.size ∧ z ≠ o3 ∧ byy ≠ o3 := by have := HZY.out; have := HO3W.out; omega
    have HBZ : Hid (wr.heap[z]? = some (.cells #[.int .i64 xo, .string xs, .slice eo' m ek', .slice tb' m2 tk'] 33 (0, 0)) ∧ wr.heap[byy]? = some (.cells #[.int .i64 0, .string ⟨#[]⟩, .slice none 0 0, .slice none 0 0] 33 (0, 0))) := Lib.hid ⟨(HB.out.1.block z hzw.1 (by intro e; cases e; omega)).trans HB1.out, (HB.out.1.block byy hzw.2.1 (by intro e; cases e; omega)).trans HB2.out⟩
    clear hzw
    have c3 : wr.cell? ⟨z, 3, none⟩ = some (.slice tb' m2 tk') := cell_blk HBZ.out.1 3
    by_cases hlt : j < m2
    · obtain ⟨y, hy⟩ : ∃ y, l2[j]? = some y := ⟨_, List.getElem?_eq_getElem (by rw [← HM2.out]; exact hlt)⟩
      obtain ⟨a, eo, ek, tb, tk, rfl, hsa, hek, htk, ⟨y0, y1, y2, y3⟩, hel, htl⟩ := (HX.out wr HBW.out).get hy
      have htk1 : (l2.take (j + 1)).map Tr.sim = (l2.take j).map Tr.sim ++ [y.sim] := by rw [List.take_add_one, hy]; simp
      have CY : Hid (∀ W', Below wr.heap.size wr W' → Calls Try.prog 11 #[trV y eo ek tb tk] W' (SimPost S W' y.sim)) := Lib.hid fun W' hW' => HI.out y (List.mem_of_getElem? hy) eo ek tb tk W' (below_mono HBW.out hW' (Nat.le_refl _)) ⟨hek, htk, hel.stay (fun _ h => h) fun b hb => hW'.block b (by have := HSB.out b hb; have := HBW.out.size; omega), htl.stay (fun _ h => h) fun b hb => hW'.block b (by have := HSB.out b hb; have := HBW.out.size; omega)⟩
      obtain ⟨sy, hsy⟩ : ∃ v, v = y.sim := ⟨_, rfl⟩
      have HTK : Hid ((l2.take (j + 1)).map Tr.sim = (l2.take j).map Tr.sim ++ [sy]) := Lib.hid (by rw [htk1, hsy])
      rw [← hsy] at CY
      obtain ⟨em, hem⟩ : ∃ c, c = y.exprs.length := ⟨_, rfl⟩
      obtain ⟨tm, htm⟩ : ∃ c, c = y.terms.length := ⟨_, rfl⟩
      obtain ⟨yo, hyo⟩ : ∃ v, v = y.op := ⟨_, rfl⟩
      obtain ⟨ys, hys⟩ : ∃ v, v = y.nm := ⟨_, rfl⟩
      rw [← hem] at y2
      rw [← htm] at y3
      rw [← hyo] at y0
      rw [← hys] at y1
      rw [show trV y eo ek tb tk = .agg #[.int .i64 yo, .string ys, .slice eo em ek, .slice tb tm tk] from by rw [hem, htm, hyo, hys]] at CY
      obtain ⟨so, hso⟩ : ∃ v, v = sy.op := ⟨_, rfl⟩
      obtain ⟨ss, hss⟩ : ∃ v, v = sy.nm := ⟨_, rfl⟩
      obtain ⟨se, hse⟩ : ∃ v, v = sy.exprs.length := ⟨_, rfl⟩
      obtain ⟨st, hst⟩ : ∃ v, v = sy.terms.length := ⟨_, rfl⟩
      have HSY := Lib.hid (And.intro hso (And.intro hss (And.intro hse hst)))
      have hj1000 : j ≤ 1000 := by omega
      have HQL := Lib.hid HR.out.1
      have HOB := Lib.hid HB.out.2
      have HZC : Hid (FourX wr (a.add (j * 4)) (.int .i64 yo) (.string ys) (.slice eo em ek) (.slice tb tm tk) ∧ wr.cell? ⟨z, 3, none⟩ = some (.slice (some a) m2 tk')) := Lib.hid ⟨⟨y0, y1, y2, y3⟩, c3⟩
      obtain ⟨s0, s1, s2, s3⟩ := quad HOB.out
      have j0 : (0 : Int) ≤ (j : Int) := by omega
      have j1 : (j : Int) < (m2 : Int) := by omega
      clear hem htm hyo hys hsa hek htk hel htl hy htk1 hsy hso hss hse hst s0 s1 s2
      go_upto_region 5 with fail
      go_region_law (first | (refine step_appRo rfl _ _ rfl W.heap.size (.slice va j vc) qs rfl HR4A.out w4.heap.size so ss eo2 tb2 se ek2 st tk2 rfl H4A.out (by rw [HQL.out]; exact hj1000) HSZ4.out ?_; rw [HQL.out]; intro g' cap w5 hown hgr hor hgl; have hgr5 := hgr; have HR5 := Lib.hid hown; have HG5 := Lib.hid hgr5; have HO5 := Lib.hid hor; have HX5 := Lib.hid ((hgr5.block o3 (lt_of_heap (((HA4.out.block o3 (lt_of_heap H4B.out)).trans H4B.out))) (by intro e; have := (HR.out.2.1.lt e.symm).2; have := HO3W.out; omega)).trans ((HA4.out.block o3 (lt_of_heap H4B.out)).trans H4B.out)); have e3 : w5.cell? ⟨o3, 3, none⟩ = some (.slice va j vc) := cell_blk HX5.out 3; have f3 : w5.frozen? ⟨o3, 3, none⟩ = false := free_blk HX5.out 3; clear hown hgr hgr5 hor hgl) | (go_simp; go_wp2_with (go_at_call 11; (with_reducible refine (CY.out _ (by first | exact Below.refl _ _ | exact (Below.refl _ _).drew)).mono ?_); rintro e w4 ⟨⟨eo2, ek2, tb2, tk2, he, hok⟩, hb4⟩; obtain rfl : e = Ending.returned (.agg #[.int .i64 so, .string ss, .slice eo2 se ek2, .slice tb2 st tk2]) := (by rw [he, HSY.out.1, HSY.out.2.1, HSY.out.2.2.1, HSY.out.2.2.2]); have HB4 : Hid (Below wr.heap.size wr w4) := Lib.hid (by first | with_reducible exact hb4 | with_reducible exact undrawS hb4); have HOK := Lib.hid hok; have H4B := Lib.hid ((HB4.out.block o3 (lt_of_heap HOB.out)).trans HOB.out); have s3 : w4.cell? ⟨o3, 3, none⟩ = some (.slice va j vc) := cell_blk H4B.out 3; have HA4 := Lib.hid ((Below.refl w4.heap.size w4).alloc (Nat.le_refl _) (.cells #[.int .i64 so, .string ss, .slice eo2 se ek2, .slice tb2 st tk2] 33)); have H4A := Lib.hid (heap_alloc_new w4 (.cells #[.int .i64 so, .string ss, .slice eo2 se ek2, .slice tb2 st tk2] 33)); have HR4A := Lib.hid ((HR.out.2.1.stay (fun g hg => HB4.out.block g (HR.out.2.1.lt hg).1)).stay (fun g hg => HA4.out.block g (Nat.lt_of_lt_of_le (HR.out.2.1.lt hg).1 HB4.out.size))); have s3a : (w4.alloc (.cells #[.int .i64 so, .string ss, .slice eo2 se ek2, .slice tb2 st tk2] 33)).cell? ⟨o3, 3, none⟩ = some (.slice va j vc) := cell_blk ((HA4.out.block o3 (lt_of_heap H4B.out)).trans H4B.out) 3; have HSZ4 : Hid (W.heap.size ≤ (w4.alloc (.cells #[.int .i64 so, .string ss, .slice eo2 se ek2, .slice tb2 st tk2] 33)).heap.size) := Lib.hid (by have := HB.out.1.size; have := HB4.out.size; simp; omega); clear he hok hb4)))
      all_goals
        go_wp2_with fail
        go_roundw
        case rel =>
          have hs5 : (w5.setCell ⟨o3, 3, none⟩ (.slice (some ⟨g', 0, none⟩) (j + 1) cap)).heap.size = w5.heap.size := by simp
          have hg' : g' ≠ o3 := by
            have h1 := HO3W.out
            rcases HO5.out with h | h
            · have := (HR.out.2.1.lt h).2; omega
            · have := HSZ4.out; omega
          have hst : ∀ b, b ≠ o3 → (w5.setCell ⟨o3, 3, none⟩ (.slice (some ⟨g', 0, none⟩) (j + 1) cap)).heap[b]? = w5.heap[b]? := fun b hb => Below.heap_setCell _ _ _ _ hb
          refine ⟨j + 1, some ⟨g', 0, none⟩, cap, qs ++ [(.int .i64 so, .string ss, .slice eo2 se ek2, .slice tb2 st tk2)], by omega, by go_num, Lib.hid ⟨by rw [List.length_append, HQL.out]; rfl, HR5.out.stay (fun g hg => by cases hg; exact hst _ hg'), ?_⟩, Lib.hid ⟨only_set (grown_row (only_below HB.out.1 (below_mono HB4.out HA4.out (Nat.le_refl _))) HG5.out (fun g hg => (HR.out.2.1.lt hg).2)), heap_set_at (i := 3) _ HX5.out⟩⟩
          rw [HTK.out]
          have := rj_step (m := j + 1) (cap := cap) (w3 := wr) HSWB.out HB.out.1.size HB4.out (Nat.le_refl _) HR.out.2.1 HR.out.2.2 HOK.out HG5.out HO5.out
          rw [← HSY.out.1, ← HSY.out.2.1, ← HSY.out.2.2.1, ← HSY.out.2.2.2] at this
          refine this.imp fun x q hq => hq.stay (rj_more (by rw [hs5]; exact Nat.le_refl _)) fun b hb => hst b ?_
          rcases hb with h | ⟨h, _⟩
          · have := HSB.out b h; have := HZY.out; omega
          · have := HO3W.out; omega
        case measure => simp [intOf]; omega
    · obtain rfl : j = m2 := by omega
      have hfit := HR.out.2.2
      rw [List.take_of_length_le (by rw [HM2.out]; exact Nat.le_refl _)] at hfit
      have HQL := Lib.hid HR.out.1
      have HROW := Lib.hid HR.out.2.1
      have HFIT := Lib.hid hfit
      have HRR : Hid (∀ b, (RJ S W.heap.size (.slice va j vc) wr b ∨ (Value.slice va j vc).ownBlock = some b) → b ≠ byy ∧ (S b ∨ (w.heap.size ≤ b ∧ b < wr.heap.size))) := Lib.hid (by
        intro b hb
        have hw := HZY.out
        have hwW := HG.out.size
        have hWr := HB.out.1.size
        have ho := HO3W.out
        rcases hb with hb | hb
        · rcases hb with h | ⟨h1, h2, _⟩
          · exact ⟨by have := HSB.out b h; omega, .inl h⟩
          · exact ⟨by omega, .inr ⟨by omega, h2⟩⟩
        · have := HROW.out.lt hb
          exact ⟨by omega, .inr ⟨by omega, this.1⟩⟩)
      have HOO := Lib.hid HB.out.2
      have HBX := HBW
      have HTT := Lib.hid (HROW.out.toT HFIT.out)
      have HEX := Lib.hid (HXE.out wr HBW.out)
      have HVC : Hid (j ≤ vc) := Lib.hid (by obtain ⟨a, c, e, h⟩ := HROW.out.form; have := HQL.out; injection e with _ e2 e3; omega)
      have hlen := HLEN.out
      clear c3
      obtain ⟨c0, c1, c2, c3⟩ := quad HBZ.out.1
      obtain ⟨d0, d1, d2, d3⟩ := quad HBZ.out.2
      obtain ⟨r0, r1, r2, r3⟩ := quad HOO.out
      have p0 : wr.frozen? ⟨byy, 0, none⟩ = false := free_blk HBZ.out.2 0
      have p1 : wr.frozen? ⟨byy, 1, none⟩ = false := free_blk HBZ.out.2 1
      have p2 : wr.frozen? ⟨byy, 2, none⟩ = false := free_blk HBZ.out.2 2
      have p3 : wr.frozen? ⟨byy, 3, none⟩ = false := free_blk HBZ.out.2 3
      have HXL := Lib.hid (lt_of_heap HBZ.out.2)
      clear hfit HR HX HI HB1 HB2 HB3
      -- t itself
      have HSELF : Hid (TrOk (fun b => RJ S W.heap.size (.slice va j vc) wr b ∨ (Value.slice va j vc).ownBlock = some b) wr (.mk xo xs l (l2.map Tr.sim)) eo' ek' va vc) := Lib.hid ⟨by show l.length ≤ ek'; rw [← HM.out]; exact HCE.out, by show (l2.map Tr.sim).length ≤ vc; rw [List.length_map, ← HM2.out]; exact HVC.out, (HEX.out.stay (fun b hb => .inl (.inl hb)) (fun _ _ => rfl)), HTT.out⟩
      have HFS : Hid (x.sim = .mk xo xs l (l2.map Tr.sim) → ∀ x0 x1 x2 x3, SimPost S w x.sim (.returned (.agg #[.int .i64 xo, .string xs, .slice eo' m ek', .slice va j vc])) ((((wr.setCell ⟨byy, 0, none⟩ x0).setCell ⟨byy, 1, none⟩ x1).setCell ⟨byy, 2, none⟩ x2).setCell ⟨byy, 3, none⟩ x3)) := Lib.hid fun h x0 x1 x2 x3 => by
        have := sim_fin HBX.out HZY.out.2.2.1 HRR.out HSELF.out x0 x1 x2 x3
        rw [← h] at this
        have e : trV (Tr.mk xo xs l (l2.map Tr.sim)) eo' ek' va vc = .agg #[.int .i64 xo, .string xs, .slice eo' m ek', .slice va j vc] := by
          show Value.agg #[.int .i64 xo, .string xs, .slice eo' l.length ek', .slice va (l2.map Tr.sim).length vc] = _
          rw [List.length_map, ← HM.out, ← HM2.out]
        rw [h, e] at this
        rw [h]
        exact this
      by_cases q1 : xo = 1
      · subst q1
        go_wp2_with fail
        exact bodyPost_ret (v := .agg #[.int .i64 1, .string xs, .slice eo' m ek', .slice va j vc]) (by simp [results, Try.results11, go_sem, d0, d1, d2, d3, p0, p1, p2, p3, HXL.out]) rfl (HFS.out (by rw [HSIM.out]; rfl) _ _ _ _)
      · have g1 : (xo == 1) = false := by simp [q1]
        by_cases q2 : xo = 2
        · subst q2
          go_wp2_with fail
          exact bodyPost_ret (v := .agg #[.int .i64 2, .string xs, .slice eo' m ek', .slice va j vc]) (by simp [results, Try.results11, go_sem, d0, d1, d2, d3, p0, p1, p2, p3, HXL.out]) rfl (HFS.out (by rw [HSIM.out]; rfl) _ _ _ _)
        · have g2 : (xo == 2) = false := by simp [q2]
          by_cases q5 : xo = 5
          · subst q5
            go_wp2_with fail
            exact bodyPost_ret (v := .agg #[.int .i64 5, .string xs, .slice eo' m ek', .slice va j vc]) (by simp [results, Try.results11, go_sem, d0, d1, d2, d3, p0, p1, p2, p3, HXL.out]) rfl (HFS.out (by rw [HSIM.out]; rfl) _ _ _ _)
          · have g5 : (xo == 5) = false := by simp [q5]
            by_cases q9 : xo = 9
            · subst q9
              go_wp2_with fail
              exact bodyPost_ret (v := .agg #[.int .i64 9, .string xs, .slice eo' m ek', .slice va j vc]) (by simp [results, Try.results11, go_sem, d0, d1, d2, d3, p0, p1, p2, p3, HXL.out]) rfl (HFS.out (by rw [HSIM.out]; rfl) _ _ _ _)
            · have g9 : (xo == 9) = false := by simp [q9]
              by_cases q4 : xo = 4
              · subst q4
                obtain ⟨u0, u1, hl2⟩ := two_terms (l := l2) (by rw [← HM2.out]; have := hlen.2.1; simp [kidT] at this; omega)
                obtain rfl : j = 2 := by have := hlen.2.1; simp [kidT] at this; omega
                subst hl2
                obtain ⟨q0, hq0, eo0, ek0, tb0, tk0, rfl, hc0, hd0, hx0, ht0⟩ := HFIT.out.get (i := 0) (x := u0.sim) rfl
                have HE0 : Hid (∀ x0 x1 x2 x3, SimPost S w u0.sim (.returned (trV u0.sim eo0 ek0 tb0 tk0)) ((((wr.setCell ⟨byy, 0, none⟩ x0).setCell ⟨byy, 1, none⟩ x1).setCell ⟨byy, 2, none⟩ x2).setCell ⟨byy, 3, none⟩ x3)) := Lib.hid fun x0 x1 x2 x3 => sim_fin HBX.out HZY.out.2.2.1 HRR.out (TrOk.stay (S := RJ S W.heap.size (.slice va 2 vc) wr) ⟨hc0, hd0, hx0, ht0⟩ (fun b hb => .inl hb) (fun _ _ => rfl)) x0 x1 x2 x3
                obtain ⟨q1, hq1, eo1, ek1, tb1, tk1, rfl, hc1, hd1, hx1, ht1⟩ := HFIT.out.get (i := 1) (x := u1.sim) rfl
                have HE1 : Hid (∀ x0 x1 x2 x3, SimPost S w u1.sim (.returned (trV u1.sim eo1 ek1 tb1 tk1)) ((((wr.setCell ⟨byy, 0, none⟩ x0).setCell ⟨byy, 1, none⟩ x1).setCell ⟨byy, 2, none⟩ x2).setCell ⟨byy, 3, none⟩ x3)) := Lib.hid fun x0 x1 x2 x3 => sim_fin HBX.out HZY.out.2.2.1 HRR.out (TrOk.stay (S := RJ S W.heap.size (.slice va 2 vc) wr) ⟨hc1, hd1, hx1, ht1⟩ (fun b hb => .inl hb) (fun _ _ => rfl)) x0 x1 x2 x3
                obtain ⟨g, rfl, hg, hgB, hk0⟩ := HROW.out.get hq0
                obtain ⟨k0, k1, k2, k3⟩ := four_zero hk0
                obtain ⟨s0, hs0⟩ : ∃ v, v = u0.sim.op := ⟨_, rfl⟩
                obtain ⟨n0, hn0⟩ : ∃ v, v = u0.sim.nm := ⟨_, rfl⟩
                obtain ⟨e0, he0⟩ : ∃ v, v = u0.sim.exprs.length := ⟨_, rfl⟩
                obtain ⟨t0, hte0⟩ : ∃ v, v = u0.sim.terms.length := ⟨_, rfl⟩
                dsimp only at k0 k1 k2 k3
                rw [← hs0] at k0
                rw [← hn0] at k1
                rw [← he0] at k2
                rw [← hte0] at k3
                rw [show trV u0.sim eo0 ek0 tb0 tk0 = .agg #[.int .i64 s0, .string n0, .slice eo0 e0 ek0, .slice tb0 t0 tk0] from by rw [hs0, hn0, he0, hte0]] at HE0
                have HS0 := Lib.hid hs0
                obtain ⟨g', e', _, _, hk1⟩ := HROW.out.get hq1
                cases e'
                obtain ⟨k4, k5, k6, k7⟩ := four_one hk1
                obtain ⟨s1, hs1⟩ : ∃ v, v = u1.sim.op := ⟨_, rfl⟩
                obtain ⟨n1, hn1⟩ : ∃ v, v = u1.sim.nm := ⟨_, rfl⟩
                obtain ⟨e1, he1⟩ : ∃ v, v = u1.sim.exprs.length := ⟨_, rfl⟩
                obtain ⟨t1, hte1⟩ : ∃ v, v = u1.sim.terms.length := ⟨_, rfl⟩
                dsimp only at k4 k5 k6 k7
                rw [← hs1] at k4
                rw [← hn1] at k5
                rw [← he1] at k6
                rw [← hte1] at k7
                rw [show trV u1.sim eo1 ek1 tb1 tk1 = .agg #[.int .i64 s1, .string n1, .slice eo1 e1 ek1, .slice tb1 t1 tk1] from by rw [hs1, hn1, he1, hte1]] at HE1
                have HS1 := Lib.hid hs1
                clear hs0 hn0 he0 hte0 hq0 hc0 hd0 hx0 ht0 hk0 hs1 hn1 he1 hte1 hq1 hc1 hd1 hx1 ht1 hk1 hg hgB hlen
                by_cases h0 : s0 = 1
                · subst h0
                  go_wp2_with fail
                  exact bodyPost_ret (v := .agg #[.int .i64 s1, .string n1, .slice eo1 e1 ek1, .slice tb1 t1 tk1]) (by simp [results, Try.results11, go_sem, d0, d1, d2, d3, p0, p1, p2, p3, HXL.out]) rfl (by rw [show x.sim = u1.sim from by rw [HSIM.out]; simp [simN_four, simN_three, simN_six, simN_seven, simN_eight, ← HS0.out]]; exact HE1.out _ _ _ _)
                · have f0 : (s0 == 1) = false := by simp [h0]
                  by_cases h1 : s1 = 1
                  · subst h1
                    go_wp2_with fail
                    exact bodyPost_ret (v := .agg #[.int .i64 s0, .string n0, .slice eo0 e0 ek0, .slice tb0 t0 tk0]) (by simp [results, Try.results11, go_sem, d0, d1, d2, d3, p0, p1, p2, p3, HXL.out]) rfl (by rw [show x.sim = u0.sim from by rw [HSIM.out]; simp [simN_four, simN_three, simN_six, simN_seven, simN_eight, ← HS0.out, ← HS1.out, h0]]; exact HE0.out _ _ _ _)
                  · have f1 : (s1 == 1) = false := by simp [h1]
                    go_wp2_with fail
                    exact bodyPost_ret (v := .agg #[.int .i64 4, .string xs, .slice eo' m ek', .slice (some ⟨g, 0, none⟩) 2 vc]) (by simp [results, Try.results11, go_sem, d0, d1, d2, d3, p0, p1, p2, p3, HXL.out]) rfl (HFS.out (by rw [HSIM.out]; simp [simN_four, simN_three, simN_six, simN_seven, simN_eight, ← HS0.out, ← HS1.out, h0, h1]) _ _ _ _)
              · have g4 : (xo == 4) = false := by simp [q4]
                by_cases q3 : xo = 3
                · subst q3
                  obtain ⟨u0, hl2⟩ := one_of (l := l2) (by rw [← HM2.out]; have := hlen.2.1; simp [kidT] at this; omega)
                  obtain rfl : j = 1 := by have := hlen.2.1; simp [kidT] at this; omega
                  subst hl2
                  obtain ⟨q0, hq0, eo0, ek0, tb0, tk0, rfl, hc0, hd0, hx0, ht0⟩ := HFIT.out.get (i := 0) (x := u0.sim) rfl
                  have HE0 : Hid (∀ x0 x1 x2 x3, SimPost S w u0.sim (.returned (trV u0.sim eo0 ek0 tb0 tk0)) ((((wr.setCell ⟨byy, 0, none⟩ x0).setCell ⟨byy, 1, none⟩ x1).setCell ⟨byy, 2, none⟩ x2).setCell ⟨byy, 3, none⟩ x3)) := Lib.hid fun x0 x1 x2 x3 => sim_fin HBX.out HZY.out.2.2.1 HRR.out (TrOk.stay (S := RJ S W.heap.size (.slice va 1 vc) wr) ⟨hc0, hd0, hx0, ht0⟩ (fun b hb => .inl hb) (fun _ _ => rfl)) x0 x1 x2 x3
                  obtain ⟨g, rfl, hg, hgB, hk0⟩ := HROW.out.get hq0
                  obtain ⟨k0, k1, k2, k3⟩ := four_zero hk0
                  obtain ⟨s0, hs0⟩ : ∃ v, v = u0.sim.op := ⟨_, rfl⟩
                  obtain ⟨n0, hn0⟩ : ∃ v, v = u0.sim.nm := ⟨_, rfl⟩
                  obtain ⟨e0, he0⟩ : ∃ v, v = u0.sim.exprs.length := ⟨_, rfl⟩
                  obtain ⟨t0, hte0⟩ : ∃ v, v = u0.sim.terms.length := ⟨_, rfl⟩
                  dsimp only at k0 k1 k2 k3
                  rw [← hs0] at k0
                  rw [← hn0] at k1
                  rw [← he0] at k2
                  rw [← hte0] at k3
                  rw [show trV u0.sim eo0 ek0 tb0 tk0 = .agg #[.int .i64 s0, .string n0, .slice eo0 e0 ek0, .slice tb0 t0 tk0] from by rw [hs0, hn0, he0, hte0]] at HE0
                  have HS0 := Lib.hid hs0
                  by_cases h0 : s0 = 3
                  · have hu := sim_blt u0 (hlen.2.2.1 u0 (List.mem_cons_self ..))
                    have hul := (blt_len hu).2.1
                    rw [← HS0.out, h0] at hul
                    obtain ⟨v0, hv0⟩ := one_of (l := u0.sim.terms) (by simp [kidT] at hul; omega)
                    obtain ⟨aa, eo2, ek2, tb2, tk2, rfl, hsa, hc2, hd2, ⟨m0, m1, m2', m3⟩, hx2, ht2⟩ := ht0.get (i := 0) (x := v0) (by rw [hv0]; rfl)
                    have HE2 : Hid (∀ x0 x1 x2 x3, SimPost S w v0 (.returned (trV v0 eo2 ek2 tb2 tk2)) ((((wr.setCell ⟨byy, 0, none⟩ x0).setCell ⟨byy, 1, none⟩ x1).setCell ⟨byy, 2, none⟩ x2).setCell ⟨byy, 3, none⟩ x3)) := Lib.hid fun x0 x1 x2 x3 => sim_fin HBX.out HZY.out.2.2.1 HRR.out (TrOk.stay (S := RJ S W.heap.size (.slice (some ⟨g, 0, none⟩) 1 vc) wr) ⟨hc2, hd2, hx2, ht2⟩ (fun b hb => .inl hb) (fun _ _ => rfl)) x0 x1 x2 x3
                    obtain ⟨s2, hs2⟩ : ∃ v, v = v0.op := ⟨_, rfl⟩
                    obtain ⟨n2, hn2⟩ : ∃ v, v = v0.nm := ⟨_, rfl⟩
                    obtain ⟨e2, he2⟩ : ∃ v, v = v0.exprs.length := ⟨_, rfl⟩
                    obtain ⟨t2, hte2⟩ : ∃ v, v = v0.terms.length := ⟨_, rfl⟩
                    rw [← hs2] at m0
                    rw [← hn2] at m1
                    rw [← he2] at m2'
                    rw [← hte2] at m3
                    rw [show trV v0 eo2 ek2 tb2 tk2 = .agg #[.int .i64 s2, .string n2, .slice eo2 e2 ek2, .slice tb2 t2 tk2] from by rw [hs2, hn2, he2, hte2]] at HE2
                    have HV0 := Lib.hid hv0
                    have ht01 : t0 = 1 := by rw [hte0, hv0]; rfl
                    subst ht01
                    rw [Nat.zero_mul, addr_zero] at m0 m1 m2' m3
                    subst h0
                    clear hs2 hn2 he2 hte2 hv0 hul hu hsa hc2 hd2 hx2 ht2 hs0 hn0 he0 hte0 hq0 hc0 hd0 hx0 ht0 hk0 hg hgB hlen
                    go_wp2_with fail
                    exact bodyPost_ret (v := .agg #[.int .i64 s2, .string n2, .slice eo2 e2 ek2, .slice tb2 t2 tk2]) (by simp [results, Try.results11, go_sem, d0, d1, d2, d3, p0, p1, p2, p3, HXL.out]) rfl (by rw [show x.sim = v0 from by rw [HSIM.out]; simp [simN_four, simN_three, simN_six, simN_seven, simN_eight, ← HS0.out, HV0.out]]; exact HE2.out _ _ _ _)
                  · have f0 : (s0 == 3) = false := by simp [h0]
                    clear hs0 hn0 he0 hte0 hq0 hc0 hd0 hx0 ht0 hk0 hg hgB hlen
                    by_cases h1 : s0 = 1
                    · subst h1
                      go_wp2_with fail
                      exact bodyPost_ret (v := .agg #[.int .i64 1, .string n0, .slice eo0 e0 ek0, .slice tb0 t0 tk0]) (by simp [results, Try.results11, go_sem, d0, d1, d2, d3, p0, p1, p2, p3, HXL.out]) rfl (by rw [show x.sim = u0.sim from by rw [HSIM.out]; simp [simN_four, simN_three, simN_six, simN_seven, simN_eight, ← HS0.out]]; exact HE0.out _ _ _ _)
                    · have f1 : (s0 == 1) = false := by simp [h1]
                      go_wp2_with fail
                      exact bodyPost_ret (v := .agg #[.int .i64 3, .string xs, .slice eo' m ek', .slice (some ⟨g, 0, none⟩) 1 vc]) (by simp [results, Try.results11, go_sem, d0, d1, d2, d3, p0, p1, p2, p3, HXL.out]) rfl (HFS.out (by rw [HSIM.out]; simp [simN_four, simN_three, simN_six, simN_seven, simN_eight, ← HS0.out, h0, h1]) _ _ _ _)
                · have g3 : (xo == 3) = false := by simp [q3]
                  by_cases q7 : xo = 7
                  · subst q7
                    obtain ⟨u0, hl2⟩ := one_of (l := l2) (by rw [← HM2.out]; have := hlen.2.1; simp [kidT] at this; omega)
                    obtain rfl : j = 1 := by have := hlen.2.1; simp [kidT] at this; omega
                    subst hl2
                    obtain ⟨q0, hq0, eo0, ek0, tb0, tk0, rfl, hc0, hd0, hx0, ht0⟩ := HFIT.out.get (i := 0) (x := u0.sim) rfl
                    have HE0 : Hid (∀ x0 x1 x2 x3, SimPost S w u0.sim (.returned (trV u0.sim eo0 ek0 tb0 tk0)) ((((wr.setCell ⟨byy, 0, none⟩ x0).setCell ⟨byy, 1, none⟩ x1).setCell ⟨byy, 2, none⟩ x2).setCell ⟨byy, 3, none⟩ x3)) := Lib.hid fun x0 x1 x2 x3 => sim_fin HBX.out HZY.out.2.2.1 HRR.out (TrOk.stay (S := RJ S W.heap.size (.slice va 1 vc) wr) ⟨hc0, hd0, hx0, ht0⟩ (fun b hb => .inl hb) (fun _ _ => rfl)) x0 x1 x2 x3
                    obtain ⟨g, rfl, hg, hgB, hk0⟩ := HROW.out.get hq0
                    obtain ⟨k0, k1, k2, k3⟩ := four_zero hk0
                    obtain ⟨s0, hs0⟩ : ∃ v, v = u0.sim.op := ⟨_, rfl⟩
                    obtain ⟨n0, hn0⟩ : ∃ v, v = u0.sim.nm := ⟨_, rfl⟩
                    obtain ⟨e0, he0⟩ : ∃ v, v = u0.sim.exprs.length := ⟨_, rfl⟩
                    obtain ⟨t0, hte0⟩ : ∃ v, v = u0.sim.terms.length := ⟨_, rfl⟩
                    dsimp only at k0 k1 k2 k3
                    rw [← hs0] at k0
                    rw [← hn0] at k1
                    rw [← he0] at k2
                    rw [← hte0] at k3
                    rw [show trV u0.sim eo0 ek0 tb0 tk0 = .agg #[.int .i64 s0, .string n0, .slice eo0 e0 ek0, .slice tb0 t0 tk0] from by rw [hs0, hn0, he0, hte0]] at HE0
                    have HS0 := Lib.hid hs0
                    clear hs0 hn0 he0 hte0 hq0 hc0 hd0 hx0 ht0 hk0 hg hgB hlen
                    by_cases h1 : s0 = 1
                    · subst h1
                      go_wp2_with fail
                      exact bodyPost_ret (v := .agg #[.int .i64 1, .string n0, .slice eo0 e0 ek0, .slice tb0 t0 tk0]) (by simp [results, Try.results11, go_sem, d0, d1, d2, d3, p0, p1, p2, p3, HXL.out]) rfl (by rw [show x.sim = u0.sim from by rw [HSIM.out]; simp [simN_four, simN_three, simN_six, simN_seven, simN_eight, ← HS0.out]]; exact HE0.out _ _ _ _)
                    · have f1 : (s0 == 1) = false := by simp [h1]
                      go_wp2_with fail
                      exact bodyPost_ret (v := .agg #[.int .i64 7, .string xs, .slice eo' m ek', .slice (some ⟨g, 0, none⟩) 1 vc]) (by simp [results, Try.results11, go_sem, d0, d1, d2, d3, p0, p1, p2, p3, HXL.out]) rfl (HFS.out (by rw [HSIM.out]; simp [simN_four, simN_three, simN_six, simN_seven, simN_eight, ← HS0.out, h1]) _ _ _ _)
                  · have g7 : (xo == 7) = false := by simp [q7]
                    by_cases q8 : xo = 8
                    · subst q8
                      obtain ⟨u0, hl2⟩ := one_of (l := l2) (by rw [← HM2.out]; have := hlen.2.1; simp [kidT] at this; omega)
                      obtain rfl : j = 1 := by have := hlen.2.1; simp [kidT] at this; omega
                      subst hl2
                      obtain ⟨q0, hq0, eo0, ek0, tb0, tk0, rfl, hc0, hd0, hx0, ht0⟩ := HFIT.out.get (i := 0) (x := u0.sim) rfl
                      have HE0 : Hid (∀ x0 x1 x2 x3, SimPost S w u0.sim (.returned (trV u0.sim eo0 ek0 tb0 tk0)) ((((wr.setCell ⟨byy, 0, none⟩ x0).setCell ⟨byy, 1, none⟩ x1).setCell ⟨byy, 2, none⟩ x2).setCell ⟨byy, 3, none⟩ x3)) := Lib.hid fun x0 x1 x2 x3 => sim_fin HBX.out HZY.out.2.2.1 HRR.out (TrOk.stay (S := RJ S W.heap.size (.slice va 1 vc) wr) ⟨hc0, hd0, hx0, ht0⟩ (fun b hb => .inl hb) (fun _ _ => rfl)) x0 x1 x2 x3
                      obtain ⟨g, rfl, hg, hgB, hk0⟩ := HROW.out.get hq0
                      obtain ⟨k0, k1, k2, k3⟩ := four_zero hk0
                      obtain ⟨s0, hs0⟩ : ∃ v, v = u0.sim.op := ⟨_, rfl⟩
                      obtain ⟨n0, hn0⟩ : ∃ v, v = u0.sim.nm := ⟨_, rfl⟩
                      obtain ⟨e0, he0⟩ : ∃ v, v = u0.sim.exprs.length := ⟨_, rfl⟩
                      obtain ⟨t0, hte0⟩ : ∃ v, v = u0.sim.terms.length := ⟨_, rfl⟩
                      dsimp only at k0 k1 k2 k3
                      rw [← hs0] at k0
                      rw [← hn0] at k1
                      rw [← he0] at k2
                      rw [← hte0] at k3
                      rw [show trV u0.sim eo0 ek0 tb0 tk0 = .agg #[.int .i64 s0, .string n0, .slice eo0 e0 ek0, .slice tb0 t0 tk0] from by rw [hs0, hn0, he0, hte0]] at HE0
                      have HS0 := Lib.hid hs0
                      clear hs0 hn0 he0 hte0 hq0 hc0 hd0 hx0 ht0 hk0 hg hgB hlen
                      by_cases h1 : s0 = 1
                      · subst h1
                        go_wp2_with fail
                        exact bodyPost_ret (v := .agg #[.int .i64 1, .string n0, .slice eo0 e0 ek0, .slice tb0 t0 tk0]) (by simp [results, Try.results11, go_sem, d0, d1, d2, d3, p0, p1, p2, p3, HXL.out]) rfl (by rw [show x.sim = u0.sim from by rw [HSIM.out]; simp [simN_four, simN_three, simN_six, simN_seven, simN_eight, ← HS0.out]]; exact HE0.out _ _ _ _)
                      · have f1 : (s0 == 1) = false := by simp [h1]
                        go_wp2_with fail
                        exact bodyPost_ret (v := .agg #[.int .i64 8, .string xs, .slice eo' m ek', .slice (some ⟨g, 0, none⟩) 1 vc]) (by simp [results, Try.results11, go_sem, d0, d1, d2, d3, p0, p1, p2, p3, HXL.out]) rfl (HFS.out (by rw [HSIM.out]; simp [simN_four, simN_three, simN_six, simN_seven, simN_eight, ← HS0.out, h1]) _ _ _ _)
                    · have g8 : (xo == 8) = false := by simp [q8]
                      by_cases q6 : xo = 6
                      · subst q6
                        obtain ⟨u0, hl2⟩ := one_of (l := l2) (by rw [← HM2.out]; have := hlen.2.1; simp [kidT] at this; omega)
                        obtain rfl : j = 1 := by have := hlen.2.1; simp [kidT] at this; omega
                        subst hl2
                        obtain ⟨q0, hq0, eo0, ek0, tb0, tk0, rfl, hc0, hd0, hx0, ht0⟩ := HFIT.out.get (i := 0) (x := u0.sim) rfl
                        have HE0 : Hid (∀ x0 x1 x2 x3, SimPost S w u0.sim (.returned (trV u0.sim eo0 ek0 tb0 tk0)) ((((wr.setCell ⟨byy, 0, none⟩ x0).setCell ⟨byy, 1, none⟩ x1).setCell ⟨byy, 2, none⟩ x2).setCell ⟨byy, 3, none⟩ x3)) := Lib.hid fun x0 x1 x2 x3 => sim_fin HBX.out HZY.out.2.2.1 HRR.out (TrOk.stay (S := RJ S W.heap.size (.slice va 1 vc) wr) ⟨hc0, hd0, hx0, ht0⟩ (fun b hb => .inl hb) (fun _ _ => rfl)) x0 x1 x2 x3
                        obtain ⟨g, rfl, hg, hgB, hk0⟩ := HROW.out.get hq0
                        obtain ⟨k0, k1, k2, k3⟩ := four_zero hk0
                        obtain ⟨s0, hs0⟩ : ∃ v, v = u0.sim.op := ⟨_, rfl⟩
                        obtain ⟨n0, hn0⟩ : ∃ v, v = u0.sim.nm := ⟨_, rfl⟩
                        obtain ⟨e0, he0⟩ : ∃ v, v = u0.sim.exprs.length := ⟨_, rfl⟩
                        obtain ⟨t0, hte0⟩ : ∃ v, v = u0.sim.terms.length := ⟨_, rfl⟩
                        dsimp only at k0 k1 k2 k3
                        rw [← hs0] at k0
                        rw [← hn0] at k1
                        rw [← he0] at k2
                        rw [← hte0] at k3
                        rw [show trV u0.sim eo0 ek0 tb0 tk0 = .agg #[.int .i64 s0, .string n0, .slice eo0 e0 ek0, .slice tb0 t0 tk0] from by rw [hs0, hn0, he0, hte0]] at HE0
                        have HS0 := Lib.hid hs0
                        obtain ⟨ev, hev⟩ := one_of (l := l) (by rw [← HM.out]; have := hlen.1; simp [kidE] at this; omega)
                        obtain rfl : m = 1 := by have := hlen.1; simp [kidE] at this; omega
                        subst hev
                        obtain ⟨ea, eb, ec, rfl, _, hec, ⟨m0, m1, m2', m3⟩, hel⟩ := HEX.out.get (i := 0) (x := ev) rfl
                        rw [Nat.zero_mul, addr_zero] at m0 m1 m2' m3
                        obtain ⟨oo, hoo⟩ : ∃ v, v = ev.op := ⟨_, rfl⟩
                        obtain ⟨on, hon⟩ : ∃ v, v = ev.n := ⟨_, rfl⟩
                        rw [← hoo] at m0
                        rw [← hon] at m1
                        have HOI : Hid (ev.isO = (decide (oo = 1) && decide (on = 1))) := Lib.hid (by rw [hoo, hon]; rfl)
                        clear hoo hon hec hel
                        clear hs0 hn0 he0 hte0 hq0 hc0 hd0 hx0 ht0 hk0 hg hgB hlen
                        by_cases h1 : s0 = 1
                        · subst h1
                          go_wp2_with fail
                          exact bodyPost_ret (v := .agg #[.int .i64 1, .string n0, .slice eo0 e0 ek0, .slice tb0 t0 tk0]) (by simp [results, Try.results11, go_sem, d0, d1, d2, d3, p0, p1, p2, p3, HXL.out]) rfl (by rw [show x.sim = u0.sim from by rw [HSIM.out]; simp [simN_six, ← HS0.out]]; exact HE0.out _ _ _ _)
                        · have f1 : (s0 == 1) = false := by simp [h1]
                          by_cases h2 : oo = 1
                          · subst h2
                            by_cases h3 : on = 1
                            · subst h3
                              go_wp2_with fail
                              exact bodyPost_ret (v := .agg #[.int .i64 s0, .string n0, .slice eo0 e0 ek0, .slice tb0 t0 tk0]) (by simp [results, Try.results11, go_sem, d0, d1, d2, d3, p0, p1, p2, p3, HXL.out]) rfl (by rw [show x.sim = u0.sim from by rw [HSIM.out]; simp [simN_six, HOI.out]]; exact HE0.out _ _ _ _)
                            · have f3 : (on == 1) = false := by simp [h3]
                              go_wp2_with fail
                              exact bodyPost_ret (v := .agg #[.int .i64 6, .string xs, .slice (some ea) 1 ek', .slice (some ⟨g, 0, none⟩) 1 vc]) (by simp [results, Try.results11, go_sem, d0, d1, d2, d3, p0, p1, p2, p3, HXL.out]) rfl (HFS.out (by rw [HSIM.out]; simp [simN_six, HOI.out, ← HS0.out, h1, h3]) _ _ _ _)
                          · have f2 : (oo == 1) = false := by simp [h2]
                            go_wp2_with fail
                            exact bodyPost_ret (v := .agg #[.int .i64 6, .string xs, .slice (some ea) 1 ek', .slice (some ⟨g, 0, none⟩) 1 vc]) (by simp [results, Try.results11, go_sem, d0, d1, d2, d3, p0, p1, p2, p3, HXL.out]) rfl (HFS.out (by rw [HSIM.out]; simp [simN_six, HOI.out, ← HS0.out, h1, h2]) _ _ _ _)
                      · exfalso
                        have := hlen.1
                        unfold kidE at this
                        (repeat' split at this) <;> omega
end Go.Proofs.Ytepoihokbcoidaa
