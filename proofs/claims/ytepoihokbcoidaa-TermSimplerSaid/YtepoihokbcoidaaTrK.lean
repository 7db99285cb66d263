/- Trees: the program's simple, walked. Conditions: those written at each theorem. -/
import Derived.Test.YtepoihokbcoidaaTrI
namespace Go.Proofs.Ytepoihokbcoidaa
open Go.RowKit Go.PlainAid
set_option linter.unusedVariables false
set_option linter.unusedSimpArgs false
/-- The blocks in which trees of a row stand. -/
def RJ (S : Nat → Prop) (B : Nat) (v : Value) (w : World) : Nat → Prop := fun b => S b ∨ (B ≤ b ∧ b < w.heap.size ∧ v.ownBlock ≠ some b)
theorem rj_push {S : Nat → Prop} {B g' n : Nat} {va : Option Addr} {vc cap : Nat} {w w' : World} (hS : ∀ b, S b → b < B) (hg : w.grownBy w' (Value.slice va n vc).ownBlock) (hgr : (Value.slice va n vc).ownBlock = some g' ∨ g' = w.heap.size) {m : Nat} {T : TypeId} {qs : List Q4} (hrow : Row4 w B T (.slice va n vc) qs) :
    ∀ b, RJ S B (.slice va n vc) w b → RJ S B (.slice (some ⟨g', 0, none⟩) m cap) w' b := by
  intro b hb
  rcases hb with hb | ⟨h1, h2, h3⟩
  · exact .inl hb
  · refine .inr ⟨h1, Nat.lt_of_lt_of_le h2 hg.size, ?_⟩
    intro e
    have e2 : g' = b := by injection e
    rcases hgr with h | h
    · rw [h, e2] at h3; exact h3 rfl
    · omega
theorem rj_keep {S : Nat → Prop} {B n : Nat} {va : Option Addr} {vc : Nat} {w w' : World} (hS : ∀ b, S b → b < B) (hB : B ≤ w.heap.size) (hg : w.grownBy w' (Value.slice va n vc).ownBlock) {T : TypeId} {qs : List Q4} (hrow : Row4 w B T (.slice va n vc) qs) :
    ∀ b, RJ S B (.slice va n vc) w b → w'.heap[b]? = w.heap[b]? := by
  intro b hb
  rcases hb with hb | ⟨h1, h2, h3⟩
  · refine hg.block b (Nat.lt_of_lt_of_le (hS b hb) hB) fun e => ?_
    have := hrow.lt e.symm
    have := hS b hb
    omega
  · exact hg.block b h2 (Ne.symm h3)
theorem rj_more {S : Nat → Prop} {B : Nat} {v : Value} {w w' : World} (k : w.heap.size ≤ w'.heap.size) : ∀ b, RJ S B v w b → RJ S B v w' b := fun b hb => hb.imp id fun ⟨h1, h2, h3⟩ => ⟨h1, Nat.lt_of_lt_of_le h2 k, h3⟩
theorem rj_lt {S : Nat → Prop} {B : Nat} {v : Value} {w : World} (hS : ∀ b, S b → b < B) (hB : B ≤ w.heap.size) : ∀ b, RJ S B v w b → b < w.heap.size := fun b hb => by
  rcases hb with h | ⟨_, h, _⟩
  · exact Nat.lt_of_lt_of_le (hS b h) hB
  · exact h
theorem row_add (g j : Nat) : (⟨g, 0, none⟩ : Addr).add j = ⟨g, j, none⟩ := by unfold Addr.add; split <;> simp_all
theorem addr_zero (a : Addr) : a.add 0 = a := by unfold Addr.add; split <;> simp_all
theorem four_zero {w : World} {g : Nat} {v0 v1 v2 v3 : Value} (h : FourX w ((⟨g, 0, none⟩ : Addr).add (0 * 4)) v0 v1 v2 v3) : w.cell? ⟨g, 0, none⟩ = some v0 ∧ w.cell? ⟨g, 1, none⟩ = some v1 ∧ w.cell? ⟨g, 2, none⟩ = some v2 ∧ w.cell? ⟨g, 3, none⟩ = some v3 := by
  rw [row_add] at h
  exact h
theorem four_one {w : World} {g : Nat} {v0 v1 v2 v3 : Value} (h : FourX w ((⟨g, 0, none⟩ : Addr).add (1 * 4)) v0 v1 v2 v3) : w.cell? ⟨g, 4, none⟩ = some v0 ∧ w.cell? ⟨g, 5, none⟩ = some v1 ∧ w.cell? ⟨g, 6, none⟩ = some v2 ∧ w.cell? ⟨g, 7, none⟩ = some v3 := by
  rw [row_add] at h
  exact h
theorem rj_step {S : Nat → Prop} {B j vc g' cap m : Nat} {va : Option Addr} {wr w3 w4 w5 : World} {o : Obj} {qs : List Q4} {ls : List Tr} {T : TypeId} {sy : Tr} {eo2 : Option Addr} {ek2 : Nat} {tb2 : Option Addr} {tk2 : Nat}
    (hS : ∀ b, S b → b < B) (hB : B ≤ wr.heap.size) (h4 : Below wr.heap.size wr w4) (h3 : wr.heap.size ≤ w3.heap.size) (hrow : Row4 wr B T (.slice va j vc) qs) (hf : Fits (QT (RJ S B (.slice va j vc) wr) wr) ls qs)
    (hok : TrOk (fun b => S b ∨ (w3.heap.size ≤ b ∧ b < w4.heap.size)) w4 sy eo2 ek2 tb2 tk2) (hg : (w4.alloc o).grownBy w5 (Value.slice va j vc).ownBlock) (hor : (Value.slice va j vc).ownBlock = some g' ∨ g' = (w4.alloc o).heap.size) :
    Fits (QT (RJ S B (.slice (some ⟨g', 0, none⟩) m cap) w5) w5) (ls ++ [sy]) (qs ++ [(.int .i64 sy.op, .string sy.nm, .slice eo2 sy.exprs.length ek2, .slice tb2 sy.terms.length tk2)]) := by
  have h4a : Below wr.heap.size wr (w4.alloc o) := h4.alloc h4.size o
  have hrow4 : Row4 (w4.alloc o) B T (.slice va j vc) qs := hrow.stay fun g hg => h4a.block g (hrow.lt hg).1
  have h44 : ∀ b, b < w4.heap.size → (w4.alloc o).heap[b]? = w4.heap[b]? := fun b hb => ((Below.refl _ _).alloc (Nat.le_refl _) o).block b hb
  refine Fits.snoc (hf.imp fun x q hq => (hq.stay (T := RJ S B (.slice va j vc) (w4.alloc o)) (rj_more h4a.size) fun b hb => h4a.block b (rj_lt hS hB b hb)).stay (rj_push hS hg hor hrow4) (rj_keep hS (Nat.le_trans hB h4a.size) hg hrow4)) ?_
  refine ⟨eo2, ek2, tb2, tk2, rfl, hok.ec, hok.tc, ?_⟩
  have hT : ∀ b, (S b ∨ (w3.heap.size ≤ b ∧ b < w4.heap.size)) → RJ S B (.slice (some ⟨g', 0, none⟩) m cap) w5 b := by
    rintro b (h | ⟨h1, h2⟩)
    · exact .inl h
    · refine .inr ⟨by omega, Nat.lt_of_lt_of_le (Nat.lt_of_lt_of_le h2 (by simp)) hg.size, fun e => ?_⟩
      have e2 : g' = b := by injection e
      rcases hor with h | h
      · have := (hrow.lt h).1
        omega
      · rw [World.size_alloc] at h
        omega
  have hst : ∀ b, (S b ∨ (w3.heap.size ≤ b ∧ b < w4.heap.size)) → w5.heap[b]? = w4.heap[b]? := by
    rintro b h
    have hlt : b < w4.heap.size := by rcases h with h | ⟨_, h⟩; exact Nat.lt_of_lt_of_le (hS b h) (Nat.le_trans hB h4.size); exact h
    refine (hg.block b (Nat.lt_of_lt_of_le hlt (by simp)) fun e => ?_).trans (h44 b hlt)
    have h5 := hrow.lt e.symm
    rcases h with h | ⟨h, _⟩
    · have := hS b h; omega
    · omega
  exact ⟨hok.ex.stay hT hst, hok.te.stay hT hst⟩
set_option maxRecDepth 100000 in
set_option maxHeartbeats 16000000 in
theorem simple_any {S : Nat → Prop} {B : Nat} (hS : ∀ b, S b → b < B) (x : Tr) : ∀ (eo' : Option Addr) (ek' : Nat) (tb' : Option Addr) (tk' : Nat) (w : World), B ≤ w.heap.size → x.blt = true → TrOk S w x eo' ek' tb' tk' →
    Calls Try.prog 24 #[trV x eo' ek' tb' tk'] w (SimPost S w x.sim) := by
  induction x using Tr.ind with
  | h x IH =>
  intro eo' ek' tb' tk' w hB hb hx
  have hlen := blt_len hb
  have hsim := x.sim_eq
  obtain ⟨l, hl⟩ : ∃ l, l = x.exprs := ⟨_, rfl⟩
  obtain ⟨l2, hl2⟩ : ∃ l, l = x.terms := ⟨_, rfl⟩
  obtain ⟨m, hm⟩ : ∃ m, m = l.length := ⟨_, rfl⟩
  obtain ⟨m2, hm2⟩ : ∃ m, m = l2.length := ⟨_, rfl⟩
  obtain ⟨xo, hxo⟩ : ∃ v, v = x.op := ⟨_, rfl⟩
  obtain ⟨xs, hxs⟩ : ∃ v, v = x.nm := ⟨_, rfl⟩
  rw [show trV x eo' ek' tb' tk' = .agg #[.int .i64 xo, .string xs, .slice eo' m ek', .slice tb' m2 tk'] from by rw [hm, hm2, hl, hl2, hxo, hxs]]
  rw [← hl2] at IH hlen hsim
  rw [← hl, ← hxo] at hlen hsim
  rw [← hxs] at hsim
  rw [← hm, ← hm2] at hlen
  have hm7 : m2 < 1000 := by have := hlen.2.1; unfold kidT at this; (repeat' split at this) <;> omega
  obtain ⟨byy, hy⟩ : ∃ z, z = w.heap.size + 1 := ⟨_, rfl⟩
  obtain ⟨z, hz⟩ : ∃ z, z = w.heap.size := ⟨_, rfl⟩
  have GA := Lib.hid (box_zero (.int .i64 xo) (.string xs) (.slice eo' m ek') (.slice tb' m2 tk') w)
  have HST : Hid (∀ W, Below w.heap.size w W → TrOk S W x eo' ek' tb' tk') := Lib.hid fun W hW => hx.next (fun b h => by have := hS b h; omega) hW
  have HX : Hid (∀ W, Below w.heap.size w W → TrL S W l2 tb') := Lib.hid fun W hW => by rw [hl2]; exact (HST.out W hW).te
  have HXE : Hid (∀ W, Below w.heap.size w W → ExL S W l eo') := Lib.hid fun W hW => by rw [hl]; exact (HST.out W hW).ex
  have HCE : Hid (m ≤ ek') := Lib.hid (by rw [hm, hl]; exact hx.ec)
  have HI : Hid (∀ y ∈ l2, ∀ (eo : Option Addr) (ek : Nat) (tb : Option Addr) (tk : Nat) W, Below w.heap.size w W → TrOk S W y eo ek tb tk → Calls Try.prog 24 #[trV y eo ek tb tk] W (SimPost S W y.sim)) := Lib.hid fun u hu eo ek tb tk W hW h => IH u hu eo ek tb tk W (by have := hW.size; omega) (hlen.2.2.1 u hu) h
  have HLEN := Lib.hid hlen
  have HSIM := Lib.hid hsim
  have HM := Lib.hid hm
  have HM2 := Lib.hid hm2
  have HL := Lib.hid (And.intro hl hl2)
  have HSB : Hid (∀ b, S b → b < w.heap.size) := Lib.hid fun b h => by have := hS b h; omega
  have HZY := Lib.hid (show byy ≠ z ∧ w.heap.size ≤ z ∧ w.heap.size ≤ byy ∧ byy = w.heap.size + 1 ∧ z = w.heap.size by omega)
  clear IH hb hx hlen hsim hl hl2 hm hm2 hxo hxs
  go_enter Try.func24, Try.ntmps24
  go_upto_region 2 with fail
  obtain ⟨W, hW⟩ : ∃ X, (w.alloc (.cells #[.int .i64 xo, .string xs, .slice eo' m ek', .slice tb' m2 tk'] 33)).alloc (.cells #[.int .i64 0, .string ⟨#[]⟩, .slice none 0 0, .slice none 0 0] 33) = X := ⟨_, rfl⟩
  obtain ⟨b1, b2, g1⟩ := GA.out W hW
  have HG := Lib.hid g1
  rw [← hz] at b1
  rw [← hy] at b2
  rw [hW, ← hz, show z + 1 = byy from by omega]
  have HB1 := Lib.hid b1
  have HB2 := Lib.hid b2
  have HSWB : Hid (∀ b, S b → b < W.heap.size) := Lib.hid fun b h => by have := HSB.out b h; have := g1.size; omega
  have c3 : W.cell? ⟨z, 3, none⟩ = some (.slice tb' m2 tk') := cell_blk b1 3
  clear hW b1 b2 g1 GA hz hy
  go_upto_region 3 with fail
  clear c3
  go_loopw [9, 3] (fun v s wr => ∃ (j : Nat) (va : Option Addr) (vc : Nat) (qs : List Q4), j ≤ m2 ∧ v = .int .i64 j ∧ s = .slice va j vc ∧ Hid (qs.length = j ∧ Row4 wr W.heap.size 33 (.slice va j vc) qs ∧ Fits (QT (RJ S W.heap.size (.slice va j vc) wr) wr) ((l2.take j).map Tr.sim) qs) ∧ Hid (Below W.heap.size W wr)) (fun v _ _ => m2 - (intOf v).toNat)
  case atStart => exact ⟨0, none, 0, [], by omega, rfl, rfl, Lib.hid ⟨rfl, Row4.nil _ _ _, by simpa using Fits.nil _⟩, Lib.hid (Below.refl _ _)⟩
  case round =>
    obtain ⟨j, va, vc, qs, hj, rfl, rfl, HR, HB⟩ := hrel
    have HBW := Lib.hid (below_mono HG.out HB.out (Nat.le_refl _))
    by_cases hlt : j < m2
    · obtain ⟨y, hy⟩ : ∃ y, l2[j]? = some y := ⟨_, List.getElem?_eq_getElem (by rw [← HM2.out]; exact hlt)⟩
      obtain ⟨a, eo, ek, tb, tk, rfl, hsa, hek, htk, ⟨y0, y1, y2, y3⟩, hel, htl⟩ := (HX.out wr HBW.out).get hy
      have htk1 : (l2.take (j + 1)).map Tr.sim = (l2.take j).map Tr.sim ++ [y.sim] := by rw [List.take_add_one, hy]; simp
      have CY : Hid (∀ W', Below wr.heap.size wr W' → Calls Try.prog 24 #[trV y eo ek tb tk] W' (SimPost S W' y.sim)) := Lib.hid fun W' hW' => HI.out y (List.mem_of_getElem? hy) eo ek tb tk W' (below_mono HBW.out hW' (Nat.le_refl _)) ⟨hek, htk, hel.stay (fun _ h => h) fun b hb => hW'.block b (by have := HSB.out b hb; have := HBW.out.size; omega), htl.stay (fun _ h => h) fun b hb => hW'.block b (by have := HSB.out b hb; have := HBW.out.size; omega)⟩
      obtain ⟨sy, hsy⟩ : ∃ v, v = y.sim := ⟨_, rfl⟩
      have HTK : Hid ((l2.take (j + 1)).map Tr.sim = (l2.take j).map Tr.sim ++ [sy]) := Lib.hid (by rw [htk1, hsy])
      rw [← hsy] at CY
      obtain ⟨em, hem⟩ : ∃ c, c = y.exprs.length := ⟨_, rfl⟩
      obtain ⟨tm, htm⟩ : ∃ c, c = y.terms.length := ⟨_, rfl⟩
      obtain ⟨yo, hyo⟩ : ∃ v, v = y.op := ⟨_, rfl⟩
      obtain ⟨ys, hys⟩ : ∃ v, v = y.nm := ⟨_, rfl⟩
      rw [← hem] at y2
      rw [← htm] at y3
      rw [← hyo] at y0
      rw [← hys] at y1
      have CY2 : Hid (∀ W', Below wr.heap.size wr W' → Calls Try.prog 24 #[.agg #[.int .i64 yo, .string ys, .slice eo em ek, .slice tb tm tk]] W' (SimPost S W' sy)) := by
        rw [hem, htm, hyo, hys]; exact CY
      obtain ⟨so, hso⟩ : ∃ v, v = sy.op := ⟨_, rfl⟩
      obtain ⟨ss, hss⟩ : ∃ v, v = sy.nm := ⟨_, rfl⟩
      obtain ⟨se, hse⟩ : ∃ v, v = sy.exprs.length := ⟨_, rfl⟩
      obtain ⟨st, hst⟩ : ∃ v, v = sy.terms.length := ⟨_, rfl⟩
      have HSY := Lib.hid (And.intro hso (And.intro hss (And.intro hse hst)))
      have hj1000 : j ≤ 1000 := by omega
      obtain ⟨⟨r0, r1, r2, r3⟩, p0, p1, p2, p3⟩ := new_zero wr (.int .i64 0) (.string ⟨#[]⟩) (.slice none 0 0) (.slice none 0 0) 33
      obtain ⟨u, hu⟩ : ∃ u, u = wr.heap.size := ⟨_, rfl⟩
      have j0 : (0 : Int) ≤ (j : Int) := by omega
      have j1 : (j : Int) < (m2 : Int) := by omega
      clear hem htm hyo hys hsa hek htk hel htl hy CY htk1 hsy hso hss hse hst
      go_upto_region 5 with fail
      clear r0 r1 r2 r3 p0 p1 p2 p3 y0 y1 y2 y3
      obtain ⟨W3, hW3⟩ : ∃ X, wr.alloc (.cells #[.int .i64 yo, .string ys, .slice eo em ek, .slice tb tm tk] 33) = X := ⟨_, rfl⟩
      have HB3 := Lib.hid (made_box wr _ W3 hW3)
      have hb3 : W3.heap[wr.heap.size]? = some (.cells #[.int .i64 yo, .string ys, .slice eo em ek, .slice tb tm tk] 33 (0, 0)) := by rw [← hW3]; exact heap_alloc_new _ _
      rw [hW3]
      obtain ⟨y0, y1, y2, y3⟩ := quad hb3
      rw [← hu] at y0 y1 y2 y3 ⊢
      clear hb3 hW3 hu
      have HQL := Lib.hid HR.out.1
      go_upto_region 6 with (first | (go_at_call 24; (with_reducible refine (CY2.out _ HB3.out.1.2).mono ?_); rintro e w4 ⟨⟨eo2, ek2, tb2, tk2, he, hok⟩, hb4⟩; have HOK := Lib.hid hok; have HB4 := Lib.hid hb4; obtain rfl : e = Ending.returned (.agg #[.int .i64 so, .string ss, .slice eo2 se ek2, .slice tb2 st tk2]) := (by rw [he, HSY.out.1, HSY.out.2.1, HSY.out.2.2.1, HSY.out.2.2.2]); clear he hok hb4 y0 y1 y2 y3 CY2) | (at_builtin; refine wpList_appR rfl _ _ rfl W.heap.size (.slice va j vc) qs rfl ((HR.out.2.1.stay (fun g hg => (below_mono HB3.out.1.2 HB4.out (Nat.le_refl _)).block g (HR.out.2.1.lt hg).1)).stay (fun g hg => ((Below.refl w4.heap.size w4).alloc (Nat.le_refl _) _).block g (Nat.lt_of_lt_of_le (HR.out.2.1.lt hg).1 (below_mono HB3.out.1.2 HB4.out (Nat.le_refl _)).size))) w4.heap.size so ss eo2 tb2 se ek2 st tk2 rfl (heap_alloc_new w4 _) (by rw [HQL.out]; exact hj1000) (by have := HB.out.size; have := HB3.out.1.2.size; have := HB4.out.size; simp; omega) ?_; intro g' cap w5 hown hgr hor hgl; have HR5 := Lib.hid hown; have HG5 := Lib.hid hgr; have HO5 := Lib.hid hor; have HGL := Lib.hid hgl; clear hown hgr hor hgl))
      rw [HQL.out]
      go_wp2_with fail
      go_roundw
      case rel =>
        refine ⟨j + 1, some ⟨g', 0, none⟩, cap, qs ++ [(.int .i64 so, .string ss, .slice eo2 se ek2, .slice tb2 st tk2)], by omega, by go_num, rfl, Lib.hid ⟨by rw [List.length_append, HQL.out]; rfl, by rw [← HQL.out]; exact HR5.out, ?_⟩, Lib.hid (((below_mono (below_mono HB.out HB3.out.1.2 (Nat.le_refl _)) HB4.out (Nat.le_refl _)).alloc (by have := HB.out.size; have := HB3.out.1.2.size; have := HB4.out.size; omega) _).grown HG5.out (by have := HB.out.size; have := HB3.out.1.2.size; have := HB4.out.size; simp; omega) (fun g hg => (HR.out.2.1.lt hg).2))⟩
        rw [HTK.out]
        have := rj_step (m := j + 1) (cap := cap) (w3 := W3) HSWB.out HB.out.size (below_mono HB3.out.1.2 HB4.out (Nat.le_refl _)) HB3.out.1.2.size HR.out.2.1 HR.out.2.2 HOK.out HG5.out HO5.out
        rw [← HSY.out.1, ← HSY.out.2.1, ← HSY.out.2.2.1, ← HSY.out.2.2.2] at this
        exact this
      case measure => simp [intOf]; omega
    · obtain rfl : j = m2 := by omega
      have hfit := HR.out.2.2
      rw [List.take_of_length_le (by rw [HM2.out]; exact Nat.le_refl _)] at hfit
      have hzl := lt_of_heap HB1.out
      have hyl := lt_of_heap HB2.out
      have e1 := (HB.out.block z hzl).trans HB1.out
      have e2 := (HB.out.block byy hyl).trans HB2.out
      have p3 : wr.frozen? ⟨z, 3, none⟩ = false := free_blk e1 3
      have c3 : wr.cell? ⟨z, 3, none⟩ = some (.slice tb' j tk') := cell_blk e1 3
      have hzr : ∀ b, RJ S W.heap.size (.slice va j vc) wr b → b ≠ z ∧ b ≠ byy := by
        intro b hb
        have := HZY.out
        rcases hb with h | ⟨h, _⟩
        · have := HSB.out b h; omega
        · omega
      have hgz : ∀ g, (Value.slice va j vc).ownBlock = some g → g ≠ z ∧ g ≠ byy := by
        intro g hg
        have := (HR.out.2.1.lt hg).2
        omega
      have HQL := Lib.hid HR.out.1
      have HSET : Hid (let X := wr.setCell ⟨z, 3, none⟩ (.slice va j vc)
        X.heap[z]? = some (.cells #[.int .i64 xo, .string xs, .slice eo' m ek', .slice va j vc] 33 (0, 0)) ∧ X.heap[byy]? = some (.cells #[.int .i64 0, .string ⟨#[]⟩, .slice none 0 0, .slice none 0 0] 33 (0, 0)) ∧ Below w.heap.size w X ∧ Row4 X W.heap.size 33 (.slice va j vc) qs ∧ Fits (QT (RJ S W.heap.size (.slice va j vc) X) X) (l2.map Tr.sim) qs ∧ (∀ b, (RJ S W.heap.size (.slice va j vc) X b ∨ (Value.slice va j vc).ownBlock = some b) → b ≠ byy ∧ (S b ∨ (w.heap.size ≤ b ∧ b < X.heap.size)))) := Lib.hid (by
        have hz3 : ∀ b, b ≠ z → (wr.setCell ⟨z, 3, none⟩ (.slice va j vc)).heap[b]? = wr.heap[b]? := fun b hb => Below.heap_setCell _ _ _ _ hb
        have hsz : (wr.setCell ⟨z, 3, none⟩ (.slice va j vc)).heap.size = wr.heap.size := by simp
        refine ⟨heap_set_at (i := 3) _ e1, (hz3 _ HZY.out.1).trans e2, HBW.out.setCell (p := ⟨z, 3, none⟩) HZY.out.2.1 _, HR.out.2.1.stay fun g hg => hz3 g (hgz g hg).1, hfit.imp fun x q hq => hq.stay (rj_more (by rw [hsz]; exact Nat.le_refl _)) fun b hb => hz3 b (hzr b hb).1, ?_⟩
        intro b hb
        have hw := HZY.out
        have hwW := HG.out.size
        have hWr := HB.out.size
        rw [hsz]
        rcases hb with hb | hb
        · rcases hb with h | ⟨h1, h2, _⟩
          · exact ⟨by have := HSB.out b h; omega, .inl h⟩
          · rw [hsz] at h2
            exact ⟨by omega, .inr ⟨by omega, h2⟩⟩
        · have := HR.out.2.1.lt hb
          exact ⟨by omega, .inr ⟨by omega, this.1⟩⟩)
      clear hfit hzl hyl e1 e2 hzr hgz HR HX HI
      go_upto_region 8 with fail
      clear c3 p3
      refine wp_letter (fun X => X.heap[z]? = some (.cells #[.int .i64 xo, .string xs, .slice eo' m ek', .slice va j vc] 33 (0, 0)) ∧ X.heap[byy]? = some (.cells #[.int .i64 0, .string ⟨#[]⟩, .slice none 0 0, .slice none 0 0] 33 (0, 0)) ∧ Below w.heap.size w X ∧ Row4 X W.heap.size 33 (.slice va j vc) qs ∧ Fits (QT (RJ S W.heap.size (.slice va j vc) X) X) (l2.map Tr.sim) qs ∧ (∀ b, (RJ S W.heap.size (.slice va j vc) X b ∨ (Value.slice va j vc).ownBlock = some b) → b ≠ byy ∧ (S b ∨ (w.heap.size ≤ b ∧ b < X.heap.size)))) HSET.out ?_
      clear HSET
      rintro X ⟨hb1, hb2, hbw, hrow, hfit, hR⟩
      obtain ⟨c0, c1, c2, c3⟩ := quad hb1
      obtain ⟨d0, d1, d2, d3⟩ := quad hb2
      have p0 : X.frozen? ⟨byy, 0, none⟩ = false := free_blk hb2 0
      have p1 : X.frozen? ⟨byy, 1, none⟩ = false := free_blk hb2 1
      have p2 : X.frozen? ⟨byy, 2, none⟩ = false := free_blk hb2 2
      have p3 : X.frozen? ⟨byy, 3, none⟩ = false := free_blk hb2 3
      have HXL := Lib.hid (lt_of_heap hb2)
      have HHZ := Lib.hid hb1
      have HHY := Lib.hid hb2
      have HBX := Lib.hid hbw
      have HROW := Lib.hid hrow
      have HFIT := Lib.hid hfit
      have HRR := Lib.hid hR
      have HTT := Lib.hid (hrow.toT hfit)
      have HEX := Lib.hid (HXE.out X hbw)
      have HVC : Hid (j ≤ vc) := Lib.hid (by obtain ⟨a, c, e, h⟩ := hrow.form; injection e with _ e2 e3; omega)
      have hlen := HLEN.out
      clear hb1 hb2 hbw hrow hfit hR HB1 HB2 HB HBW HG
      -- t itself
      have HSELF : Hid (TrOk (fun b => RJ S W.heap.size (.slice va j vc) X b ∨ (Value.slice va j vc).ownBlock = some b) X (.mk xo xs l (l2.map Tr.sim)) eo' ek' va vc) := Lib.hid ⟨by show l.length ≤ ek'; rw [← HM.out]; exact HCE.out, by show (l2.map Tr.sim).length ≤ vc; rw [List.length_map, ← HM2.out]; exact HVC.out, (HEX.out.stay (fun b hb => .inl (.inl hb)) (fun _ _ => rfl)), HTT.out⟩
      have HFS : Hid (x.sim = .mk xo xs l (l2.map Tr.sim) → ∀ x0 x1 x2 x3, SimPost S w x.sim (.returned (.agg #[.int .i64 xo, .string xs, .slice eo' m ek', .slice va j vc])) ((((X.setCell ⟨byy, 0, none⟩ x0).setCell ⟨byy, 1, none⟩ x1).setCell ⟨byy, 2, none⟩ x2).setCell ⟨byy, 3, none⟩ x3)) := Lib.hid fun h x0 x1 x2 x3 => by
        have := sim_fin HBX.out HZY.out.2.2.1 HRR.out HSELF.out x0 x1 x2 x3
        rw [← h] at this
        have e : trV (Tr.mk xo xs l (l2.map Tr.sim)) eo' ek' va vc = .agg #[.int .i64 xo, .string xs, .slice eo' m ek', .slice va j vc] := by
          show Value.agg #[.int .i64 xo, .string xs, .slice eo' l.length ek', .slice va (l2.map Tr.sim).length vc] = _
          rw [List.length_map, ← HM.out, ← HM2.out]
        rw [h, e] at this
        rw [h]
        exact this
      by_cases q1 : xo = 1
      · subst q1
        go_wp2_with fail
        exact bodyPost_ret (v := .agg #[.int .i64 1, .string xs, .slice eo' m ek', .slice va j vc]) (by simp [results, Try.results24, go_sem, d0, d1, d2, d3, p0, p1, p2, p3, HXL.out]) rfl (HFS.out (by rw [HSIM.out]; rfl) _ _ _ _)
      · have g1 : (xo == 1) = false := by simp [q1]
        by_cases q2 : xo = 2
        · subst q2
          go_wp2_with fail
          exact bodyPost_ret (v := .agg #[.int .i64 2, .string xs, .slice eo' m ek', .slice va j vc]) (by simp [results, Try.results24, go_sem, d0, d1, d2, d3, p0, p1, p2, p3, HXL.out]) rfl (HFS.out (by rw [HSIM.out]; rfl) _ _ _ _)
        · have g2 : (xo == 2) = false := by simp [q2]
          by_cases q5 : xo = 5
          · subst q5
            go_wp2_with fail
            exact bodyPost_ret (v := .agg #[.int .i64 5, .string xs, .slice eo' m ek', .slice va j vc]) (by simp [results, Try.results24, go_sem, d0, d1, d2, d3, p0, p1, p2, p3, HXL.out]) rfl (HFS.out (by rw [HSIM.out]; rfl) _ _ _ _)
          · have g5 : (xo == 5) = false := by simp [q5]
            by_cases q9 : xo = 9
            · subst q9
              go_wp2_with fail
              exact bodyPost_ret (v := .agg #[.int .i64 9, .string xs, .slice eo' m ek', .slice va j vc]) (by simp [results, Try.results24, go_sem, d0, d1, d2, d3, p0, p1, p2, p3, HXL.out]) rfl (HFS.out (by rw [HSIM.out]; rfl) _ _ _ _)
            · have g9 : (xo == 9) = false := by simp [q9]
              by_cases q4 : xo = 4
              · subst q4
                obtain ⟨u0, u1, hl2⟩ := two_terms (l := l2) (by rw [← HM2.out]; have := hlen.2.1; simp [kidT] at this; omega)
                obtain rfl : j = 2 := by have := hlen.2.1; simp [kidT] at this; omega
                subst hl2
                obtain ⟨q0, hq0, eo0, ek0, tb0, tk0, rfl, hc0, hd0, hx0, ht0⟩ := HFIT.out.get (i := 0) (x := u0.sim) rfl
                have HE0 : Hid (∀ x0 x1 x2 x3, SimPost S w u0.sim (.returned (trV u0.sim eo0 ek0 tb0 tk0)) ((((X.setCell ⟨byy, 0, none⟩ x0).setCell ⟨byy, 1, none⟩ x1).setCell ⟨byy, 2, none⟩ x2).setCell ⟨byy, 3, none⟩ x3)) := Lib.hid fun x0 x1 x2 x3 => sim_fin HBX.out HZY.out.2.2.1 HRR.out (TrOk.stay (S := RJ S W.heap.size (.slice va 2 vc) X) ⟨hc0, hd0, hx0, ht0⟩ (fun b hb => .inl hb) (fun _ _ => rfl)) x0 x1 x2 x3
                obtain ⟨q1, hq1, eo1, ek1, tb1, tk1, rfl, hc1, hd1, hx1, ht1⟩ := HFIT.out.get (i := 1) (x := u1.sim) rfl
                have HE1 : Hid (∀ x0 x1 x2 x3, SimPost S w u1.sim (.returned (trV u1.sim eo1 ek1 tb1 tk1)) ((((X.setCell ⟨byy, 0, none⟩ x0).setCell ⟨byy, 1, none⟩ x1).setCell ⟨byy, 2, none⟩ x2).setCell ⟨byy, 3, none⟩ x3)) := Lib.hid fun x0 x1 x2 x3 => sim_fin HBX.out HZY.out.2.2.1 HRR.out (TrOk.stay (S := RJ S W.heap.size (.slice va 2 vc) X) ⟨hc1, hd1, hx1, ht1⟩ (fun b hb => .inl hb) (fun _ _ => rfl)) x0 x1 x2 x3
                obtain ⟨g, rfl, hg, hgB, hk0⟩ := HROW.out.get hq0
                obtain ⟨k0, k1, k2, k3⟩ := four_zero hk0
                obtain ⟨s0, hs0⟩ : ∃ v, v = u0.sim.op := ⟨_, rfl⟩
                obtain ⟨n0, hn0⟩ : ∃ v, v = u0.sim.nm := ⟨_, rfl⟩
                obtain ⟨e0, he0⟩ : ∃ v, v = u0.sim.exprs.length := ⟨_, rfl⟩
                obtain ⟨t0, hte0⟩ : ∃ v, v = u0.sim.terms.length := ⟨_, rfl⟩
                dsimp only at k0 k1 k2 k3
                rw [← hs0] at k0
                rw [← hn0] at k1
                rw [← he0] at k2
                rw [← hte0] at k3
                rw [show trV u0.sim eo0 ek0 tb0 tk0 = .agg #[.int .i64 s0, .string n0, .slice eo0 e0 ek0, .slice tb0 t0 tk0] from by rw [hs0, hn0, he0, hte0]] at HE0
                have HS0 := Lib.hid hs0
                obtain ⟨g', e', _, _, hk1⟩ := HROW.out.get hq1
                cases e'
                obtain ⟨k4, k5, k6, k7⟩ := four_one hk1
                obtain ⟨s1, hs1⟩ : ∃ v, v = u1.sim.op := ⟨_, rfl⟩
                obtain ⟨n1, hn1⟩ : ∃ v, v = u1.sim.nm := ⟨_, rfl⟩
                obtain ⟨e1, he1⟩ : ∃ v, v = u1.sim.exprs.length := ⟨_, rfl⟩
                obtain ⟨t1, hte1⟩ : ∃ v, v = u1.sim.terms.length := ⟨_, rfl⟩
                dsimp only at k4 k5 k6 k7
                rw [← hs1] at k4
                rw [← hn1] at k5
                rw [← he1] at k6
                rw [← hte1] at k7
                rw [show trV u1.sim eo1 ek1 tb1 tk1 = .agg #[.int .i64 s1, .string n1, .slice eo1 e1 ek1, .slice tb1 t1 tk1] from by rw [hs1, hn1, he1, hte1]] at HE1
                have HS1 := Lib.hid hs1
                clear hs0 hn0 he0 hte0 hq0 hc0 hd0 hx0 ht0 hk0 hs1 hn1 he1 hte1 hq1 hc1 hd1 hx1 ht1 hk1 hg hgB hlen
                by_cases h0 : s0 = 1
                · subst h0
                  go_wp2_with fail
                  exact bodyPost_ret (v := .agg #[.int .i64 s1, .string n1, .slice eo1 e1 ek1, .slice tb1 t1 tk1]) (by simp [results, Try.results24, go_sem, d0, d1, d2, d3, p0, p1, p2, p3, HXL.out]) rfl (by rw [show x.sim = u1.sim from by rw [HSIM.out]; simp [simN_four, simN_three, simN_six, simN_seven, simN_eight, ← HS0.out]]; exact HE1.out _ _ _ _)
                · have f0 : (s0 == 1) = false := by simp [h0]
                  by_cases h1 : s1 = 1
                  · subst h1
                    go_wp2_with fail
                    exact bodyPost_ret (v := .agg #[.int .i64 s0, .string n0, .slice eo0 e0 ek0, .slice tb0 t0 tk0]) (by simp [results, Try.results24, go_sem, d0, d1, d2, d3, p0, p1, p2, p3, HXL.out]) rfl (by rw [show x.sim = u0.sim from by rw [HSIM.out]; simp [simN_four, simN_three, simN_six, simN_seven, simN_eight, ← HS0.out, ← HS1.out, h0]]; exact HE0.out _ _ _ _)
                  · have f1 : (s1 == 1) = false := by simp [h1]
                    go_wp2_with fail
                    exact bodyPost_ret (v := .agg #[.int .i64 4, .string xs, .slice eo' m ek', .slice (some ⟨g, 0, none⟩) 2 vc]) (by simp [results, Try.results24, go_sem, d0, d1, d2, d3, p0, p1, p2, p3, HXL.out]) rfl (HFS.out (by rw [HSIM.out]; simp [simN_four, simN_three, simN_six, simN_seven, simN_eight, ← HS0.out, ← HS1.out, h0, h1]) _ _ _ _)
              · have g4 : (xo == 4) = false := by simp [q4]
                by_cases q3 : xo = 3
                · subst q3
                  obtain ⟨u0, hl2⟩ := one_of (l := l2) (by rw [← HM2.out]; have := hlen.2.1; simp [kidT] at this; omega)
                  obtain rfl : j = 1 := by have := hlen.2.1; simp [kidT] at this; omega
                  subst hl2
                  obtain ⟨q0, hq0, eo0, ek0, tb0, tk0, rfl, hc0, hd0, hx0, ht0⟩ := HFIT.out.get (i := 0) (x := u0.sim) rfl
                  have HE0 : Hid (∀ x0 x1 x2 x3, SimPost S w u0.sim (.returned (trV u0.sim eo0 ek0 tb0 tk0)) ((((X.setCell ⟨byy, 0, none⟩ x0).setCell ⟨byy, 1, none⟩ x1).setCell ⟨byy, 2, none⟩ x2).setCell ⟨byy, 3, none⟩ x3)) := Lib.hid fun x0 x1 x2 x3 => sim_fin HBX.out HZY.out.2.2.1 HRR.out (TrOk.stay (S := RJ S W.heap.size (.slice va 1 vc) X) ⟨hc0, hd0, hx0, ht0⟩ (fun b hb => .inl hb) (fun _ _ => rfl)) x0 x1 x2 x3
                  obtain ⟨g, rfl, hg, hgB, hk0⟩ := HROW.out.get hq0
                  obtain ⟨k0, k1, k2, k3⟩ := four_zero hk0
                  obtain ⟨s0, hs0⟩ : ∃ v, v = u0.sim.op := ⟨_, rfl⟩
                  obtain ⟨n0, hn0⟩ : ∃ v, v = u0.sim.nm := ⟨_, rfl⟩
                  obtain ⟨e0, he0⟩ : ∃ v, v = u0.sim.exprs.length := ⟨_, rfl⟩
                  obtain ⟨t0, hte0⟩ : ∃ v, v = u0.sim.terms.length := ⟨_, rfl⟩
                  dsimp only at k0 k1 k2 k3
                  rw [← hs0] at k0
                  rw [← hn0] at k1
                  rw [← he0] at k2
                  rw [← hte0] at k3
                  rw [show trV u0.sim eo0 ek0 tb0 tk0 = .agg #[.int .i64 s0, .string n0, .slice eo0 e0 ek0, .slice tb0 t0 tk0] from by rw [hs0, hn0, he0, hte0]] at HE0
                  have HS0 := Lib.hid hs0
                  by_cases h0 : s0 = 3
                  · have hu := sim_blt u0 (hlen.2.2.1 u0 (List.mem_cons_self ..))
                    have hul := (blt_len hu).2.1
                    rw [← HS0.out, h0] at hul
                    obtain ⟨v0, hv0⟩ := one_of (l := u0.sim.terms) (by simp [kidT] at hul; omega)
                    obtain ⟨aa, eo2, ek2, tb2, tk2, rfl, hsa, hc2, hd2, ⟨m0, m1, m2', m3⟩, hx2, ht2⟩ := ht0.get (i := 0) (x := v0) (by rw [hv0]; rfl)
                    have HE2 : Hid (∀ x0 x1 x2 x3, SimPost S w v0 (.returned (trV v0 eo2 ek2 tb2 tk2)) ((((X.setCell ⟨byy, 0, none⟩ x0).setCell ⟨byy, 1, none⟩ x1).setCell ⟨byy, 2, none⟩ x2).setCell ⟨byy, 3, none⟩ x3)) := Lib.hid fun x0 x1 x2 x3 => sim_fin HBX.out HZY.out.2.2.1 HRR.out (TrOk.stay (S := RJ S W.heap.size (.slice (some ⟨g, 0, none⟩) 1 vc) X) ⟨hc2, hd2, hx2, ht2⟩ (fun b hb => .inl hb) (fun _ _ => rfl)) x0 x1 x2 x3
                    obtain ⟨s2, hs2⟩ : ∃ v, v = v0.op := ⟨_, rfl⟩
                    obtain ⟨n2, hn2⟩ : ∃ v, v = v0.nm := ⟨_, rfl⟩
                    obtain ⟨e2, he2⟩ : ∃ v, v = v0.exprs.length := ⟨_, rfl⟩
                    obtain ⟨t2, hte2⟩ : ∃ v, v = v0.terms.length := ⟨_, rfl⟩
                    rw [← hs2] at m0
                    rw [← hn2] at m1
                    rw [← he2] at m2'
                    rw [← hte2] at m3
                    rw [show trV v0 eo2 ek2 tb2 tk2 = .agg #[.int .i64 s2, .string n2, .slice eo2 e2 ek2, .slice tb2 t2 tk2] from by rw [hs2, hn2, he2, hte2]] at HE2
                    have HV0 := Lib.hid hv0
                    have ht01 : t0 = 1 := by rw [hte0, hv0]; rfl
                    subst ht01
                    rw [Nat.zero_mul, addr_zero] at m0 m1 m2' m3
                    subst h0
                    clear hs2 hn2 he2 hte2 hv0 hul hu hsa hc2 hd2 hx2 ht2 hs0 hn0 he0 hte0 hq0 hc0 hd0 hx0 ht0 hk0 hg hgB hlen
                    go_wp2_with fail
                    exact bodyPost_ret (v := .agg #[.int .i64 s2, .string n2, .slice eo2 e2 ek2, .slice tb2 t2 tk2]) (by simp [results, Try.results24, go_sem, d0, d1, d2, d3, p0, p1, p2, p3, HXL.out]) rfl (by rw [show x.sim = v0 from by rw [HSIM.out]; simp [simN_four, simN_three, simN_six, simN_seven, simN_eight, ← HS0.out, HV0.out]]; exact HE2.out _ _ _ _)
                  · have f0 : (s0 == 3) = false := by simp [h0]
                    clear hs0 hn0 he0 hte0 hq0 hc0 hd0 hx0 ht0 hk0 hg hgB hlen
                    by_cases h1 : s0 = 1
                    · subst h1
                      go_wp2_with fail
                      exact bodyPost_ret (v := .agg #[.int .i64 1, .string n0, .slice eo0 e0 ek0, .slice tb0 t0 tk0]) (by simp [results, Try.results24, go_sem, d0, d1, d2, d3, p0, p1, p2, p3, HXL.out]) rfl (by rw [show x.sim = u0.sim from by rw [HSIM.out]; simp [simN_four, simN_three, simN_six, simN_seven, simN_eight, ← HS0.out]]; exact HE0.out _ _ _ _)
                    · have f1 : (s0 == 1) = false := by simp [h1]
                      go_wp2_with fail
                      exact bodyPost_ret (v := .agg #[.int .i64 3, .string xs, .slice eo' m ek', .slice (some ⟨g, 0, none⟩) 1 vc]) (by simp [results, Try.results24, go_sem, d0, d1, d2, d3, p0, p1, p2, p3, HXL.out]) rfl (HFS.out (by rw [HSIM.out]; simp [simN_four, simN_three, simN_six, simN_seven, simN_eight, ← HS0.out, h0, h1]) _ _ _ _)
                · have g3 : (xo == 3) = false := by simp [q3]
                  by_cases q7 : xo = 7
                  · subst q7
                    obtain ⟨u0, hl2⟩ := one_of (l := l2) (by rw [← HM2.out]; have := hlen.2.1; simp [kidT] at this; omega)
                    obtain rfl : j = 1 := by have := hlen.2.1; simp [kidT] at this; omega
                    subst hl2
                    obtain ⟨q0, hq0, eo0, ek0, tb0, tk0, rfl, hc0, hd0, hx0, ht0⟩ := HFIT.out.get (i := 0) (x := u0.sim) rfl
                    have HE0 : Hid (∀ x0 x1 x2 x3, SimPost S w u0.sim (.returned (trV u0.sim eo0 ek0 tb0 tk0)) ((((X.setCell ⟨byy, 0, none⟩ x0).setCell ⟨byy, 1, none⟩ x1).setCell ⟨byy, 2, none⟩ x2).setCell ⟨byy, 3, none⟩ x3)) := Lib.hid fun x0 x1 x2 x3 => sim_fin HBX.out HZY.out.2.2.1 HRR.out (TrOk.stay (S := RJ S W.heap.size (.slice va 1 vc) X) ⟨hc0, hd0, hx0, ht0⟩ (fun b hb => .inl hb) (fun _ _ => rfl)) x0 x1 x2 x3
                    obtain ⟨g, rfl, hg, hgB, hk0⟩ := HROW.out.get hq0
                    obtain ⟨k0, k1, k2, k3⟩ := four_zero hk0
                    obtain ⟨s0, hs0⟩ : ∃ v, v = u0.sim.op := ⟨_, rfl⟩
                    obtain ⟨n0, hn0⟩ : ∃ v, v = u0.sim.nm := ⟨_, rfl⟩
                    obtain ⟨e0, he0⟩ : ∃ v, v = u0.sim.exprs.length := ⟨_, rfl⟩
                    obtain ⟨t0, hte0⟩ : ∃ v, v = u0.sim.terms.length := ⟨_, rfl⟩
                    dsimp only at k0 k1 k2 k3
                    rw [← hs0] at k0
                    rw [← hn0] at k1
                    rw [← he0] at k2
                    rw [← hte0] at k3
                    rw [show trV u0.sim eo0 ek0 tb0 tk0 = .agg #[.int .i64 s0, .string n0, .slice eo0 e0 ek0, .slice tb0 t0 tk0] from by rw [hs0, hn0, he0, hte0]] at HE0
                    have HS0 := Lib.hid hs0
                    clear hs0 hn0 he0 hte0 hq0 hc0 hd0 hx0 ht0 hk0 hg hgB hlen
                    by_cases h1 : s0 = 1
                    · subst h1
                      go_wp2_with fail
                      exact bodyPost_ret (v := .agg #[.int .i64 1, .string n0, .slice eo0 e0 ek0, .slice tb0 t0 tk0]) (by simp [results, Try.results24, go_sem, d0, d1, d2, d3, p0, p1, p2, p3, HXL.out]) rfl (by rw [show x.sim = u0.sim from by rw [HSIM.out]; simp [simN_four, simN_three, simN_six, simN_seven, simN_eight, ← HS0.out]]; exact HE0.out _ _ _ _)
                    · have f1 : (s0 == 1) = false := by simp [h1]
                      go_wp2_with fail
                      exact bodyPost_ret (v := .agg #[.int .i64 7, .string xs, .slice eo' m ek', .slice (some ⟨g, 0, none⟩) 1 vc]) (by simp [results, Try.results24, go_sem, d0, d1, d2, d3, p0, p1, p2, p3, HXL.out]) rfl (HFS.out (by rw [HSIM.out]; simp [simN_four, simN_three, simN_six, simN_seven, simN_eight, ← HS0.out, h1]) _ _ _ _)
                  · have g7 : (xo == 7) = false := by simp [q7]
                    by_cases q8 : xo = 8
                    · subst q8
                      obtain ⟨u0, hl2⟩ := one_of (l := l2) (by rw [← HM2.out]; have := hlen.2.1; simp [kidT] at this; omega)
                      obtain rfl : j = 1 := by have := hlen.2.1; simp [kidT] at this; omega
                      subst hl2
                      obtain ⟨q0, hq0, eo0, ek0, tb0, tk0, rfl, hc0, hd0, hx0, ht0⟩ := HFIT.out.get (i := 0) (x := u0.sim) rfl
                      have HE0 : Hid (∀ x0 x1 x2 x3, SimPost S w u0.sim (.returned (trV u0.sim eo0 ek0 tb0 tk0)) ((((X.setCell ⟨byy, 0, none⟩ x0).setCell ⟨byy, 1, none⟩ x1).setCell ⟨byy, 2, none⟩ x2).setCell ⟨byy, 3, none⟩ x3)) := Lib.hid fun x0 x1 x2 x3 => sim_fin HBX.out HZY.out.2.2.1 HRR.out (TrOk.stay (S := RJ S W.heap.size (.slice va 1 vc) X) ⟨hc0, hd0, hx0, ht0⟩ (fun b hb => .inl hb) (fun _ _ => rfl)) x0 x1 x2 x3
                      obtain ⟨g, rfl, hg, hgB, hk0⟩ := HROW.out.get hq0
                      obtain ⟨k0, k1, k2, k3⟩ := four_zero hk0
                      obtain ⟨s0, hs0⟩ : ∃ v, v = u0.sim.op := ⟨_, rfl⟩
                      obtain ⟨n0, hn0⟩ : ∃ v, v = u0.sim.nm := ⟨_, rfl⟩
                      obtain ⟨e0, he0⟩ : ∃ v, v = u0.sim.exprs.length := ⟨_, rfl⟩
                      obtain ⟨t0, hte0⟩ : ∃ v, v = u0.sim.terms.length := ⟨_, rfl⟩
                      dsimp only at k0 k1 k2 k3
                      rw [← hs0] at k0
                      rw [← hn0] at k1
                      rw [← he0] at k2
                      rw [← hte0] at k3
                      rw [show trV u0.sim eo0 ek0 tb0 tk0 = .agg #[.int .i64 s0, .string n0, .slice eo0 e0 ek0, .slice tb0 t0 tk0] from by rw [hs0, hn0, he0, hte0]] at HE0
                      have HS0 := Lib.hid hs0
                      clear hs0 hn0 he0 hte0 hq0 hc0 hd0 hx0 ht0 hk0 hg hgB hlen
                      by_cases h1 : s0 = 1
                      · subst h1
                        go_wp2_with fail
                        exact bodyPost_ret (v := .agg #[.int .i64 1, .string n0, .slice eo0 e0 ek0, .slice tb0 t0 tk0]) (by simp [results, Try.results24, go_sem, d0, d1, d2, d3, p0, p1, p2, p3, HXL.out]) rfl (by rw [show x.sim = u0.sim from by rw [HSIM.out]; simp [simN_four, simN_three, simN_six, simN_seven, simN_eight, ← HS0.out]]; exact HE0.out _ _ _ _)
                      · have f1 : (s0 == 1) = false := by simp [h1]
                        go_wp2_with fail
                        exact bodyPost_ret (v := .agg #[.int .i64 8, .string xs, .slice eo' m ek', .slice (some ⟨g, 0, none⟩) 1 vc]) (by simp [results, Try.results24, go_sem, d0, d1, d2, d3, p0, p1, p2, p3, HXL.out]) rfl (HFS.out (by rw [HSIM.out]; simp [simN_four, simN_three, simN_six, simN_seven, simN_eight, ← HS0.out, h1]) _ _ _ _)
                    · have g8 : (xo == 8) = false := by simp [q8]
                      by_cases q6 : xo = 6
                      · subst q6
                        obtain ⟨u0, hl2⟩ := one_of (l := l2) (by rw [← HM2.out]; have := hlen.2.1; simp [kidT] at this; omega)
                        obtain rfl : j = 1 := by have := hlen.2.1; simp [kidT] at this; omega
                        subst hl2
                        obtain ⟨q0, hq0, eo0, ek0, tb0, tk0, rfl, hc0, hd0, hx0, ht0⟩ := HFIT.out.get (i := 0) (x := u0.sim) rfl
                        have HE0 : Hid (∀ x0 x1 x2 x3, SimPost S w u0.sim (.returned (trV u0.sim eo0 ek0 tb0 tk0)) ((((X.setCell ⟨byy, 0, none⟩ x0).setCell ⟨byy, 1, none⟩ x1).setCell ⟨byy, 2, none⟩ x2).setCell ⟨byy, 3, none⟩ x3)) := Lib.hid fun x0 x1 x2 x3 => sim_fin HBX.out HZY.out.2.2.1 HRR.out (TrOk.stay (S := RJ S W.heap.size (.slice va 1 vc) X) ⟨hc0, hd0, hx0, ht0⟩ (fun b hb => .inl hb) (fun _ _ => rfl)) x0 x1 x2 x3
                        obtain ⟨g, rfl, hg, hgB, hk0⟩ := HROW.out.get hq0
                        obtain ⟨k0, k1, k2, k3⟩ := four_zero hk0
                        obtain ⟨s0, hs0⟩ : ∃ v, v = u0.sim.op := ⟨_, rfl⟩
                        obtain ⟨n0, hn0⟩ : ∃ v, v = u0.sim.nm := ⟨_, rfl⟩
                        obtain ⟨e0, he0⟩ : ∃ v, v = u0.sim.exprs.length := ⟨_, rfl⟩
                        obtain ⟨t0, hte0⟩ : ∃ v, v = u0.sim.terms.length := ⟨_, rfl⟩
                        dsimp only at k0 k1 k2 k3
                        rw [← hs0] at k0
                        rw [← hn0] at k1
                        rw [← he0] at k2
                        rw [← hte0] at k3
                        rw [show trV u0.sim eo0 ek0 tb0 tk0 = .agg #[.int .i64 s0, .string n0, .slice eo0 e0 ek0, .slice tb0 t0 tk0] from by rw [hs0, hn0, he0, hte0]] at HE0
                        have HS0 := Lib.hid hs0
                        obtain ⟨ev, hev⟩ := one_of (l := l) (by rw [← HM.out]; have := hlen.1; simp [kidE] at this; omega)
                        obtain rfl : m = 1 := by have := hlen.1; simp [kidE] at this; omega
                        subst hev
                        obtain ⟨ea, eb, ec, rfl, _, hec, ⟨m0, m1, m2', m3⟩, hel⟩ := HEX.out.get (i := 0) (x := ev) rfl
                        rw [Nat.zero_mul, addr_zero] at m0 m1 m2' m3
                        have CI := Lib.hid (isOne_any ev eb ec)
                        have HO : Hid (∀ X', Below X.heap.size X X' → ∀ b, (RJ S W.heap.size (.slice (some ⟨g, 0, none⟩) 1 vc) X b ∨ (Value.slice (some ⟨g, 0, none⟩) 1 vc).ownBlock = some b) → X'.heap[b]? = X.heap[b]?) := Lib.hid fun X' hX b hb => hX.block b (by rcases hb with h | h; exact rj_lt HSWB.out (by have := HBX.out.size; have := HROW.out.lt (g := g) rfl; omega) b h; exact (HROW.out.lt h).1)
                        obtain ⟨oo, hoo⟩ : ∃ v, v = ev.op := ⟨_, rfl⟩
                        obtain ⟨on, hon⟩ : ∃ v, v = ev.n := ⟨_, rfl⟩
                        obtain ⟨os', hos⟩ : ∃ v, v = ev.nm := ⟨_, rfl⟩
                        obtain ⟨ol, hol⟩ : ∃ v, v = ev.args.length := ⟨_, rfl⟩
                        obtain ⟨oi, hoi⟩ : ∃ v, v = ev.isO := ⟨_, rfl⟩
                        rw [← hoi, show exV ev eb ec = .agg #[.int .i64 oo, .int .i64 on, .string os', .slice eb ol ec] from by rw [hoo, hon, hos, hol]] at CI
                        rw [← hoo] at m0
                        rw [← hon] at m1
                        rw [← hos] at m2'
                        rw [← hol] at m3
                        have HOI := Lib.hid hoi
                        clear hoo hon hos hol hoi hec hel
                        by_cases h1 : s0 = 1
                        · subst h1
                          clear hs0 hn0 he0 hte0 hq0 hc0 hd0 hx0 ht0 hk0 hg hgB hlen
                          go_wp2_with fail
                          exact bodyPost_ret (v := .agg #[.int .i64 1, .string n0, .slice eo0 e0 ek0, .slice tb0 t0 tk0]) (by simp [results, Try.results24, go_sem, d0, d1, d2, d3, p0, p1, p2, p3, HXL.out]) rfl (by rw [show x.sim = u0.sim from by rw [HSIM.out]; simp [simN_four, simN_three, simN_six, simN_seven, simN_eight, ← HS0.out]]; exact HE0.out _ _ _ _)
                        · have f1 : (s0 == 1) = false := by simp [h1]
                          have HGL := Lib.hid hg
                          have HF6 : Hid (∀ X', Below X.heap.size X X' → ∀ (t : Tr) eo ek tb tk, TrOk (fun b => RJ S W.heap.size (.slice (some ⟨g, 0, none⟩) 1 vc) X b ∨ (Value.slice (some ⟨g, 0, none⟩) 1 vc).ownBlock = some b) X t eo ek tb tk → ∀ x0 x1 x2 x3, SimPost S w t (.returned (trV t eo ek tb tk)) ((((X'.setCell ⟨byy, 0, none⟩ x0).setCell ⟨byy, 1, none⟩ x1).setCell ⟨byy, 2, none⟩ x2).setCell ⟨byy, 3, none⟩ x3)) := Lib.hid fun X' hX t eo ek tb tk ht x0 x1 x2 x3 =>
                            sim_fin (below_mono HBX.out hX (Nat.le_refl _)) HZY.out.2.2.1 (fun b hb => ⟨(HRR.out b hb).1, (HRR.out b hb).2.imp id fun h => ⟨h.1, Nat.lt_of_lt_of_le h.2 hX.size⟩⟩) (ht.stay (fun _ h => h) (HO.out X' hX)) x0 x1 x2 x3
                          have HEL : Hid (TrOk (fun b => RJ S W.heap.size (.slice (some ⟨g, 0, none⟩) 1 vc) X b ∨ (Value.slice (some ⟨g, 0, none⟩) 1 vc).ownBlock = some b) X u0.sim eo0 ek0 tb0 tk0) := Lib.hid (TrOk.stay (S := RJ S W.heap.size (.slice (some ⟨g, 0, none⟩) 1 vc) X) ⟨hc0, hd0, hx0, ht0⟩ (fun b hb => .inl hb) (fun _ _ => rfl))
                          have HE6 : Hid (∀ X', Below X.heap.size X X' → ∀ x0 x1 x2 x3, SimPost S w u0.sim (.returned (.agg #[.int .i64 s0, .string n0, .slice eo0 e0 ek0, .slice tb0 t0 tk0])) ((((X'.setCell ⟨byy, 0, none⟩ x0).setCell ⟨byy, 1, none⟩ x1).setCell ⟨byy, 2, none⟩ x2).setCell ⟨byy, 3, none⟩ x3)) := Lib.hid fun X' hX x0 x1 x2 x3 => by
                            have := HF6.out X' hX _ _ _ _ _ HEL.out x0 x1 x2 x3
                            rw [show trV u0.sim eo0 ek0 tb0 tk0 = .agg #[.int .i64 s0, .string n0, .slice eo0 e0 ek0, .slice tb0 t0 tk0] from by rw [hs0, hn0, he0, hte0]] at this
                            exact this
                          have HG6 : Hid (∀ X', Below X.heap.size X X' → ∀ x0 x1 x2 x3, SimPost S w (.mk 6 xs [ev] [u0.sim]) (.returned (.agg #[.int .i64 6, .string xs, .slice (some ea) 1 ek', .slice (some ⟨g, 0, none⟩) 1 vc])) ((((X'.setCell ⟨byy, 0, none⟩ x0).setCell ⟨byy, 1, none⟩ x1).setCell ⟨byy, 2, none⟩ x2).setCell ⟨byy, 3, none⟩ x3)) := Lib.hid fun X' hX x0 x1 x2 x3 => HF6.out X' hX _ _ _ _ _ HSELF.out x0 x1 x2 x3
                          clear hs0 hn0 he0 hte0 hq0 hc0 hd0 hx0 ht0 hk0 hg hgB hlen
                          cases oi with
                          | true =>
                            go_wp2_with (go_at_call 37; (with_reducible refine (CI.out _).mono ?_); rintro e X2 ⟨rfl, hb⟩; have HB9 := Lib.hid hb; have kk0 := (hb.cell (p := ⟨g, 0, none⟩) HGL.out).trans k0; have kk1 := (hb.cell (p := ⟨g, 1, none⟩) HGL.out).trans k1; have kk2 := (hb.cell (p := ⟨g, 2, none⟩) HGL.out).trans k2; have kk3 := (hb.cell (p := ⟨g, 3, none⟩) HGL.out).trans k3; have hz2 := (hb.block z (lt_of_heap HHZ.out)).trans HHZ.out; have hy2 := (hb.block byy (lt_of_heap HHY.out)).trans HHY.out; clear c0 c1 c2 c3 d0 d1 d2 d3 p0 p1 p2 p3 k0 k1 k2 k3 m0 m1 m2' m3 hb; obtain ⟨c0, c1, c2, c3⟩ := quad hz2; obtain ⟨d0, d1, d2, d3⟩ := quad hy2; have p0 : X2.frozen? ⟨byy, 0, none⟩ = false := free_blk hy2 0; have p1 : X2.frozen? ⟨byy, 1, none⟩ = false := free_blk hy2 1; have p2 : X2.frozen? ⟨byy, 2, none⟩ = false := free_blk hy2 2; have p3 : X2.frozen? ⟨byy, 3, none⟩ = false := free_blk hy2 3; have HXL2 := Lib.hid (lt_of_heap hy2); clear hz2 hy2)
                            exact bodyPost_ret (v := .agg #[.int .i64 s0, .string n0, .slice eo0 e0 ek0, .slice tb0 t0 tk0]) (by simp [results, Try.results24, go_sem, d0, d1, d2, d3, p0, p1, p2, p3, HXL2.out]) rfl (by rw [show x.sim = u0.sim from by rw [HSIM.out]; simp [simN_six, ← HOI.out]]; exact HE6.out _ HB9.out _ _ _ _)
                          | false =>
                            go_wp2_with (go_at_call 37; (with_reducible refine (CI.out _).mono ?_); rintro e X2 ⟨rfl, hb⟩; have HB9 := Lib.hid hb; have kk0 := (hb.cell (p := ⟨g, 0, none⟩) HGL.out).trans k0; have kk1 := (hb.cell (p := ⟨g, 1, none⟩) HGL.out).trans k1; have kk2 := (hb.cell (p := ⟨g, 2, none⟩) HGL.out).trans k2; have kk3 := (hb.cell (p := ⟨g, 3, none⟩) HGL.out).trans k3; have hz2 := (hb.block z (lt_of_heap HHZ.out)).trans HHZ.out; have hy2 := (hb.block byy (lt_of_heap HHY.out)).trans HHY.out; clear c0 c1 c2 c3 d0 d1 d2 d3 p0 p1 p2 p3 k0 k1 k2 k3 m0 m1 m2' m3 hb; obtain ⟨c0, c1, c2, c3⟩ := quad hz2; obtain ⟨d0, d1, d2, d3⟩ := quad hy2; have p0 : X2.frozen? ⟨byy, 0, none⟩ = false := free_blk hy2 0; have p1 : X2.frozen? ⟨byy, 1, none⟩ = false := free_blk hy2 1; have p2 : X2.frozen? ⟨byy, 2, none⟩ = false := free_blk hy2 2; have p3 : X2.frozen? ⟨byy, 3, none⟩ = false := free_blk hy2 3; have HXL2 := Lib.hid (lt_of_heap hy2); clear hz2 hy2)
                            exact bodyPost_ret (v := .agg #[.int .i64 6, .string xs, .slice (some ea) 1 ek', .slice (some ⟨g, 0, none⟩) 1 vc]) (by simp [results, Try.results24, go_sem, d0, d1, d2, d3, p0, p1, p2, p3, HXL2.out]) rfl (by rw [show x.sim = .mk 6 xs [ev] [u0.sim] from by rw [HSIM.out]; simp [simN_six, ← HOI.out, ← HS0.out, h1]]; exact HG6.out _ HB9.out _ _ _ _)
                      · exfalso
                        have := hlen.1
                        unfold kidE at this
                        (repeat' split at this) <;> omega
end Go.Proofs.Ytepoihokbcoidaa
