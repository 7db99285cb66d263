/- Layer 21: terms whose expressions are folded: the program's folded, the document's Folded. Conditions: those written at each theorem. -/
import Derived.Test.YtidldlhhmophjaaFdA
namespace Go.Proofs.Ytidldlhhmophjaa
open Go.RowKit Go.PlainAid Go.Sort
set_option linter.unusedVariables false
set_option linter.unusedSimpArgs false
/-- A term whose expressions are folded. -/
def Tr.fo : Tr → Tr
  | .mk o s e l => .mk o s (e.map Xp.fo) (fos l)
where fos : List Tr → List Tr
  | [] => []
  | x :: t => x.fo :: fos t
theorem tfos_map (l : List Tr) : Tr.fo.fos l = l.map Tr.fo := by
  induction l with
  | nil => rfl
  | cons x t ih => simp [Tr.fo.fos, ih]
theorem Tr.fo_eq (x : Tr) : x.fo = .mk x.op x.nm (x.exprs.map Xp.fo) (x.terms.map Tr.fo) := by
  cases x with
  | mk o s e l =>
    show Tr.mk o s (e.map Xp.fo) (Tr.fo.fos l) = _
    rw [tfos_map]
    rfl
/-- All expressions in a term have numbers of 64 bits. -/
def Tr.rng : Tr → Prop
  | .mk _ _ e l => (∀ y ∈ e, y.rng) ∧ rngs l
where rngs : List Tr → Prop
  | [] => True
  | x :: t => x.rng ∧ rngs t
theorem trngs_all (l : List Tr) : Tr.rng.rngs l ↔ ∀ y ∈ l, y.rng := by
  induction l with
  | nil => simp [Tr.rng.rngs]
  | cons x t ih => simp [Tr.rng.rngs, ih]
theorem Tr.rng_eq (x : Tr) : x.rng ↔ (∀ y ∈ x.exprs, y.rng) ∧ ∀ y ∈ x.terms, y.rng := by
  cases x with
  | mk o s e l =>
    show (∀ y ∈ e, y.rng) ∧ Tr.rng.rngs l ↔ _
    rw [trngs_all]
    exact Iff.rfl

set_option maxRecDepth 100000 in
set_option maxHeartbeats 32000000 in
theorem folded_any {S : Nat → Prop} {B : Nat} (hS : ∀ b, S b → b < B) (x : Tr) : ∀ (eo' : Option Addr) (ek' : Nat) (tb' : Option Addr) (tk' : Nat) (w : World), B ≤ w.heap.size → x.blt = true → x.rng → TrOk S w x eo' ek' tb' tk' →
    Calls Try.prog 59 #[trV x eo' ek' tb' tk'] w (SimPost S w x.fo) := by
  induction x using Tr.ind with
  | h x IH =>
  intro eo' ek' tb' tk' w hB hb hrg hx
  have hlen := blt_len hb
  have hrng := (Tr.rng_eq x).1 hrg
  have hfo := x.fo_eq
  obtain ⟨l, hl⟩ : ∃ l, l = x.exprs := ⟨_, rfl⟩
  obtain ⟨l2, hl2⟩ : ∃ l, l = x.terms := ⟨_, rfl⟩
  obtain ⟨m, hm⟩ : ∃ m, m = l.length := ⟨_, rfl⟩
  obtain ⟨m2, hm2⟩ : ∃ m, m = l2.length := ⟨_, rfl⟩
  obtain ⟨xo, hxo⟩ : ∃ v, v = x.op := ⟨_, rfl⟩
  obtain ⟨xs, hxs⟩ : ∃ v, v = x.nm := ⟨_, rfl⟩
  rw [show trV x eo' ek' tb' tk' = .agg #[.int .i64 xo, .string xs, .slice eo' m ek', .slice tb' m2 tk'] from by rw [hm, hm2, hl, hl2, hxo, hxs]]
  rw [← hl2] at IH hlen hfo hrng
  rw [← hl] at hlen hfo hrng
  rw [← hxo] at hlen hfo
  rw [← hxs] at hfo
  rw [← hm, ← hm2] at hlen
  have hm7 : m2 < 1000 := by have := hlen.2.1; unfold kidT at this; (repeat' split at this) <;> omega
  have hm8 : m < 1000 := by have := hlen.1; unfold kidE at this; (repeat' split at this) <;> omega
  obtain ⟨byy, hy⟩ : ∃ z, z = w.heap.size + 1 := ⟨_, rfl⟩
  obtain ⟨z, hz⟩ : ∃ z, z = w.heap.size := ⟨_, rfl⟩
  have HST : Hid (∀ W, Below w.heap.size w W → TrOk S W x eo' ek' tb' tk') := Lib.hid fun W hW => hx.next (fun b h => by have := hS b h; omega) hW
  have HX2 : Hid (∀ W, Below w.heap.size w W → TrL S W l2 tb') := Lib.hid fun W hW => by rw [hl2]; exact (HST.out W hW).te
  have HX : Hid (∀ W, Below w.heap.size w W → ExL S W l eo') := Lib.hid fun W hW => by rw [hl]; exact (HST.out W hW).ex
  have HI : Hid (∀ y ∈ l2, ∀ (eo : Option Addr) (ek : Nat) (tb : Option Addr) (tk : Nat) W, Below w.heap.size w W → TrOk S W y eo ek tb tk → Calls Try.prog 59 #[trV y eo ek tb tk] W (SimPost S W y.fo)) := Lib.hid fun u hu eo ek tb tk W hW h => IH u hu eo ek tb tk W (by have := hW.size; omega) (hlen.2.2.1 u hu) (hrng.2 u hu) h
  have HIX : Hid (∀ y ∈ l, ∀ (co : Option Addr) (ck : Nat) W, Below w.heap.size w W → y.args.length ≤ ck → ExL S W y.args co → Calls Try.prog 58 #[exV y co ck] W (FoPost S W y.fo)) := Lib.hid fun u hu co ck W hW h1 h2 => fold_any (B := B) hS value_any u co ck W (by have := hW.size; omega) (hlen.2.2.2 u hu) (fo_kept u (hlen.2.2.2 u hu) (hrng.1 u hu)).2 h1 h2
  have HFO := Lib.hid hfo
  have HM := Lib.hid hm
  have HM2 := Lib.hid hm2
  have HSB : Hid (∀ b, S b → b < w.heap.size) := Lib.hid fun b h => by have := hS b h; omega
  have HZY := Lib.hid (show byy ≠ z ∧ w.heap.size ≤ z ∧ w.heap.size ≤ byy ∧ byy = w.heap.size + 1 ∧ z = w.heap.size by omega)
  have GA := Lib.hid (box_zero (.int .i64 xo) (.string xs) (.slice eo' m ek') (.slice tb' m2 tk') w)
  clear IH hb hrg hrng hx hlen hfo hl hl2 hm hm2 hxo hxs
  go_enter Try.func59, Try.ntmps59
  go_upto_region 2 with fail
  obtain ⟨W, hW⟩ : ∃ X, (w.alloc (.cells #[.int .i64 xo, .string xs, .slice eo' m ek', .slice tb' m2 tk'] 42)).alloc (.cells #[.int .i64 0, .string ⟨#[]⟩, .slice none 0 0, .slice none 0 0] 42) = X := ⟨_, rfl⟩
  obtain ⟨b1, b2, g1⟩ := GA.out W hW
  have HG := Lib.hid g1
  rw [← hz] at b1
  rw [← hy] at b2
  rw [hW, ← hz, show z + 1 = byy from by omega]
  have HB1 := Lib.hid b1
  have HB2 := Lib.hid b2
  have HWZ : Hid (byy < W.heap.size) := Lib.hid (lt_of_heap b2)
  have HSWB : Hid (∀ b, S b → b < W.heap.size) := Lib.hid fun b h => by have := HSB.out b h; have := g1.size; omega
  have c2 : W.cell? ⟨z, 2, none⟩ = some (.slice eo' m ek') := cell_blk b1 2
  clear hW b1 b2 g1 GA hz hy
  go_upto_region 3 with fail
  clear c2
  go_loopw [12, 3] (fun v s wr => ∃ (j : Nat) (va : Option Addr) (vc : Nat) (qs : List Q4), j ≤ m ∧ v = .int .i64 j ∧ s = .slice va j vc ∧ Hid (FoB S W.heap.size (.slice va j vc) (.slice none 0 0) ((l.take j).map Xp.fo) [] qs wr) ∧ Hid (Below W.heap.size W wr)) (fun v _ _ => m - (intOf v).toNat)
  case atStart => exact ⟨0, none, 0, [], by omega, rfl, rfl, Lib.hid ⟨rfl, Row4.nil _ _ _, World.ownsRow_nil _ _ _ _, by simpa using Fits.nil _⟩, Lib.hid (Below.refl _ _)⟩
  case round =>
    obtain ⟨j, va, vc, qs, hj, rfl, rfl, HR, HB⟩ := hrel
    have HBW := Lib.hid (below_mono HG.out HB.out (Nat.le_refl _))
    by_cases hlt : j < m
    · obtain ⟨y, hy⟩ : ∃ y, l[j]? = some y := ⟨_, List.getElem?_eq_getElem (by rw [← HM.out]; exact hlt)⟩
      obtain ⟨a, co, ck, rfl, hsa, hck, ⟨y0, y1, y2, y3⟩, hyl⟩ := (HX.out wr HBW.out).get hy
      have htk1 : (l.take (j + 1)).map Xp.fo = (l.take j).map Xp.fo ++ [y.fo] := by rw [List.take_add_one, hy]; simp
      have CY : Hid (∀ W', Below wr.heap.size wr W' → Calls Try.prog 58 #[exV y co ck] W' (FoPost S W' y.fo)) := Lib.hid fun W' hW' => HIX.out y (List.mem_of_getElem? hy) co ck W' (below_mono HBW.out hW' (Nat.le_refl _)) hck (hyl.stay (fun _ h => h) fun b hb => hW'.block b (by have := HSB.out b hb; have := HBW.out.size; omega))
      obtain ⟨sy, hsy⟩ : ∃ v, v = y.fo := ⟨_, rfl⟩
      obtain ⟨ls, hls⟩ : ∃ v, v = (l.take j).map Xp.fo := ⟨_, rfl⟩
      have HTK : Hid ((l.take (j + 1)).map Xp.fo = ls ++ [sy]) := Lib.hid (by rw [htk1, hsy, hls])
      rw [← hls] at HR
      rw [← hsy] at CY
      obtain ⟨cm, hcm⟩ : ∃ c, c = y.args.length := ⟨_, rfl⟩
      obtain ⟨yo, hyo⟩ : ∃ v, v = y.op := ⟨_, rfl⟩
      obtain ⟨yn, hyn⟩ : ∃ v, v = y.n := ⟨_, rfl⟩
      obtain ⟨ys, hys⟩ : ∃ v, v = y.nm := ⟨_, rfl⟩
      rw [← hcm] at y3
      rw [← hyo] at y0
      rw [← hyn] at y1
      rw [← hys] at y2
      rw [show exV y co ck = .agg #[.int .i64 yo, .int .i64 yn, .string ys, .slice co cm ck] from by rw [hcm, hyo, hyn, hys]] at CY
      obtain ⟨so, hso⟩ : ∃ v, v = sy.op := ⟨_, rfl⟩
      obtain ⟨sn, hsn⟩ : ∃ v, v = sy.n := ⟨_, rfl⟩
      obtain ⟨ss, hss⟩ : ∃ v, v = sy.nm := ⟨_, rfl⟩
      obtain ⟨sm, hsm⟩ : ∃ v, v = sy.args.length := ⟨_, rfl⟩
      have HSY := Lib.hid (And.intro hso (And.intro hsn (And.intro hss hsm)))
      have hj1000 : j ≤ 1000 := by omega
      have HQL : Hid (qs.length = j) := Lib.hid (by obtain ⟨a, c, e, h⟩ := HR.out.row.form; injection e with _ e2 _; omega)
      have HLT : Hid (∀ g, (Value.slice va j vc).ownBlock = some g → g < wr.heap.size ∧ W.heap.size ≤ g) := Lib.hid fun g hg => HR.out.row.lt hg
      obtain ⟨⟨r0, r1, r2, r3⟩, p0, p1, p2, p3⟩ := new_zero wr (.int .i64 0) (.int .i64 0) (.string ⟨#[]⟩) (.slice none 0 0) 34
      obtain ⟨u, hu⟩ : ∃ u, u = wr.heap.size := ⟨_, rfl⟩
      have j0 : (0 : Int) ≤ (j : Int) := by omega
      have j1 : (j : Int) < (m : Int) := by omega
      clear hcm hyo hyn hys hsa hck hyl hy htk1 hsy hls hso hsn hss hsm
      go_upto_region 5 with fail
      clear r0 r1 r2 r3 p0 p1 p2 p3 y0 y1 y2 y3
      obtain ⟨W3, hW3⟩ : ∃ X, wr.alloc (.cells #[.int .i64 yo, .int .i64 yn, .string ys, .slice co cm ck] 34) = X := ⟨_, rfl⟩
      have HB3 := Lib.hid (made_box wr _ W3 hW3)
      have hb3 : W3.heap[wr.heap.size]? = some (.cells #[.int .i64 yo, .int .i64 yn, .string ys, .slice co cm ck] 34 (0, 0)) := by rw [← hW3]; exact heap_alloc_new _ _
      rw [hW3]
      obtain ⟨y0, y1, y2, y3⟩ := quad hb3
      rw [← hu] at y0 y1 y2 y3 ⊢
      clear hb3 hW3 hu
      go_upto_region 6 with (first | (go_at_call 58; (with_reducible refine (CY.out _ HB3.out.1.2).mono ?_); rintro e w4 ⟨⟨eo2, ek2, he, hek2, hok⟩, hb4⟩; have HOK := Lib.hid (And.intro hek2 hok); have HB4 := Lib.hid hb4; obtain rfl : e = Ending.returned (.agg #[.int .i64 so, .int .i64 sn, .string ss, .slice eo2 sm ek2]) := (by rw [he, HSY.out.1, HSY.out.2.1, HSY.out.2.2.1, HSY.out.2.2.2]); clear he hek2 hok hb4 y0 y1 y2 y3 CY) | (at_builtin; refine wpList_appX rfl _ _ rfl W.heap.size (.slice va j vc) qs rfl ((HR.out.row.stay (fun g hg => (below_mono HB3.out.1.2 HB4.out (Nat.le_refl _)).block g (HR.out.row.lt hg).1)).stay (fun g hg => ((Below.refl w4.heap.size w4).alloc (Nat.le_refl _) _).block g (Nat.lt_of_lt_of_le (HR.out.row.lt hg).1 (below_mono HB3.out.1.2 HB4.out (Nat.le_refl _)).size))) w4.heap.size so sn ss eo2 sm ek2 rfl (heap_alloc_new w4 _) (by rw [HQL.out]; exact hj1000) (by have := HB.out.size; have := HB3.out.1.2.size; have := HB4.out.size; simp; omega) ?_; intro g' cap w5 hown hgr hor hgl; have HR5 := Lib.hid hown; have HG5 := Lib.hid hgr; have HO5 := Lib.hid hor; clear hown hgr hor hgl))
      rw [HQL.out]
      go_wp2_with fail
      go_roundw
      case rel =>
        have h1 := HB.out.size
        have h2 := HB3.out.1.2.size
        have h3 := HB4.out.size
        have HBA := (Below.refl w4.heap.size w4).alloc (Nat.le_refl _) (.cells #[.int .i64 so, .int .i64 sn, .string ss, .slice eo2 sm ek2] 34)
        have h34 := below_mono HB3.out.1.2 HB4.out (Nat.le_refl _)
        refine ⟨j + 1, some ⟨g', 0, none⟩, cap, qs ++ [(.int .i64 so, .int .i64 sn, .string ss, .slice eo2 sm ek2)], by omega, by go_num, rfl, Lib.hid ?_, Lib.hid (((below_mono HB.out h34 (Nat.le_refl _)).alloc (by omega) _).grown HG5.out (by simp; omega) (fun g hg => (HLT.out g hg).2))⟩
        rw [HTK.out]
        refine FoB.push (w := w4.alloc (.cells #[.int .i64 so, .int .i64 sn, .string ss, .slice eo2 sm ek2] 34)) (S' := fun b => S b ∨ (W3.heap.size ≤ b ∧ b < w4.heap.size)) ((HR.out.stay HSWB.out h1 h34.size fun b hb _ => h34.block b hb).stay HSWB.out (by omega) HBA.size fun b hb _ => HBA.block b hb) HSWB.out (by simp; omega) (by rw [← HQL.out]; exact HR5.out) HG5.out HO5.out ?_ ?_
        · exact ⟨eo2, ek2, by rw [HSY.out.1, HSY.out.2.1, HSY.out.2.2.1, HSY.out.2.2.2], HOK.out.1, HOK.out.2.stay (fun _ h => h) fun b hb => HBA.block b (by
            rcases hb with hb | hb
            · have := HSWB.out b hb; omega
            · exact hb.2)⟩
        · rintro b (hb | hb)
          · exact ⟨by have := HSWB.out b hb; simp; omega, .inl hb⟩
          · exact ⟨by simp; omega, .inr ⟨by omega, fun e => by have := HLT.out b e; omega, fun e => by cases e⟩⟩
      case measure => simp [intOf]; omega
    · obtain rfl : j = m := by omega
      have HLS : Hid ((l.take j).map Xp.fo = l.map Xp.fo) := Lib.hid (by rw [List.take_of_length_le (by rw [HM.out]; exact Nat.le_refl _)])
      rw [HLS.out] at HR
      have HLE : Hid (ExL (fun b => S b ∨ (W.heap.size ≤ b ∧ b < wr.heap.size)) wr (l.map Xp.fo) va) := Lib.hid HR.out.list
      have HVC : Hid (j ≤ vc) := Lib.hid (by obtain ⟨a, c, e, h⟩ := HR.out.row.form; injection e with _ e2 e3; omega)
      obtain ⟨ea, hea⟩ : ∃ a, a = va := ⟨_, rfl⟩
      obtain ⟨ec, hec⟩ : ∃ a, a = vc := ⟨_, rfl⟩
      rw [← hea, ← hec]
      rw [← hea] at HLE
      rw [← hec] at HVC
      obtain ⟨W2, hW2⟩ : ∃ X, X = wr := ⟨_, rfl⟩
      rw [← hW2] at HB HBW HLE ⊢
      have HSW2 : Hid (∀ b, S b → b < W2.heap.size) := Lib.hid fun b h => Nat.lt_of_lt_of_le (HSWB.out b h) HB.out.size
      have HBZ1 : Hid (W2.heap[z]? = some (.cells #[.int .i64 xo, .string xs, .slice eo' j ek', .slice tb' m2 tk'] 42 (0, 0)) ∧ W2.heap[byy]? = some (.cells #[.int .i64 0, .string ⟨#[]⟩, .slice none 0 0, .slice none 0 0] 42 (0, 0))) := Lib.hid ⟨(HB.out.block z (lt_of_heap HB1.out)).trans HB1.out, (HB.out.block byy (lt_of_heap HB2.out)).trans HB2.out⟩
      have HBW2 := HBW
      have HBWW := HB
      have j1 : ¬ (j : Int) < (j : Int) := by omega
      have c3 : W2.cell? ⟨z, 3, none⟩ = some (.slice tb' m2 tk') := cell_blk HBZ1.out.1 3
      clear HR hea hec hW2 HB HBW
      go_upto_region 9 with fail
      clear c3
      go_loopw [25, 6] (fun v s wr => ∃ (i : Nat) (va : Option Addr) (vc : Nat) (qs : List Q4), i ≤ m2 ∧ v = .int .i64 i ∧ s = .slice va i vc ∧ Hid (qs.length = i ∧ Row4 wr W2.heap.size 42 (.slice va i vc) qs ∧ Fits (QT (RJ S W2.heap.size (.slice va i vc) wr) wr) ((l2.take i).map Tr.fo) qs) ∧ Hid (Below W2.heap.size W2 wr)) (fun v _ _ => m2 - (intOf v).toNat)
      case atStart => exact ⟨0, none, 0, [], by omega, rfl, rfl, Lib.hid ⟨rfl, Row4.nil _ _ _, by simpa using Fits.nil _⟩, Lib.hid (Below.refl _ _)⟩
      case round =>
        obtain ⟨i, va, vc, qs, hi, rfl, rfl, HR, HB⟩ := hrel
        have HBW := Lib.hid (below_mono HBW2.out HB.out (Nat.le_refl _))
        by_cases hlt2 : i < m2
        · obtain ⟨y, hy⟩ : ∃ y, l2[i]? = some y := ⟨_, List.getElem?_eq_getElem (by rw [← HM2.out]; exact hlt2)⟩
          obtain ⟨a, eo, ek, tb, tk, rfl, hsa, hek, htk, ⟨y0, y1, y2, y3⟩, hel, htl⟩ := (HX2.out wr HBW.out).get hy
          have htk1 : (l2.take (i + 1)).map Tr.fo = (l2.take i).map Tr.fo ++ [y.fo] := by rw [List.take_add_one, hy]; simp
          have CY : Hid (∀ W', Below wr.heap.size wr W' → Calls Try.prog 59 #[trV y eo ek tb tk] W' (SimPost S W' y.fo)) := Lib.hid fun W' hW' => HI.out y (List.mem_of_getElem? hy) eo ek tb tk W' (below_mono HBW.out hW' (Nat.le_refl _)) ⟨hek, htk, hel.stay (fun _ h => h) fun b hb => hW'.block b (by have := HSB.out b hb; have := HBW.out.size; omega), htl.stay (fun _ h => h) fun b hb => hW'.block b (by have := HSB.out b hb; have := HBW.out.size; omega)⟩
          obtain ⟨sy, hsy⟩ : ∃ v, v = y.fo := ⟨_, rfl⟩
          have HTK : Hid ((l2.take (i + 1)).map Tr.fo = (l2.take i).map Tr.fo ++ [sy]) := Lib.hid (by rw [htk1, hsy])
          rw [← hsy] at CY
          obtain ⟨em, hem⟩ : ∃ c, c = y.exprs.length := ⟨_, rfl⟩
          obtain ⟨tm, htm⟩ : ∃ c, c = y.terms.length := ⟨_, rfl⟩
          obtain ⟨yo, hyo⟩ : ∃ v, v = y.op := ⟨_, rfl⟩
          obtain ⟨ys, hys⟩ : ∃ v, v = y.nm := ⟨_, rfl⟩
          rw [← hem] at y2
          rw [← htm] at y3
          rw [← hyo] at y0
          rw [← hys] at y1
          rw [show trV y eo ek tb tk = .agg #[.int .i64 yo, .string ys, .slice eo em ek, .slice tb tm tk] from by rw [hem, htm, hyo, hys]] at CY
          obtain ⟨so, hso⟩ : ∃ v, v = sy.op := ⟨_, rfl⟩
          obtain ⟨ss, hss⟩ : ∃ v, v = sy.nm := ⟨_, rfl⟩
          obtain ⟨se, hse⟩ : ∃ v, v = sy.exprs.length := ⟨_, rfl⟩
          obtain ⟨st, hst⟩ : ∃ v, v = sy.terms.length := ⟨_, rfl⟩
          have HSY := Lib.hid (And.intro hso (And.intro hss (And.intro hse hst)))
          have hj1000 : i ≤ 1000 := by omega
          have HQL := Lib.hid HR.out.1
          obtain ⟨⟨r0, r1, r2, r3⟩, p0, p1, p2, p3⟩ := new_zero wr (.int .i64 0) (.string ⟨#[]⟩) (.slice none 0 0) (.slice none 0 0) 42
          obtain ⟨u, hu⟩ : ∃ u, u = wr.heap.size := ⟨_, rfl⟩
          have j0 : (0 : Int) ≤ (i : Int) := by omega
          have j1 : (i : Int) < (m2 : Int) := by omega
          clear hem htm hyo hys hsa hek htk hel htl hy htk1 hsy hso hss hse hst
          go_upto_region 11 with fail
          clear r0 r1 r2 r3 p0 p1 p2 p3 y0 y1 y2 y3
          obtain ⟨W3, hW3⟩ : ∃ X, wr.alloc (.cells #[.int .i64 yo, .string ys, .slice eo em ek, .slice tb tm tk] 42) = X := ⟨_, rfl⟩
          have HB3 := Lib.hid (made_box wr _ W3 hW3)
          have hb3 : W3.heap[wr.heap.size]? = some (.cells #[.int .i64 yo, .string ys, .slice eo em ek, .slice tb tm tk] 42 (0, 0)) := by rw [← hW3]; exact heap_alloc_new _ _
          rw [hW3]
          obtain ⟨y0, y1, y2, y3⟩ := quad hb3
          rw [← hu] at y0 y1 y2 y3 ⊢
          clear hb3 hW3 hu
          go_upto_region 12 with (first | (go_at_call 59; (with_reducible refine (CY.out _ HB3.out.1.2).mono ?_); rintro e w4 ⟨⟨eo2, ek2, tb2, tk2, he, hok⟩, hb4⟩; have HOK := Lib.hid hok; have HB4 := Lib.hid hb4; obtain rfl : e = Ending.returned (.agg #[.int .i64 so, .string ss, .slice eo2 se ek2, .slice tb2 st tk2]) := (by rw [he, HSY.out.1, HSY.out.2.1, HSY.out.2.2.1, HSY.out.2.2.2]); clear he hok hb4 y0 y1 y2 y3 CY) | (at_builtin; refine wpList_appR rfl _ _ rfl W2.heap.size (.slice va i vc) qs rfl ((HR.out.2.1.stay (fun g hg => (below_mono HB3.out.1.2 HB4.out (Nat.le_refl _)).block g (HR.out.2.1.lt hg).1)).stay (fun g hg => ((Below.refl w4.heap.size w4).alloc (Nat.le_refl _) _).block g (Nat.lt_of_lt_of_le (HR.out.2.1.lt hg).1 (below_mono HB3.out.1.2 HB4.out (Nat.le_refl _)).size))) w4.heap.size so ss eo2 tb2 se ek2 st tk2 rfl (heap_alloc_new w4 _) (by rw [HQL.out]; exact hj1000) (by have := HB.out.size; have := HB3.out.1.2.size; have := HB4.out.size; simp; omega) ?_; intro g' cap w5 hown hgr hor hgl; have HR5 := Lib.hid hown; have HG5 := Lib.hid hgr; have HO5 := Lib.hid hor; have HGL := Lib.hid hgl; clear hown hgr hor hgl))
          rw [HQL.out]
          go_wp2_with fail
          go_roundw
          case rel =>
            refine ⟨i + 1, some ⟨g', 0, none⟩, cap, qs ++ [(.int .i64 so, .string ss, .slice eo2 se ek2, .slice tb2 st tk2)], by omega, by go_num, rfl, Lib.hid ⟨by rw [List.length_append, HQL.out]; rfl, by rw [← HQL.out]; exact HR5.out, ?_⟩, Lib.hid (((below_mono (below_mono HB.out HB3.out.1.2 (Nat.le_refl _)) HB4.out (Nat.le_refl _)).alloc (by have := HB.out.size; have := HB3.out.1.2.size; have := HB4.out.size; omega) _).grown HG5.out (by have := HB.out.size; have := HB3.out.1.2.size; have := HB4.out.size; simp; omega) (fun g hg => (HR.out.2.1.lt hg).2))⟩
            rw [HTK.out]
            have := rj_step (m := i + 1) (cap := cap) (w3 := W3) HSW2.out HB.out.size (below_mono HB3.out.1.2 HB4.out (Nat.le_refl _)) HB3.out.1.2.size HR.out.2.1 HR.out.2.2 HOK.out HG5.out HO5.out
            rw [← HSY.out.1, ← HSY.out.2.1, ← HSY.out.2.2.1, ← HSY.out.2.2.2] at this
            exact this
          case measure => simp [intOf]; omega
        · obtain rfl : i = m2 := by omega
          have i1 : ¬ (i : Int) < (i : Int) := by omega
          have HQL := Lib.hid HR.out.1
          have HOKX : Hid (∀ X, (∀ b, (S b ∨ W.heap.size ≤ b) → X.heap[b]? = wr.heap[b]?) → TrOk (fun b => S b ∨ (W.heap.size ≤ b ∧ b < wr.heap.size)) X (.mk xo xs (l.map Xp.fo) (l2.map Tr.fo)) ea ec va vc) := Lib.hid fun X hX => by
            have hfit := HR.out.2.2
            rw [List.take_of_length_le (by rw [HM2.out]; exact Nat.le_refl _)] at hfit
            have h2 := HBWW.out.size
            have h3 := HB.out.size
            have hte := HR.out.2.1.toT hfit
            have hvc : i ≤ vc := by obtain ⟨a, c, e, h⟩ := HR.out.2.1.form; injection e with _ e2 e3; omega
            refine ⟨by show (l.map Xp.fo).length ≤ ec; rw [List.length_map, ← HM.out]; exact HVC.out, by show (l2.map Tr.fo).length ≤ vc; rw [List.length_map, ← HM2.out]; exact hvc, HLE.out.stay (fun b hb => hb.imp id fun h => ⟨h.1, by omega⟩) fun b hb => (hX b (by
              rcases hb with hb | hb
              · exact .inl hb
              · exact .inr hb.1)).trans (HB.out.block b (by
              rcases hb with hb | hb
              · exact HSW2.out b hb
              · exact hb.2)), hte.stay (fun b hb => ?_) fun b hb => hX b ?_⟩
            · rcases hb with (hb | ⟨hb1, hb2, _⟩) | hb
              · exact .inl hb
              · exact .inr ⟨by omega, hb2⟩
              · have := HR.out.2.1.lt hb; exact .inr ⟨by omega, this.1⟩
            · rcases hb with (hb | ⟨hb1, hb2, _⟩) | hb
              · exact .inl hb
              · exact .inr (by omega)
              · have := HR.out.2.1.lt hb; exact .inr (by omega)
          have e1 := (HB.out.block z (lt_of_heap HBZ1.out.1)).trans HBZ1.out.1
          have e2 := (HB.out.block byy (lt_of_heap HBZ1.out.2)).trans HBZ1.out.2
          have HE1 := Lib.hid e1
          have HE2 := Lib.hid e2
          obtain ⟨c0, c1, c2, c3⟩ := quad e1
          have p2 : wr.frozen? ⟨z, 2, none⟩ = false := free_blk e1 2
          have p3 : wr.frozen? ⟨z, 3, none⟩ = false := free_blk e1 3
          have d2 : (wr.setCell ⟨z, 2, none⟩ (.slice ea j ec)).cell? ⟨z, 3, none⟩ = some (.slice tb' i tk') := cell_blk (heap_set_at (i := 2) (.slice ea j ec) e1) 3
          have f3 : (wr.setCell ⟨z, 2, none⟩ (.slice ea j ec)).frozen? ⟨z, 3, none⟩ = false := free_blk (heap_set_at (i := 2) (.slice ea j ec) e1) 3
          clear e1 e2
          go_upto_region 14 with fail
          clear c0 c1 c2 c3 p2 p3 d2 f3
          obtain ⟨X, hX⟩ : ∃ X, (wr.setCell ⟨z, 2, none⟩ (.slice ea j ec)).setCell ⟨z, 3, none⟩ (.slice va i vc) = X := ⟨_, rfl⟩
          have HXZ : Hid (X.heap[z]? = some (.cells #[.int .i64 xo, .string xs, .slice ea j ec, .slice va i vc] 42 (0, 0))) := Lib.hid (by rw [← hX]; exact heap_set_at (i := 3) _ (heap_set_at (i := 2) _ HE1.out))
          have HXO : Hid (∀ b, b ≠ z → X.heap[b]? = wr.heap[b]?) := Lib.hid fun b hb => by rw [← hX]; exact (Below.heap_setCell _ _ _ _ hb).trans (Below.heap_setCell _ _ _ _ hb)
          have HXS : Hid (X.heap.size = wr.heap.size) := Lib.hid (by rw [← hX]; simp)
          have HXB : Hid (Below w.heap.size w X) := Lib.hid (by rw [← hX]; exact (HBW.out.setCell (p := ⟨z, 2, none⟩) HZY.out.2.1 _).setCell (p := ⟨z, 3, none⟩) HZY.out.2.1 _)
          have HXY : Hid (X.heap[byy]? = some (.cells #[.int .i64 0, .string ⟨#[]⟩, .slice none 0 0, .slice none 0 0] 42 (0, 0))) := Lib.hid ((HXO.out byy HZY.out.1).trans HE2.out)
          have HTX : Hid (TrOk (fun b => S b ∨ (W.heap.size ≤ b ∧ b < wr.heap.size)) X (.mk xo xs (l.map Xp.fo) (l2.map Tr.fo)) ea ec va vc) := Lib.hid (HOKX.out X fun b hb => HXO.out b (by
            have h1 := HZY.out
            have h2 := HWZ.out
            rcases hb with hb | hb
            · have := HSB.out b hb; omega
            · omega))
          rw [hX]
          clear hX
          obtain ⟨c0, c1, c2, c3⟩ := quad HXZ.out
          obtain ⟨d0, d1, d2, d3⟩ := quad HXY.out
          have p0 : X.frozen? ⟨byy, 0, none⟩ = false := free_blk HXY.out 0
          have p1 : X.frozen? ⟨byy, 1, none⟩ = false := free_blk HXY.out 1
          have p2 : X.frozen? ⟨byy, 2, none⟩ = false := free_blk HXY.out 2
          have p3 : X.frozen? ⟨byy, 3, none⟩ = false := free_blk HXY.out 3
          go_wp2_with fail
          have hfin := sim_fin (S := S) (R := fun b => S b ∨ (W.heap.size ≤ b ∧ b < wr.heap.size)) (y := byy) HXB.out HZY.out.2.2.1 (fun b hb => by
            have h1 := HZY.out
            have h2 := HWZ.out
            have h3 := HG.out.size
            have h4 := HXS.out
            rcases hb with hb | hb
            · exact ⟨by have := HSB.out b hb; omega, .inl hb⟩
            · exact ⟨by omega, .inr ⟨by omega, by omega⟩⟩) HTX.out (.int .i64 xo) (.string xs) (.slice ea j ec) (.slice va i vc)
          have HS10 := Lib.hid (four_set X byy (.int .i64 xo) (.string xs) (.slice ea j ec) (.slice va i vc) _ _ ⟨_, _, _, _, rfl⟩ HXY.out)
          clear d0 d1 d2 d3 p0 p1 p2 p3
          obtain ⟨W10, hW10⟩ : ∃ Y, ((((X).setCell ⟨byy, 0, none⟩ (.int .i64 xo)).setCell ⟨byy, 1, none⟩ (.string xs)).setCell ⟨byy, 2, none⟩ (.slice ea j ec)).setCell ⟨byy, 3, none⟩ (.slice va i vc) = Y := ⟨_, rfl⟩
          rw [hW10] at hfin ⊢
          obtain ⟨_, _, _, x10⟩ := HS10.out W10 hW10
          obtain ⟨t0, t1, t2, t3⟩ := quad x10
          have e : trV (Tr.mk xo xs (l.map Xp.fo) (l2.map Tr.fo)) ea ec va vc = .agg #[.int .i64 xo, .string xs, .slice ea j ec, .slice va i vc] := by
            show Value.agg #[.int .i64 xo, .string xs, .slice ea (l.map Xp.fo).length ec, .slice va (l2.map Tr.fo).length vc] = _
            rw [List.length_map, List.length_map, ← HM.out, ← HM2.out]
          rw [e] at hfin
          exact bodyPost_ret (v := .agg #[.int .i64 xo, .string xs, .slice ea j ec, .slice va i vc]) (by simp [results, Try.results59, go_sem, t0, t1, t2, t3]) rfl (by rw [HFO.out]; exact hfin)
/-- The boxes of the document's walk: the term, the result, what comes of it. -/
structure DdB (z byy o3 : Nat) (ec : Array Value) (xo : Int) (xs : ByteArray) (re rt : Value) (w W : World) : Prop where
  bel : Below w.heap.size w W
  ez : W.heap[z]? = some (.cells ec 42 (0, 0))
  ey : W.heap[byy]? = some (.cells #[.int .i64 0, .string ⟨#[]⟩, .slice none 0 0, .slice none 0 0] 42 (0, 0))
  eo : W.heap[o3]? = some (.cells #[.int .i64 xo, .string xs, re, rt] 42 (0, 0))
theorem DdB.next {z byy o3 : Nat} {ec : Array Value} {xo : Int} {xs : ByteArray} {re rt : Value} {w W V : World} (h : DdB z byy o3 ec xo xs re rt w W) (k : Below W.heap.size W V) : DdB z byy o3 ec xo xs re rt w V :=
  ⟨below_mono h.bel k (Nat.le_refl _), (k.block z (lt_of_heap h.ez)).trans h.ez, (k.block byy (lt_of_heap h.ey)).trans h.ey, (k.block o3 (lt_of_heap h.eo)).trans h.eo⟩
theorem three_box2 (x0 x1 x2 x3 y0 y1 y2 y3 z0 z1 z2 z3 : Value) (T : TypeId) (w : World) : ∀ W, ((w.alloc (.cells #[x0, x1, x2, x3] T)).alloc (.cells #[y0, y1, y2, y3] T)).alloc (.cells #[z0, z1, z2, z3] T) = W → W.heap[w.heap.size]? = some (.cells #[x0, x1, x2, x3] T (0, 0)) ∧ W.heap[w.heap.size + 1]? = some (.cells #[y0, y1, y2, y3] T (0, 0)) ∧ W.heap[w.heap.size + 2]? = some (.cells #[z0, z1, z2, z3] T (0, 0)) ∧ Below w.heap.size w W ∧ W.heap.size = w.heap.size + 3 := by
  rintro W rfl
  obtain ⟨k1, b1, s1⟩ := cells_made #[x0, x1, x2, x3] T w _ rfl
  obtain ⟨k2, b2, s2⟩ := cells_made #[y0, y1, y2, y3] T (w.alloc (.cells #[x0, x1, x2, x3] T)) _ rfl
  obtain ⟨k3, b3, s3⟩ := cells_made #[z0, z1, z2, z3] T ((w.alloc (.cells #[x0, x1, x2, x3] T)).alloc (.cells #[y0, y1, y2, y3] T)) _ rfl
  rw [s1] at b2 s2
  rw [s2] at b3 s3
  exact ⟨(k3.block _ (by omega)).trans ((k2.block _ (by omega)).trans b1), (k3.block _ (by omega)).trans b2, b3, below_mono (below_mono k1 k2 (Nat.le_refl _)) k3 (Nat.le_refl _), s3⟩

set_option maxRecDepth 100000 in
set_option maxHeartbeats 32000000 in
theorem rfolded_any {S : Nat → Prop} {B : Nat} (hS : ∀ b, S b → b < B) (x : Tr) : ∀ (eo' : Option Addr) (ek' : Nat) (tb' : Option Addr) (tk' : Nat) (w : World), B ≤ w.heap.size → x.blt = true → x.rng → TrOk S w x eo' ek' tb' tk' →
    Calls Try.prog 30 #[trV x eo' ek' tb' tk'] w (SimPost S w x.fo) := by
  induction x using Tr.ind with
  | h x IH =>
  intro eo' ek' tb' tk' w hB hb hrg hx
  have hlen := blt_len hb
  have hrng := (Tr.rng_eq x).1 hrg
  have hfo := x.fo_eq
  obtain ⟨l, hl⟩ : ∃ l, l = x.exprs := ⟨_, rfl⟩
  obtain ⟨l2, hl2⟩ : ∃ l, l = x.terms := ⟨_, rfl⟩
  obtain ⟨m, hm⟩ : ∃ m, m = l.length := ⟨_, rfl⟩
  obtain ⟨m2, hm2⟩ : ∃ m, m = l2.length := ⟨_, rfl⟩
  obtain ⟨xo, hxo⟩ : ∃ v, v = x.op := ⟨_, rfl⟩
  obtain ⟨xs, hxs⟩ : ∃ v, v = x.nm := ⟨_, rfl⟩
  rw [show trV x eo' ek' tb' tk' = .agg #[.int .i64 xo, .string xs, .slice eo' m ek', .slice tb' m2 tk'] from by rw [hm, hm2, hl, hl2, hxo, hxs]]
  rw [← hl2] at IH hlen hfo hrng
  rw [← hl] at hlen hfo hrng
  rw [← hxo] at hlen hfo
  rw [← hxs] at hfo
  rw [← hm, ← hm2] at hlen
  have hm7 : m2 < 1000 := by have := hlen.2.1; unfold kidT at this; (repeat' split at this) <;> omega
  have hm8 : m < 1000 := by have := hlen.1; unfold kidE at this; (repeat' split at this) <;> omega
  obtain ⟨byy, hy⟩ : ∃ z, z = w.heap.size + 1 := ⟨_, rfl⟩
  obtain ⟨z, hz⟩ : ∃ z, z = w.heap.size := ⟨_, rfl⟩
  have HST : Hid (∀ W, Below w.heap.size w W → TrOk S W x eo' ek' tb' tk') := Lib.hid fun W hW => hx.next (fun b h => by have := hS b h; omega) hW
  have HX2 : Hid (∀ W, Below w.heap.size w W → TrL S W l2 tb') := Lib.hid fun W hW => by rw [hl2]; exact (HST.out W hW).te
  have HX : Hid (∀ W, Below w.heap.size w W → ExL S W l eo') := Lib.hid fun W hW => by rw [hl]; exact (HST.out W hW).ex
  have HI : Hid (∀ y ∈ l2, ∀ (eo : Option Addr) (ek : Nat) (tb : Option Addr) (tk : Nat) W, Below w.heap.size w W → TrOk S W y eo ek tb tk → Calls Try.prog 30 #[trV y eo ek tb tk] W (SimPost S W y.fo)) := Lib.hid fun u hu eo ek tb tk W hW h => IH u hu eo ek tb tk W (by have := hW.size; omega) (hlen.2.2.1 u hu) (hrng.2 u hu) h
  have HIX : Hid (∀ y ∈ l, ∀ (co : Option Addr) (ck : Nat) W, Below w.heap.size w W → y.args.length ≤ ck → ExL S W y.args co → Calls Try.prog 24 #[exV y co ck] W (FoPost S W y.fo)) := Lib.hid fun u hu co ck W hW h1 h2 => rfold_any (B := B) hS u co ck W (by have := hW.size; omega) (hlen.2.2.2 u hu) (hrng.1 u hu) h1 h2
  have HFO := Lib.hid hfo
  have HM := Lib.hid hm
  have HM2 := Lib.hid hm2
  have HSB : Hid (∀ b, S b → b < w.heap.size) := Lib.hid fun b h => by have := hS b h; omega
  have HZY := Lib.hid (show byy ≠ z ∧ w.heap.size ≤ z ∧ w.heap.size ≤ byy ∧ byy = w.heap.size + 1 ∧ z = w.heap.size by omega)
  obtain ⟨o3, ho3⟩ : ∃ z, z = w.heap.size + 2 := ⟨_, rfl⟩
  have GA := Lib.hid (three_box2 (.int .i64 xo) (.string xs) (.slice eo' m ek') (.slice tb' m2 tk') (.int .i64 0) (.string ⟨#[]⟩) (.slice none 0 0) (.slice none 0 0) (.int .i64 xo) (.string xs) (.slice none 0 0) (.slice none 0 0) 42 w)
  have HZO : Hid (o3 = w.heap.size + 2) := Lib.hid ho3
  obtain ⟨r0, r1, r2, r3⟩ : (((w.alloc (.cells #[.int .i64 xo, .string xs, .slice eo' m ek', .slice tb' m2 tk'] 42)).alloc (.cells #[.int .i64 0, .string ⟨#[]⟩, .slice none 0 0, .slice none 0 0] 42)).cell? ⟨w.heap.size, 0, none⟩ = some (.int .i64 xo)) ∧ _ ∧ _ ∧ _ := quad (two_box (.int .i64 xo) (.string xs) (.slice eo' m ek') (.slice tb' m2 tk') (.int .i64 0) (.string ⟨#[]⟩) (.slice none 0 0) (.slice none 0 0) 42 w _ rfl).1
  clear IH hb hrg hrng hx hlen hfo hl hl2 hm hm2 hxo hxs r2 r3
  go_enter Try.func30, Try.ntmps30
  go_upto_region 2 with fail
  clear r0 r1
  obtain ⟨W, hW⟩ : ∃ X, ((w.alloc (.cells #[.int .i64 xo, .string xs, .slice eo' m ek', .slice tb' m2 tk'] 42)).alloc (.cells #[.int .i64 0, .string ⟨#[]⟩, .slice none 0 0, .slice none 0 0] 42)).alloc (.cells #[.int .i64 xo, .string xs, .slice none 0 0, .slice none 0 0] 42) = X := ⟨_, rfl⟩
  obtain ⟨b1, b2, b3, g1, s1⟩ := GA.out W hW
  have HG := Lib.hid g1
  rw [← hz] at b1
  rw [← hy] at b2
  rw [← ho3] at b3
  rw [hW, ← hz, show z + 1 + 1 = o3 from by omega, show z + 1 = byy from by omega]
  have HE0 : Hid (DdB z byy o3 #[.int .i64 xo, .string xs, .slice eo' m ek', .slice tb' m2 tk'] xo xs (.slice none 0 0) (.slice none 0 0) w W) := Lib.hid ⟨g1, b1, b2, b3⟩
  have HWZ : Hid (o3 < W.heap.size ∧ byy < W.heap.size ∧ z < W.heap.size ∧ z ≠ o3 ∧ byy ≠ o3) := Lib.hid (by omega)
  have HSWB : Hid (∀ b, S b → b < W.heap.size ∧ b < z) := Lib.hid fun b h => by have := HSB.out b h; have := g1.size; omega
  clear hW b1 b2 b3 g1 GA hz hy ho3 s1
  go_upto_region 3 with fail
  go_loopw [4] (fun v wr => ∃ (j : Nat) (va : Option Addr) (vc : Nat) (qs : List Q4), j ≤ m ∧ v = .int .i64 j ∧ Hid (FoB S W.heap.size (.slice va j vc) (.slice none 0 0) ((l.take j).map Xp.fo) [] qs wr ∧ W.heap.size ≤ wr.heap.size) ∧ Hid (DdB z byy o3 #[.int .i64 xo, .string xs, .slice eo' m ek', .slice tb' m2 tk'] xo xs (.slice va j vc) (.slice none 0 0) w wr)) (fun v _ => m - (intOf v).toNat)
  case atStart => exact ⟨0, none, 0, [], by omega, rfl, Lib.hid ⟨⟨rfl, Row4.nil _ _ _, World.ownsRow_nil _ _ _ _, by simpa using Fits.nil _⟩, Nat.le_refl _⟩, HE0⟩
  case round =>
    obtain ⟨j, va, vc, qs, hj, rfl, HR, HE⟩ := hrel
    have HBW := Lib.hid HE.out.bel
    have c2 : wr.cell? ⟨z, 2, none⟩ = some (.slice eo' m ek') := cell_blk HE.out.ez 2
    by_cases hlt : j < m
    · obtain ⟨y, hy⟩ : ∃ y, l[j]? = some y := ⟨_, List.getElem?_eq_getElem (by rw [← HM.out]; exact hlt)⟩
      obtain ⟨a, co, ck, rfl, hsa, hck, ⟨y0, y1, y2, y3⟩, hyl⟩ := (HX.out wr HBW.out).get hy
      have htk1 : (l.take (j + 1)).map Xp.fo = (l.take j).map Xp.fo ++ [y.fo] := by rw [List.take_add_one, hy]; simp
      have CY : Hid (∀ W', Below wr.heap.size wr W' → Calls Try.prog 24 #[exV y co ck] W' (FoPost S W' y.fo)) := Lib.hid fun W' hW' => HIX.out y (List.mem_of_getElem? hy) co ck W' (below_mono HBW.out hW' (Nat.le_refl _)) hck (hyl.stay (fun _ h => h) fun b hb => hW'.block b (by have := HSB.out b hb; have := HBW.out.size; omega))
      obtain ⟨sy, hsy⟩ : ∃ v, v = y.fo := ⟨_, rfl⟩
      obtain ⟨ls, hls⟩ : ∃ v, v = (l.take j).map Xp.fo := ⟨_, rfl⟩
      have HTK : Hid ((l.take (j + 1)).map Xp.fo = ls ++ [sy]) := Lib.hid (by rw [htk1, hsy, hls])
      rw [← hls] at HR
      rw [← hsy] at CY
      obtain ⟨cm, hcm⟩ : ∃ c, c = y.args.length := ⟨_, rfl⟩
      obtain ⟨yo, hyo⟩ : ∃ v, v = y.op := ⟨_, rfl⟩
      obtain ⟨yn, hyn⟩ : ∃ v, v = y.n := ⟨_, rfl⟩
      obtain ⟨ys, hys⟩ : ∃ v, v = y.nm := ⟨_, rfl⟩
      rw [← hcm] at y3
      rw [← hyo] at y0
      rw [← hyn] at y1
      rw [← hys] at y2
      rw [show exV y co ck = .agg #[.int .i64 yo, .int .i64 yn, .string ys, .slice co cm ck] from by rw [hcm, hyo, hyn, hys]] at CY
      obtain ⟨so, hso⟩ : ∃ v, v = sy.op := ⟨_, rfl⟩
      obtain ⟨sn, hsn⟩ : ∃ v, v = sy.n := ⟨_, rfl⟩
      obtain ⟨ss, hss⟩ : ∃ v, v = sy.nm := ⟨_, rfl⟩
      obtain ⟨sm, hsm⟩ : ∃ v, v = sy.args.length := ⟨_, rfl⟩
      have HSY := Lib.hid (And.intro hso (And.intro hsn (And.intro hss hsm)))
      have hj1000 : j ≤ 1000 := by omega
      have HQL : Hid (qs.length = j) := Lib.hid (by obtain ⟨a, c, e, h⟩ := HR.out.1.row.form; injection e with _ e2 _; omega)
      have HLT : Hid (∀ g, (Value.slice va j vc).ownBlock = some g → g < wr.heap.size ∧ W.heap.size ≤ g) := Lib.hid fun g hg => HR.out.1.row.lt hg
      have HBSZ : Hid (W.heap.size ≤ W.heap.size) := Lib.hid (Nat.le_refl _)
      obtain ⟨s0, s1, s2, s3⟩ := quad HE.out.eo
      have j0 : (0 : Int) ≤ (j : Int) := by omega
      have j1 : (j : Int) < (m : Int) := by omega
      clear hcm hyo hyn hys hsa hck hyl hy htk1 hsy hls hso hsn hss hsm s0 s1 s3
      go_upto_region 5 with fail
      go_region_law (first | (refine step_appX rfl _ _ rfl W.heap.size (.slice va j vc) qs rfl HR4A.out w4.heap.size so sn ss eo2 sm ek2 rfl H4A.out (by rw [HQL.out]; exact hj1000) HSZ4.out ?_; rw [HQL.out]; intro g' cap w5 hown hgr hor hgl; have HR5 := Lib.hid hown; have HG5 := Lib.hid hgr; have HO5 := Lib.hid hor; have HB5 : Hid (∀ b, b < W.heap.size → w5.heap[b]? = w4.heap[b]?) := Lib.hid fun b hb => (hgr.block b (by have := HSZ4.out; omega) (fun e => by have := HLT.out b e.symm; omega)).trans (HA4.out.block b (by have := HE4.out.2; omega)); have HX5 : Hid (w5.heap[o3]? = some (.cells #[.int .i64 xo, .string xs, .slice va j vc, .slice none 0 0] 42 (0, 0))) := Lib.hid ((HB5.out _ (by have := HWZ.out; have := HBSZ.out; omega)).trans HE4.out.1.eo); have e3 : w5.cell? ⟨o3, 2, none⟩ = some (.slice va j vc) := cell_blk HX5.out 2; have f3 : w5.frozen? ⟨o3, 2, none⟩ = false := free_blk HX5.out 2; clear hown hgr hor hgl) | (go_simp; go_wp2_with (go_at_call 24; (with_reducible refine (CY.out _ (by first | exact Below.refl _ _ | exact (Below.refl _ _).drew)).mono ?_); rintro e w4 ⟨⟨eo2, ek2, he, hek2, hok⟩, hb4⟩; obtain rfl : e = Ending.returned (.agg #[.int .i64 so, .int .i64 sn, .string ss, .slice eo2 sm ek2]) := (by rw [he, HSY.out.1, HSY.out.2.1, HSY.out.2.2.1, HSY.out.2.2.2]); have HB4 : Hid (Below wr.heap.size wr w4) := Lib.hid (by first | with_reducible exact hb4 | with_reducible exact undrawS hb4); have HOK : Hid (sy.args.length ≤ ek2 ∧ ExL (fun b => S b ∨ (wr.heap.size ≤ b ∧ b < w4.heap.size)) w4 sy.args eo2) := Lib.hid ⟨hek2, hok⟩; have HE4 := Lib.hid (And.intro (HE.out.next HB4.out) (show W.heap.size ≤ w4.heap.size from Nat.le_trans HR.out.2 HB4.out.size)); have s3 : w4.cell? ⟨o3, 2, none⟩ = some (.slice va j vc) := cell_blk HE4.out.1.eo 2; have HA4 := Lib.hid ((Below.refl w4.heap.size w4).alloc (Nat.le_refl _) (.cells #[.int .i64 so, .int .i64 sn, .string ss, .slice eo2 sm ek2] 34)); have H4A := Lib.hid (heap_alloc_new w4 (.cells #[.int .i64 so, .int .i64 sn, .string ss, .slice eo2 sm ek2] 34)); have HR4A := Lib.hid ((HR.out.1.row.stay (fun g hg => HB4.out.block g (HR.out.1.row.lt hg).1)).stay (fun g hg => HA4.out.block g (Nat.lt_of_lt_of_le (HR.out.1.row.lt hg).1 HB4.out.size))); have s3a : (w4.alloc (.cells #[.int .i64 so, .int .i64 sn, .string ss, .slice eo2 sm ek2] 34)).cell? ⟨o3, 2, none⟩ = some (.slice va j vc) := cell_blk ((HA4.out.block o3 (lt_of_heap HE4.out.1.eo)).trans HE4.out.1.eo) 2; have HSZ4 : Hid (W.heap.size ≤ (w4.alloc (.cells #[.int .i64 so, .int .i64 sn, .string ss, .slice eo2 sm ek2] 34)).heap.size) := Lib.hid (by have := HE4.out.2; simp; omega); clear he hek2 hok hb4)))
      all_goals
        go_wp2_with fail
        go_roundw
        case rel =>
          have hst : ∀ b, b ≠ o3 → (w5.setCell ⟨o3, 2, none⟩ (.slice (some ⟨g', 0, none⟩) (j + 1) cap)).heap[b]? = w5.heap[b]? := fun b hb => Below.heap_setCell _ _ _ _ hb
          have hs5 : (w5.setCell ⟨o3, 2, none⟩ (.slice (some ⟨g', 0, none⟩) (j + 1) cap)).heap.size = w5.heap.size := by simp
          have hwz := HWZ.out
          have hzy := HZY.out
          have hsw : W.heap.size ≤ w5.heap.size := Nat.le_trans HSZ4.out HG5.out.size
          refine ⟨j + 1, some ⟨g', 0, none⟩, cap, qs ++ [(.int .i64 so, .int .i64 sn, .string ss, .slice eo2 sm ek2)], by omega, by go_num, Lib.hid ⟨?_, by rw [hs5]; exact hsw⟩, Lib.hid ?_⟩
          · rw [HTK.out]
            have h1 : FoB S W.heap.size (.slice (some ⟨g', 0, none⟩) (j + 1) cap) (.slice none 0 0) (ls ++ [sy]) [] (qs ++ [(.int .i64 so, .int .i64 sn, .string ss, .slice eo2 sm ek2)]) w5 := by
              refine FoB.push (w := w4.alloc (.cells #[.int .i64 so, .int .i64 sn, .string ss, .slice eo2 sm ek2] 34)) (S' := fun b => S b ∨ (wr.heap.size ≤ b ∧ b < w4.heap.size)) ((HR.out.1.stay (fun b h => (HSWB.out b h).1) HR.out.2 HB4.out.size fun b hb _ => HB4.out.block b hb).stay (fun b h => (HSWB.out b h).1) HE4.out.2 HA4.out.size fun b hb _ => HA4.out.block b hb) (fun b h => (HSWB.out b h).1) HSZ4.out HR5.out HG5.out HO5.out ?_ ?_
              · exact ⟨eo2, ek2, by rw [HSY.out.1, HSY.out.2.1, HSY.out.2.2.1, HSY.out.2.2.2], HOK.out.1, HOK.out.2.stay (fun _ h => h) fun b hb => HA4.out.block b (by
                  rcases hb with hb | hb
                  · have := (HSWB.out b hb).1; have := HE4.out.2; omega
                  · exact hb.2)⟩
              · have h9 := HE4.out.2
                have h8 := HR.out.2
                rintro b (hb | hb)
                · exact ⟨by have := (HSWB.out b hb).1; simp; omega, .inl hb⟩
                · exact ⟨by simp; omega, .inr ⟨by omega, fun e => by have := HLT.out b e; omega, fun e => by cases e⟩⟩
            exact h1.stay (fun b h => (HSWB.out b h).1) hsw (by rw [hs5]; exact Nat.le_refl _) fun b hb hc => hst b (by
              rcases hc with hc | hc
              · have := (HSWB.out b hc).2; have := HZO.out; omega
              · omega)
          · have hbel : Below w.heap.size w w5 := (below_mono HE4.out.1.bel HA4.out (Nat.le_refl _)).grown HG5.out (by have := HSZ4.out; omega) (fun g hg => by have := HLT.out g hg; omega)
            exact ⟨hbel.setCell (p := ⟨o3, 2, none⟩) (by show w.heap.size ≤ o3; have := HZO.out; omega) _, (hst _ hwz.2.2.2.1).trans ((HB5.out _ hwz.2.2.1).trans HE4.out.1.ez), (hst _ hwz.2.2.2.2).trans ((HB5.out _ hwz.2.1).trans HE4.out.1.ey), heap_set_at (i := 2) _ HX5.out⟩
        case measure => simp [intOf]; omega
    · obtain rfl : j = m := by omega
      have HLS : Hid ((l.take j).map Xp.fo = l.map Xp.fo) := Lib.hid (by rw [List.take_of_length_le (by rw [HM.out]; exact Nat.le_refl _)])
      rw [HLS.out] at HR
      have HLE : Hid (ExL (fun b => S b ∨ (W.heap.size ≤ b ∧ b < wr.heap.size)) wr (l.map Xp.fo) va) := Lib.hid HR.out.1.list
      have HVC : Hid (j ≤ vc) := Lib.hid (by obtain ⟨a, c, e, h⟩ := HR.out.1.row.form; injection e with _ e2 e3; omega)
      have HBSZ : Hid (W.heap.size ≤ wr.heap.size) := Lib.hid HR.out.2
      obtain ⟨ea, hea⟩ : ∃ a, a = va := ⟨_, rfl⟩
      obtain ⟨ec, hec⟩ : ∃ a, a = vc := ⟨_, rfl⟩
      rw [← hea, ← hec] at HE
      rw [← hea] at HLE
      rw [← hec] at HVC
      obtain ⟨W2, hW2⟩ : ∃ X, X = wr := ⟨_, rfl⟩
      rw [← hW2] at HE HBW HLE HBSZ ⊢
      rw [← hW2] at c2
      have HSW2 : Hid (∀ b, S b → b < W2.heap.size) := Lib.hid fun b h => Nat.lt_of_lt_of_le (HSWB.out b h).1 HBSZ.out
      have HE2 := HE
      have j1 : ¬ (j : Int) < (j : Int) := by omega
      clear HR hea hec hW2 HE HBW
      go_upto_region 7 with fail
      clear c2
      go_loopw [5] (fun v wr => ∃ (i : Nat) (va : Option Addr) (vc : Nat) (qs : List Q4), i ≤ m2 ∧ v = .int .i64 i ∧ Hid (qs.length = i ∧ Row4 wr W2.heap.size 42 (.slice va i vc) qs ∧ Fits (QT (RJ S W2.heap.size (.slice va i vc) wr) wr) ((l2.take i).map Tr.fo) qs) ∧ Hid (W2.heap.size ≤ wr.heap.size) ∧ Hid (DdB z byy o3 #[.int .i64 xo, .string xs, .slice eo' j ek', .slice tb' m2 tk'] xo xs (.slice ea j ec) (.slice va i vc) w wr) ∧ Hid (∀ b, b < W2.heap.size → b ≠ o3 → wr.heap[b]? = W2.heap[b]?)) (fun v _ => m2 - (intOf v).toNat)
      case atStart => exact ⟨0, none, 0, [], by omega, rfl, Lib.hid ⟨rfl, Row4.nil _ _ _, by simpa using Fits.nil _⟩, Lib.hid (Nat.le_refl _), HE2, Lib.hid fun _ _ _ => rfl⟩
      case round =>
        obtain ⟨i, va, vc, qs, hi, rfl, HR, HBS, HE, HSM⟩ := hrel
        have HBW := Lib.hid HE.out.bel
        have c3 : wr.cell? ⟨z, 3, none⟩ = some (.slice tb' m2 tk') := cell_blk HE.out.ez 3
        by_cases hlt2 : i < m2
        · obtain ⟨y, hy⟩ : ∃ y, l2[i]? = some y := ⟨_, List.getElem?_eq_getElem (by rw [← HM2.out]; exact hlt2)⟩
          obtain ⟨a, eo, ek, tb, tk, rfl, hsa, hek, htk, ⟨y0, y1, y2, y3⟩, hel, htl⟩ := (HX2.out wr HBW.out).get hy
          have htk1 : (l2.take (i + 1)).map Tr.fo = (l2.take i).map Tr.fo ++ [y.fo] := by rw [List.take_add_one, hy]; simp
          have CY : Hid (∀ W', Below wr.heap.size wr W' → Calls Try.prog 30 #[trV y eo ek tb tk] W' (SimPost S W' y.fo)) := Lib.hid fun W' hW' => HI.out y (List.mem_of_getElem? hy) eo ek tb tk W' (below_mono HBW.out hW' (Nat.le_refl _)) ⟨hek, htk, hel.stay (fun _ h => h) fun b hb => hW'.block b (by have := HSB.out b hb; have := HBW.out.size; omega), htl.stay (fun _ h => h) fun b hb => hW'.block b (by have := HSB.out b hb; have := HBW.out.size; omega)⟩
          obtain ⟨sy, hsy⟩ : ∃ v, v = y.fo := ⟨_, rfl⟩
          have HTK : Hid ((l2.take (i + 1)).map Tr.fo = (l2.take i).map Tr.fo ++ [sy]) := Lib.hid (by rw [htk1, hsy])
          rw [← hsy] at CY
          obtain ⟨em, hem⟩ : ∃ c, c = y.exprs.length := ⟨_, rfl⟩
          obtain ⟨tm, htm⟩ : ∃ c, c = y.terms.length := ⟨_, rfl⟩
          obtain ⟨yo, hyo⟩ : ∃ v, v = y.op := ⟨_, rfl⟩
          obtain ⟨ys, hys⟩ : ∃ v, v = y.nm := ⟨_, rfl⟩
          rw [← hem] at y2
          rw [← htm] at y3
          rw [← hyo] at y0
          rw [← hys] at y1
          rw [show trV y eo ek tb tk = .agg #[.int .i64 yo, .string ys, .slice eo em ek, .slice tb tm tk] from by rw [hem, htm, hyo, hys]] at CY
          obtain ⟨so, hso⟩ : ∃ v, v = sy.op := ⟨_, rfl⟩
          obtain ⟨ss, hss⟩ : ∃ v, v = sy.nm := ⟨_, rfl⟩
          obtain ⟨se, hse⟩ : ∃ v, v = sy.exprs.length := ⟨_, rfl⟩
          obtain ⟨st, hst⟩ : ∃ v, v = sy.terms.length := ⟨_, rfl⟩
          have HSY := Lib.hid (And.intro hso (And.intro hss (And.intro hse hst)))
          have hj1000 : i ≤ 1000 := by omega
          have HQL := Lib.hid HR.out.1
          have HLT : Hid (∀ g, (Value.slice va i vc).ownBlock = some g → g < wr.heap.size ∧ W2.heap.size ≤ g) := Lib.hid fun g hg => HR.out.2.1.lt hg
          obtain ⟨s0, s1, s2, s3⟩ := quad HE.out.eo
          have j0 : (0 : Int) ≤ (i : Int) := by omega
          have j2 : (i : Int) < (m2 : Int) := by omega
          clear hem htm hyo hys hsa hek htk hel htl hy htk1 hsy hso hss hse hst s0 s1 s2
          go_upto_region 9 with fail
          go_region_law (first | (refine step_appR rfl _ _ rfl W2.heap.size (.slice va i vc) qs rfl HR4A.out w4.heap.size so ss eo2 tb2 se ek2 st tk2 rfl H4A.out (by rw [HQL.out]; exact hj1000) HSZ4.out ?_; rw [HQL.out]; intro g' cap w5 hown hgr hor hgl; have HR5 := Lib.hid hown; have HG5 := Lib.hid hgr; have HO5 := Lib.hid hor; have HB5 : Hid (∀ b, b < W2.heap.size → w5.heap[b]? = w4.heap[b]?) := Lib.hid fun b hb => (hgr.block b (by have := HSZ4.out; omega) (fun e => by have := HLT.out b e.symm; omega)).trans (HA4.out.block b (by have := HE4.out.2; omega)); have HX5 : Hid (w5.heap[o3]? = some (.cells #[.int .i64 xo, .string xs, .slice ea j ec, .slice va i vc] 42 (0, 0))) := Lib.hid ((HB5.out _ (by have := HWZ.out; have := HBSZ.out; omega)).trans HE4.out.1.eo); have e3 : w5.cell? ⟨o3, 3, none⟩ = some (.slice va i vc) := cell_blk HX5.out 3; have f3 : w5.frozen? ⟨o3, 3, none⟩ = false := free_blk HX5.out 3; clear hown hgr hor hgl) | (go_simp; go_wp2_with (go_at_call 30; (with_reducible refine (CY.out _ (by first | exact Below.refl _ _ | exact (Below.refl _ _).drew)).mono ?_); rintro e w4 ⟨⟨eo2, ek2, tb2, tk2, he, hok⟩, hb4⟩; obtain rfl : e = Ending.returned (.agg #[.int .i64 so, .string ss, .slice eo2 se ek2, .slice tb2 st tk2]) := (by rw [he, HSY.out.1, HSY.out.2.1, HSY.out.2.2.1, HSY.out.2.2.2]); have HB4 : Hid (Below wr.heap.size wr w4) := Lib.hid (by first | with_reducible exact hb4 | with_reducible exact undrawS hb4); have HOK : Hid (TrOk (fun b => S b ∨ (wr.heap.size ≤ b ∧ b < w4.heap.size)) w4 sy eo2 ek2 tb2 tk2) := Lib.hid hok; have HE4 := Lib.hid (And.intro (HE.out.next HB4.out) (show W2.heap.size ≤ w4.heap.size from Nat.le_trans HBS.out HB4.out.size)); have s3 : w4.cell? ⟨o3, 3, none⟩ = some (.slice va i vc) := cell_blk HE4.out.1.eo 3; have HA4 := Lib.hid ((Below.refl w4.heap.size w4).alloc (Nat.le_refl _) (.cells #[.int .i64 so, .string ss, .slice eo2 se ek2, .slice tb2 st tk2] 42)); have H4A := Lib.hid (heap_alloc_new w4 (.cells #[.int .i64 so, .string ss, .slice eo2 se ek2, .slice tb2 st tk2] 42)); have HR4A := Lib.hid ((HR.out.2.1.stay (fun g hg => HB4.out.block g (HR.out.2.1.lt hg).1)).stay (fun g hg => HA4.out.block g (Nat.lt_of_lt_of_le (HR.out.2.1.lt hg).1 HB4.out.size))); have s3a : (w4.alloc (.cells #[.int .i64 so, .string ss, .slice eo2 se ek2, .slice tb2 st tk2] 42)).cell? ⟨o3, 3, none⟩ = some (.slice va i vc) := cell_blk ((HA4.out.block o3 (lt_of_heap HE4.out.1.eo)).trans HE4.out.1.eo) 3; have HSZ4 : Hid (W2.heap.size ≤ (w4.alloc (.cells #[.int .i64 so, .string ss, .slice eo2 se ek2, .slice tb2 st tk2] 42)).heap.size) := Lib.hid (by have := HE4.out.2; simp; omega); clear he hok hb4)))
          all_goals
            go_wp2_with fail
            go_roundw
            case rel =>
              have hst : ∀ b, b ≠ o3 → (w5.setCell ⟨o3, 3, none⟩ (.slice (some ⟨g', 0, none⟩) (i + 1) cap)).heap[b]? = w5.heap[b]? := fun b hb => Below.heap_setCell _ _ _ _ hb
              have hs5 : (w5.setCell ⟨o3, 3, none⟩ (.slice (some ⟨g', 0, none⟩) (i + 1) cap)).heap.size = w5.heap.size := by simp
              have hwz := HWZ.out
              have hzy := HZY.out
              have hbs := HBSZ.out
              have hsw : W2.heap.size ≤ w5.heap.size := Nat.le_trans HSZ4.out HG5.out.size
              have hg' : g' ≠ o3 := by
                rcases HO5.out with h | h
                · have := (HLT.out g' h).2; omega
                · have := HSZ4.out; omega
              refine ⟨i + 1, some ⟨g', 0, none⟩, cap, qs ++ [(.int .i64 so, .string ss, .slice eo2 se ek2, .slice tb2 st tk2)], by omega, by go_num, Lib.hid ⟨by rw [List.length_append, HQL.out]; rfl, HR5.out.stay (fun g hg => by cases hg; exact hst _ hg'), ?_⟩, Lib.hid (by rw [hs5]; exact hsw), Lib.hid ?_, Lib.hid fun b hb hne => (hst b hne).trans ((HB5.out b hb).trans ((HB4.out.block b (Nat.lt_of_lt_of_le hb HBS.out)).trans (HSM.out b hb hne)))⟩
              · rw [HTK.out]
                have := rj_step (m := i + 1) (cap := cap) (w3 := wr) HSW2.out HBS.out HB4.out (Nat.le_refl _) HR.out.2.1 HR.out.2.2 HOK.out HG5.out HO5.out
                rw [← HSY.out.1, ← HSY.out.2.1, ← HSY.out.2.2.1, ← HSY.out.2.2.2] at this
                refine this.imp fun x q hq => hq.stay (rj_more (by rw [hs5]; exact Nat.le_refl _)) fun b hb => hst b ?_
                rcases hb with h | ⟨h, _⟩
                · have := (HSWB.out b h).2; have := HZO.out; omega
                · omega
              · have hbel : Below w.heap.size w w5 := (below_mono HE4.out.1.bel HA4.out (Nat.le_refl _)).grown HG5.out (by have := HSZ4.out; omega) (fun g hg => by have := HLT.out g hg; omega)
                exact ⟨hbel.setCell (p := ⟨o3, 3, none⟩) (by show w.heap.size ≤ o3; have := HZO.out; omega) _, (hst _ hwz.2.2.2.1).trans ((HB5.out _ (by omega)).trans HE4.out.1.ez), (hst _ hwz.2.2.2.2).trans ((HB5.out _ (by omega)).trans HE4.out.1.ey), heap_set_at (i := 3) _ HX5.out⟩
            case measure => simp [intOf]; omega
        · obtain rfl : i = m2 := by omega
          have i1 : ¬ (i : Int) < (i : Int) := by omega
          have HQL := Lib.hid HR.out.1
          have HOKX : Hid (∀ X, (∀ b, (S b ∨ W.heap.size ≤ b) → X.heap[b]? = wr.heap[b]?) → TrOk (fun b => S b ∨ (W.heap.size ≤ b ∧ b < wr.heap.size)) X (.mk xo xs (l.map Xp.fo) (l2.map Tr.fo)) ea ec va vc) := Lib.hid fun X hX => by
            have hfit := HR.out.2.2
            rw [List.take_of_length_le (by rw [HM2.out]; exact Nat.le_refl _)] at hfit
            have h2 := HBSZ.out
            have h3 := HBS.out
            have hte := HR.out.2.1.toT hfit
            have hvc : i ≤ vc := by obtain ⟨a, c, e, h⟩ := HR.out.2.1.form; injection e with _ e2 e3; omega
            refine ⟨by show (l.map Xp.fo).length ≤ ec; rw [List.length_map, ← HM.out]; exact HVC.out, by show (l2.map Tr.fo).length ≤ vc; rw [List.length_map, ← HM2.out]; exact hvc, HLE.out.stay (fun b hb => hb.imp id fun h => ⟨h.1, by omega⟩) fun b hb => (hX b (by
              rcases hb with hb | hb
              · exact .inl hb
              · exact .inr hb.1)).trans (HSM.out b (by
              rcases hb with hb | hb
              · exact HSW2.out b hb
              · exact hb.2) (by
              have h5 := HWZ.out
              have h6 := HZY.out
              rcases hb with hb | hb
              · have := (HSWB.out b hb).2; have := HZO.out; omega
              · omega)), hte.stay (fun b hb => ?_) fun b hb => hX b ?_⟩
            · rcases hb with (hb | ⟨hb1, hb2, _⟩) | hb
              · exact .inl hb
              · exact .inr ⟨by omega, hb2⟩
              · have := HR.out.2.1.lt hb; exact .inr ⟨by omega, this.1⟩
            · rcases hb with (hb | ⟨hb1, hb2, _⟩) | hb
              · exact .inl hb
              · exact .inr (by omega)
              · have := HR.out.2.1.lt hb; exact .inr (by omega)
          have HTX : Hid (TrOk (fun b => S b ∨ (W.heap.size ≤ b ∧ b < wr.heap.size)) wr (.mk xo xs (l.map Xp.fo) (l2.map Tr.fo)) ea ec va vc) := Lib.hid (HOKX.out wr fun _ _ => rfl)
          clear c3
          obtain ⟨c0, c1, c2, c3⟩ := quad HE.out.eo
          have z3 : wr.cell? ⟨z, 3, none⟩ = some (.slice tb' i tk') := cell_blk HE.out.ez 3
          obtain ⟨d0, d1, d2, d3⟩ := quad HE.out.ey
          have p0 : wr.frozen? ⟨byy, 0, none⟩ = false := free_blk HE.out.ey 0
          have p1 : wr.frozen? ⟨byy, 1, none⟩ = false := free_blk HE.out.ey 1
          have p2 : wr.frozen? ⟨byy, 2, none⟩ = false := free_blk HE.out.ey 2
          have p3 : wr.frozen? ⟨byy, 3, none⟩ = false := free_blk HE.out.ey 3
          go_wp2_with fail
          have hfin := sim_fin (S := S) (R := fun b => S b ∨ (W.heap.size ≤ b ∧ b < wr.heap.size)) (y := byy) HBW.out HZY.out.2.2.1 (fun b hb => by
            have h1 := HZY.out
            have h2 := HWZ.out
            have h3 := HG.out.size
            have h4 := HWZ.out
            rcases hb with hb | hb
            · exact ⟨by have := HSB.out b hb; omega, .inl hb⟩
            · exact ⟨by omega, .inr ⟨by omega, by omega⟩⟩) HTX.out (.int .i64 xo) (.string xs) (.slice ea j ec) (.slice va i vc)
          have HS10 := Lib.hid (four_set wr byy (.int .i64 xo) (.string xs) (.slice ea j ec) (.slice va i vc) _ _ ⟨_, _, _, _, rfl⟩ HE.out.ey)
          clear d0 d1 d2 d3 p0 p1 p2 p3
          obtain ⟨W10, hW10⟩ : ∃ Y, ((((wr).setCell ⟨byy, 0, none⟩ (.int .i64 xo)).setCell ⟨byy, 1, none⟩ (.string xs)).setCell ⟨byy, 2, none⟩ (.slice ea j ec)).setCell ⟨byy, 3, none⟩ (.slice va i vc) = Y := ⟨_, rfl⟩
          rw [hW10] at hfin ⊢
          obtain ⟨_, _, _, x10⟩ := HS10.out W10 hW10
          obtain ⟨t0, t1, t2, t3⟩ := quad x10
          have e : trV (Tr.mk xo xs (l.map Xp.fo) (l2.map Tr.fo)) ea ec va vc = .agg #[.int .i64 xo, .string xs, .slice ea j ec, .slice va i vc] := by
            show Value.agg #[.int .i64 xo, .string xs, .slice ea (l.map Xp.fo).length ec, .slice va (l2.map Tr.fo).length vc] = _
            rw [List.length_map, List.length_map, ← HM.out, ← HM2.out]
          rw [e] at hfin
          exact bodyPost_ret (v := .agg #[.int .i64 xo, .string xs, .slice ea j ec, .slice va i vc]) (by simp [results, Try.results30, go_sem, t0, t1, t2, t3]) rfl (by rw [HFO.out]; exact hfin)
end Go.Proofs.Ytidldlhhmophjaa
