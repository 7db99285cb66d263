/- The law CheckFolds, walked. Conditions: those written at each theorem. -/
import Derived.Test.YtidldlhhmophjaaFdB
import Derived.Test.YtidldlhhmophjaaFtL
namespace Go.Proofs.Ytidldlhhmophjaa
open Go.RowKit Go.PlainAid Go.Sort
set_option linter.unusedVariables false
set_option linter.unusedSimpArgs false
theorem bXs_rng2 (l : List Lf) (h : ∀ f ∈ l, InR f.n) : ∀ i, i ≤ l.length → ∀ x ∈ bXs (l.take i), x.rng := by
  intro i
  induction i with
  | zero => intro _ x hx; simp [bXs] at hx
  | succ i ih =>
    intro hi x hx
    have hf : l[i]? = some l[i] := List.getElem?_eq_getElem (by omega)
    rw [bXs_take hf] at hx
    rcases List.mem_append.1 hx with hx | hx
    · exact ih (by omega) x hx
    · rw [List.mem_singleton] at hx
      subst hx
      exact (Xp.rng_eq _).2 ⟨h _ (List.getElem_mem _), fun y hy => ih (by omega) y (pick_mem hy)⟩
theorem bTs_rng (xs : List Xp) (hxs : ∀ x ∈ xs, x.rng) (l : List Kn) : ∀ i, i ≤ l.length → ∀ x ∈ bTs xs (l.take i), x.rng := by
  intro i
  induction i with
  | zero => intro _ x hx; simp [bTs] at hx
  | succ i ih =>
    intro hi x hx
    have hf : l[i]? = some l[i] := List.getElem?_eq_getElem (by omega)
    rw [bTs_take hf] at hx
    rcases List.mem_append.1 hx with hx | hx
    · exact ih (by omega) x hx
    · rw [List.mem_singleton] at hx
      subst hx
      exact (Tr.rng_eq _).2 ⟨fun y hy => hxs y (pick_mem hy), fun y hy => ih (by omega) y (pick_mem hy)⟩
theorem rgt_in {x : Tr} (h : x.rgt = true) : x.cnt ≤ 200 ∧ x.blt = true := by
  unfold Tr.rgt at h
  simp only [Bool.and_eq_true, decide_eq_true_eq] at h
  exact ⟨h.1.1, h.2⟩
theorem cntsT_map {l : List Tr} (h : ∀ y ∈ l, y.fo.cnt ≤ y.cnt) : Tr.cnt.cnts (l.map Tr.fo) ≤ Tr.cnt.cnts l := by
  induction l with
  | nil => exact Nat.le_refl _
  | cons y t ih =>
    have h1 := ih fun u hu => h u (List.mem_cons_of_mem _ hu)
    have h2 := h y (List.mem_cons_self ..)
    simp only [List.map_cons, Tr.cnt.cnts]
    omega
theorem tfo_cnt (x : Tr) : x.blt = true → x.rng → x.fo.cnt ≤ x.cnt := by
  induction x using Tr.ind with
  | h x IH =>
  intro hb hr
  have hl := blt_len hb
  have hrr := (Tr.rng_eq x).1 hr
  rw [x.fo_eq, x.cnt_eq]
  show 1 + Xp.cnt.cnts (x.exprs.map Xp.fo) + Tr.cnt.cnts (x.terms.map Tr.fo) ≤ _
  have h1 := (cnts_map (l := x.exprs) fun y hy => by
    have := (fo_kept y (hl.2.2.2 y hy) (hrr.1 y hy)).1
    exact ⟨this.cnt, this.dep⟩).1
  have h2 := cntsT_map (l := x.terms) fun y hy => IH y hy (hl.2.2.1 y hy) (hrr.2 y hy)
  omega
theorem tN_cnt {x : Xp} (h : ¬ 200 < x.tN) : x.cnt ≤ 200 := by
  unfold Xp.tN at h
  split at h <;> omega
/-- The program's Folded of a right term. -/
theorem foldedOf_any (x : Tr) (eo : Option Addr) (ek : Nat) (tb : Option Addr) (tk : Nat) (w : World) (hr : x.rgt = true) (hg : x.rng) (hf : x.fit) (hx : TrOk (fun b => b < w.heap.size) w x eo ek tb tk) :
    Calls Try.prog 29 #[trV x eo ek tb tk] w (SimPost (fun b => b < w.heap.size) w x.fo) := by
  have hc := rgt_in hr
  have CR : Hid (∀ W, Below w.heap.size w W → Calls Try.prog 33 #[trV x eo ek tb tk] W fun e w' => e = .returned (.bool true) ∧ Below W.heap.size W w') := Lib.hid fun W hW => by
    have := right_any x eo ek tb tk W (fun b hb => Nat.lt_of_lt_of_le hb hW.size) (hx.next (fun _ h => h) hW) hf (by omega)
    rw [hr] at this
    exact this
  have CF : Hid (∀ W, Below w.heap.size w W → Calls Try.prog 59 #[trV x eo ek tb tk] W (SimPost (fun b => b < w.heap.size) W x.fo)) := Lib.hid fun W hW => folded_any (B := w.heap.size) (fun _ h => h) x eo ek tb tk W hW.size hc.2 hg (hx.next (fun _ h => h) hW)
  obtain ⟨m, hm⟩ : ∃ m, m = x.exprs.length := ⟨_, rfl⟩
  obtain ⟨m2, hm2⟩ : ∃ m, m = x.terms.length := ⟨_, rfl⟩
  obtain ⟨xo, hxo⟩ : ∃ v, v = x.op := ⟨_, rfl⟩
  obtain ⟨xs, hxs⟩ : ∃ v, v = x.nm := ⟨_, rfl⟩
  rw [show trV x eo ek tb tk = .agg #[.int .i64 xo, .string xs, .slice eo m ek, .slice tb m2 tk] from by rw [hm, hm2, hxo, hxs]] at CR CF ⊢
  have GA := Lib.hid (box_zero (.int .i64 xo) (.string xs) (.slice eo m ek) (.slice tb m2 tk) w)
  obtain ⟨sy, hsy⟩ : ∃ v, v = x.fo := ⟨_, rfl⟩
  rw [← hsy] at CF ⊢
  obtain ⟨so, hso⟩ : ∃ v, v = sy.op := ⟨_, rfl⟩
  obtain ⟨ss, hss⟩ : ∃ v, v = sy.nm := ⟨_, rfl⟩
  obtain ⟨se, hse⟩ : ∃ v, v = sy.exprs.length := ⟨_, rfl⟩
  obtain ⟨st, hst⟩ : ∃ v, v = sy.terms.length := ⟨_, rfl⟩
  have HSY := Lib.hid (And.intro hso (And.intro hss (And.intro hse hst)))
  obtain ⟨z, hz⟩ : ∃ z, z = w.heap.size := ⟨_, rfl⟩
  clear hr hg hf hx hc hm hm2 hxo hxs hsy hso hss hse hst
  go_enter Try.func29, Try.ntmps29
  go_upto_region 1 with fail
  obtain ⟨W, hW⟩ : ∃ X, (w.alloc (.cells #[.int .i64 xo, .string xs, .slice eo m ek, .slice tb m2 tk] 42)).alloc (.cells #[.int .i64 0, .string ⟨#[]⟩, .slice none 0 0, .slice none 0 0] 42) = X := ⟨_, rfl⟩
  obtain ⟨b1, b2, g1⟩ := GA.out W hW
  rw [hW, ← hz]
  rw [← hz] at b1 b2
  have HG := Lib.hid g1
  have HB1 := Lib.hid b1
  have HB2 := Lib.hid b2
  have HZ := Lib.hid hz
  clear hW b1 b2 g1 GA hz
  obtain ⟨c0, c1, c2, c3⟩ := quad HB1.out
  go_upto_region 3 with (go_at_call 33; (with_reducible refine (CR.out _ HG.out).mono ?_); rintro e w3 ⟨rfl, hb⟩; have HB3 := Lib.hid (below_mono HG.out hb (Nat.le_refl _)); have HX3 := Lib.hid (And.intro ((hb.block z (lt_of_heap HB1.out)).trans HB1.out) ((hb.block (z + 1) (lt_of_heap HB2.out)).trans HB2.out)); clear hb c0 c1 c2 c3)
  obtain ⟨c0, c1, c2, c3⟩ := quad HX3.out.1
  go_wp2_with (go_at_call 59; (with_reducible refine (CF.out _ HB3.out).mono ?_); rintro e w4 ⟨⟨eo2, ek2, tb2, tk2, he, hok⟩, hb4⟩; obtain rfl : e = Ending.returned (.agg #[.int .i64 so, .string ss, .slice eo2 se ek2, .slice tb2 st tk2]) := (by rw [he, HSY.out.1, HSY.out.2.1, HSY.out.2.2.1, HSY.out.2.2.2]); have HB4 := Lib.hid hb4; have HOK := Lib.hid hok; have HX4 := Lib.hid ((hb4.block (z + 1) (lt_of_heap HX3.out.2)).trans HX3.out.2); clear he hok hb4; obtain ⟨d0, d1, d2, d3⟩ := quad HX4.out; have p0 : w4.frozen? ⟨z + 1, 0, none⟩ = false := free_blk HX4.out 0; have p1 : w4.frozen? ⟨z + 1, 1, none⟩ = false := free_blk HX4.out 1; have p2 : w4.frozen? ⟨z + 1, 2, none⟩ = false := free_blk HX4.out 2; have p3 : w4.frozen? ⟨z + 1, 3, none⟩ = false := free_blk HX4.out 3)
  have hfin := sim_fin (S := fun b => b < w.heap.size) (R := fun b => b < w.heap.size ∨ (w3.heap.size ≤ b ∧ b < w4.heap.size)) (y := z + 1) (below_mono HB3.out HB4.out (Nat.le_refl _)) (by have := HZ.out; omega) (fun b hb => by
    have h1 := HZ.out
    have h2 := lt_of_heap HX3.out.2
    have h3 := HB3.out.size
    rcases hb with hb | hb
    · exact ⟨by omega, .inl hb⟩
    · exact ⟨by omega, .inr ⟨by omega, hb.2⟩⟩) HOK.out (.int .i64 so) (.string ss) (.slice eo2 se ek2) (.slice tb2 st tk2)
  have HS10 := Lib.hid (four_set w4 (z + 1) (.int .i64 so) (.string ss) (.slice eo2 se ek2) (.slice tb2 st tk2) _ _ ⟨_, _, _, _, rfl⟩ HX4.out)
  clear d0 d1 d2 d3 p0 p1 p2 p3
  obtain ⟨W10, hW10⟩ : ∃ Y, (((w4.setCell ⟨z + 1, 0, none⟩ (.int .i64 so)).setCell ⟨z + 1, 1, none⟩ (.string ss)).setCell ⟨z + 1, 2, none⟩ (.slice eo2 se ek2)).setCell ⟨z + 1, 3, none⟩ (.slice tb2 st tk2) = Y := ⟨_, rfl⟩
  rw [hW10] at hfin ⊢
  obtain ⟨_, _, _, x10⟩ := HS10.out W10 hW10
  obtain ⟨t0, t1, t2, t3⟩ := quad x10
  have e : trV sy eo2 ek2 tb2 tk2 = .agg #[.int .i64 so, .string ss, .slice eo2 se ek2, .slice tb2 st tk2] := by rw [HSY.out.1, HSY.out.2.1, HSY.out.2.2.1, HSY.out.2.2.2]
  rw [e] at hfin
  exact bodyPost_ret (v := .agg #[.int .i64 so, .string ss, .slice eo2 se ek2, .slice tb2 st tk2]) (by simp [results, Try.results29, go_sem, t0, t1, t2, t3]) rfl hfin
set_option maxRecDepth 100000 in
set_option maxHeartbeats 32000000 in
theorem checkFolds_walk {ls : List Lf} {ks : List Kn} {ao co : Option Addr} {cap kap : Nat} (w : World) (hl : LfAt w.heap.size ao ls w) (hk : KnAt w.heap.size co ks w) (hfl : ∀ f ∈ ls, f.nm.size ≤ maxLen) (hfk : ∀ f ∈ ks, f.nm.size ≤ maxLen) (hfr : ∀ f ∈ ls, InR f.n) :
    Calls Try.prog 5 #[.slice ao ls.length cap, .slice co ks.length kap] w fun e w' => e = .returned (.bool true) ∧ Below w.heap.size w w' := by
  have CA : Hid (∀ W, Calls Try.prog 14 #[] W fun e w' => e = .returned (.bool true) ∧ Below W.heap.size W w') := Lib.hid awake21_any
  by_cases hg : 60 < ls.length ∨ 60 < ks.length
  · have CG := Lib.hid (great21_yes ls.length ks.length ao co cap kap hg)
    obtain ⟨n, hn⟩ : ∃ n, n = ls.length := ⟨_, rfl⟩
    obtain ⟨m, hm⟩ : ∃ n, n = ks.length := ⟨_, rfl⟩
    rw [← hn, ← hm] at CG ⊢
    clear hg hn hm hl hk hfl hfk hfr
    go_enter Try.func5, Try.ntmps5
    go_wp2_with (first | (go_at_call 13; (with_reducible refine (CG.out _).mono ?_); rintro e w1 ⟨rfl, rfl⟩) | (go_at_call 14; (with_reducible refine (CA.out _).mono ?_); rintro e W1 ⟨rfl, hB⟩; have HB := Lib.hid hB; clear hB))
    go_ret
    exact ⟨rfl, HB.out⟩
  · have CG := Lib.hid (great21_no ls.length ks.length ao co cap kap (by omega) (by omega))
    have CB := Lib.hid (rbuild_any (cap := cap) (kap := kap) w hl hk (by omega) (by omega))
    have hxl := bXs_len ls ls.length (Nat.le_refl _)
    have hxf := bXs_fit ls hfl ls.length (Nat.le_refl _)
    have hxt := bXs_thin ls ls.length (Nat.le_refl _)
    rw [List.take_length] at hxl hxf hxt
    have htl := bTs_len (bXs ls) ks ks.length (Nat.le_refl _)
    have htf := bTs_fit (bXs ls) hxf ks hfk ks.length (Nat.le_refl _)
    have hxr := bXs_rng2 ls hfr ls.length (Nat.le_refl _)
    rw [List.take_length] at hxr
    have htt := bTs_rng (bXs ls) hxr ks ks.length (Nat.le_refl _)
    rw [List.take_length] at htl htf htt
    obtain ⟨xs, hxs⟩ : ∃ xs, xs = bXs ls := ⟨_, rfl⟩
    rw [← hxs] at CB hxl hxf hxt htl htf htt hxr
    obtain ⟨ts, hts⟩ : ∃ ts, ts = bTs xs ks := ⟨_, rfl⟩
    rw [← hts] at CB htl htf htt
    obtain ⟨n, hn⟩ : ∃ n, n = ls.length := ⟨_, rfl⟩
    obtain ⟨m, hm⟩ : ∃ n, n = ks.length := ⟨_, rfl⟩
    rw [← hn, ← hm] at CG CB hg ⊢
    rw [← hn] at hxl
    rw [← hm] at htl
    rw [← hn] at hxt
    obtain ⟨L, hL⟩ : ∃ L, L = xs.length := ⟨_, rfl⟩
    obtain ⟨L2, hL2⟩ : ∃ L, L = ts.length := ⟨_, rfl⟩
    have HLX := Lib.hid hL.symm
    have HLT := Lib.hid hL2.symm
    have hL60 : L ≤ 60 := by omega
    have HXF := Lib.hid hxf
    have HXR := Lib.hid hxr
    have HXT : Hid (∀ x ∈ xs, x.thin ∧ x.dep ≤ 900) := Lib.hid fun x hx => ⟨(hxt x hx).1, by have := (hxt x hx).2; omega⟩
    have HTF := Lib.hid htf
    have HTR := Lib.hid htt
    have H60 : Hid (ts.length ≤ 60 ∧ xs.length ≤ 60) := Lib.hid (by omega)
    clear hg hl hk hfl hfk hfr hxl hxf hxt hxr htl htf htt hxs hts hn hm hL hL2
    go_enter Try.func5, Try.ntmps5
    go_upto_region 4 with (first | (go_at_call 13; (with_reducible refine (CG.out _).mono ?_); rintro e w1 ⟨rfl, rfl⟩) | (go_at_call 15; (with_reducible refine CB.out.mono ?_); rintro e w1 ⟨R, a0, a1, a2, a3, a4, a5, c0, c1, c2, c3, c4, c5, he, hbt, hR, hcs, hb⟩; obtain rfl : e = Ending.returned (.agg #[.slice a0 L c0, .slice a1 L c1, .slice a2 L c2, .slice a3 L2 c3, .slice a4 L2 c4, .slice a5 L2 c5]) := (by rw [he]; unfold treeV; rw [HLX.out, HLT.out]); have HMD := Lib.hid (lawT_made (c0 := c0) (c1 := c1) (c2 := c2) (c3 := c3) (c4 := c4) (c5 := c5) hbt hR hb HLX.out HLT.out); clear he hbt hR hb hcs; obtain ⟨⟨r0, r1, r2, r3, r4, r5⟩, p0, p1, p2, p3, p4, p5⟩ := six_zero w1 _ rfl))
    clear r0 r1 r2 r3 r4 r5 p0 p1 p2 p3 p4 p5 CB CG
    obtain ⟨W0, hW⟩ : ∃ X, w1.alloc (.cells #[.slice a0 L c0, .slice a1 L c1, .slice a2 L c2, .slice a3 L2 c3, .slice a4 L2 c4, .slice a5 L2 c5] 29) = X := ⟨_, rfl⟩
    have HT := Lib.hid (HMD.out W0 hW)
    obtain ⟨tb, htb⟩ : ∃ z, z = w1.heap.size := ⟨_, rfl⟩
    rw [hW, ← htb]
    rw [← htb] at HT
    clear HMD hW htb
    go_upto_region 5 with fail
    go_loopw [6] (fun v wr => ∃ i : Nat, i ≤ L ∧ v = .int .i64 i ∧ Hid (Below W0.heap.size W0 wr)) (fun v _ => L - (intOf v).toNat)
    case atStart => exact ⟨0, by omega, rfl, Lib.hid (Below.refl _ _)⟩
    case round =>
      obtain ⟨i, hi, rfl, HW⟩ := hrel
      have HTW := Lib.hid (HT.out.next HW.out)
      obtain ⟨t0, t1, t2, t3, t4, t5⟩ := HTW.out.cells
      have i2 : (0 : Int) ≤ (i : Int) := by omega
      by_cases hlt : i < L
      · obtain ⟨y, hy⟩ : ∃ y, xs[i]? = some y := ⟨_, List.getElem?_eq_getElem (by rw [HLX.out]; exact hlt)⟩
        have hmem := List.mem_of_getElem? hy
        have hfx := HXF.out y hmem
        have htx := HXT.out y hmem
        have hrx := HXR.out y hmem
        obtain ⟨a, co, ck, rfl, hra, hck, ⟨y0, y1, y2, y3⟩, hyl⟩ := HTW.out.bt.exprs.get hy
        obtain ⟨an, rfl, hrn, nc⟩ := HTW.out.bt.nodes.get (i := i) (x := y.tN) (by rw [List.getElem?_map, hy]; rfl)
        obtain ⟨tn, htn⟩ : ∃ n, n = y.tN := ⟨_, rfl⟩
        rw [← htn] at nc
        have HTN := Lib.hid htn
        have i1 : (i : Int) < (L : Int) := by omega
        have HYE : Hid (∀ V, Below wr.heap.size wr V → ExL (fun b => b < V.heap.size) V y.args co) := Lib.hid fun V hV => hyl.stay (fun b hb => Nat.lt_of_lt_of_le (HTW.out.below b hb) hV.size) fun b hb => hV.block b (HTW.out.below b hb)
        have CR : Hid (∀ V, Below wr.heap.size wr V → Calls Try.prog 17 #[.agg #[.slice (some a) L c0, .slice (some an) L c1, .slice a2 L c2, .slice a3 L2 c3, .slice a4 L2 c4, .slice a5 L2 c5], .int .i64 i] V fun e w' => e = .returned (.bool y.rgt) ∧ Below V.heap.size V w') := Lib.hid fun V hV => by
          have h := HTW.out.next hV
          have := rtrightX_any (c0 := c0) (c1 := c1) (c2 := c2) (c3 := c3) (c4 := c4) (c5 := c5) V h.below h.bt H60.out.2 hy hfx
          unfold treeV at this
          rw [HLX.out, HLT.out] at this
          exact this
        have CF : Hid (∀ V, Below wr.heap.size wr V → Calls Try.prog 26 #[exV y co ck] V (FoPost (fun b => b < V.heap.size) V y.fol)) := Lib.hid fun V hV => foldOf_any (S := fun b => b < V.heap.size) value_any y co ck V (fun _ h => h) hck (HYE.out V hV) hfx htx.1 htx.2 (fun h => (fo_kept y (xrgt_blt h) hrx).2)
        have CQ : Hid (y.rgt = true → ∀ V, Below wr.heap.size wr V → Calls Try.prog 24 #[exV y co ck] V (FoPost (fun b => b < wr.heap.size) V y.fo)) := Lib.hid fun h V hV => rfold_any (S := fun b => b < wr.heap.size) (B := wr.heap.size) (fun _ h => h) y co ck V hV.size (xrgt_blt h) hrx hck (hyl.stay (fun b hb => HTW.out.below b hb) fun b hb => hV.block b (HTW.out.below b hb))
        have CSC : Hid (y.cnt ≤ 200 → y.fol.cnt < 1000) := Lib.hid fun h => by
          unfold Xp.fol
          by_cases hr : y.rgt = true
          · rw [if_pos hr]
            have := (fo_kept y (xrgt_blt hr) hrx).1.cnt
            omega
          · rw [if_neg hr]; omega
        have HFOL : Hid (y.fol = if y.rgt = true then y.fo else y) := Lib.hid rfl
        have CNT : Hid (¬ 200 < tn → y.cnt ≤ 200) := Lib.hid fun h => tN_cnt (by rw [← htn]; exact h)
        obtain ⟨sy, hsy⟩ : ∃ v, v = y.fol := ⟨_, rfl⟩
        rw [← hsy] at CF CSC HFOL
        obtain ⟨cm, hcm⟩ : ∃ c, c = y.args.length := ⟨_, rfl⟩
        obtain ⟨yo, hyo⟩ : ∃ v, v = y.op := ⟨_, rfl⟩
        obtain ⟨yn, hyn⟩ : ∃ v, v = y.n := ⟨_, rfl⟩
        obtain ⟨ys, hys⟩ : ∃ v, v = y.nm := ⟨_, rfl⟩
        rw [← hcm] at y3
        rw [← hyo] at y0
        rw [← hyn] at y1
        rw [← hys] at y2
        rw [show exV y co ck = .agg #[.int .i64 yo, .int .i64 yn, .string ys, .slice co cm ck] from by rw [hcm, hyo, hyn, hys]] at CF CQ
        obtain ⟨so, hso⟩ : ∃ v, v = sy.op := ⟨_, rfl⟩
        obtain ⟨sn, hsn⟩ : ∃ v, v = sy.n := ⟨_, rfl⟩
        obtain ⟨ss, hss⟩ : ∃ v, v = sy.nm := ⟨_, rfl⟩
        obtain ⟨sm, hsm⟩ : ∃ v, v = sy.args.length := ⟨_, rfl⟩
        have HSY := Lib.hid (And.intro hso (And.intro hsn (And.intro hss hsm)))
        have HYV : Hid (yo = y.op ∧ yn = y.n ∧ ys = y.nm ∧ cm = y.args.length ∧ y.args.length ≤ ck) := Lib.hid ⟨hyo, hyn, hys, hcm, hck⟩
        have CS : Hid (∀ bo bo' k k' V, sy.args.length ≤ k → sy.args.length ≤ k' → ExL (fun b => b < V.heap.size) V sy.args bo → ExL (fun b => b < V.heap.size) V sy.args bo' → sy.cnt < 1000 → Calls Try.prog 25 #[.agg #[.int .i64 so, .int .i64 sn, .string ss, .slice bo sm k], .agg #[.int .i64 so, .int .i64 sn, .string ss, .slice bo' sm k']] V fun e w' => e = .returned (.bool true) ∧ Below V.heap.size V w') := Lib.hid fun bo bo' k k' V h1 h2 h3 h4 h5 => by
          have := rsameX_any (S := fun b => b < V.heap.size) (B := V.heap.size) (fun _ h => h) sy bo bo' k k' V (Nat.le_refl _) h5 h1 h2 h3 h4
          rw [show exV sy bo k = .agg #[.int .i64 so, .int .i64 sn, .string ss, .slice bo sm k] from by rw [hso, hsn, hss, hsm], show exV sy bo' k' = .agg #[.int .i64 so, .int .i64 sn, .string ss, .slice bo' sm k'] from by rw [hso, hsn, hss, hsm]] at this
          exact this
        obtain ⟨rg, hrg⟩ : ∃ v, v = y.rgt := ⟨_, rfl⟩
        rw [← hrg] at CR CQ HFOL
        have HLTB : Hid (a.block < wr.heap.size ∧ tb < wr.heap.size ∧ an.block < wr.heap.size) := Lib.hid ⟨HTW.out.below _ hra, lt_of_heap HTW.out.box, HTW.out.below _ hrn⟩
        have HCW : Hid (∀ V, Below wr.heap.size wr V → (V.cell? ⟨tb, 0, none⟩ = some (.slice (some a) L c0) ∧ V.cell? (a.add (i * 4)) = some (.int .i64 yo) ∧ V.cell? ⟨(a.add (i * 4)).block, (a.add (i * 4)).off + 1, none⟩ = some (.int .i64 yn) ∧ V.cell? ⟨(a.add (i * 4)).block, (a.add (i * 4)).off + 2, none⟩ = some (.string ys) ∧ V.cell? ⟨(a.add (i * 4)).block, (a.add (i * 4)).off + 3, none⟩ = some (.slice co cm ck))) := Lib.hid fun V hV => by
          have ha : (a.add (i * 4)).block < wr.heap.size := by rw [add_block]; exact HTW.out.below _ hra
          exact ⟨(HTW.out.next hV).cells.1, (hV.cell (p := a.add (i * 4)) ha).trans y0, (hV.cell (p := ⟨(a.add (i * 4)).block, (a.add (i * 4)).off + 1, none⟩) ha).trans y1, (hV.cell (p := ⟨(a.add (i * 4)).block, (a.add (i * 4)).off + 2, none⟩) ha).trans y2, (hV.cell (p := ⟨(a.add (i * 4)).block, (a.add (i * 4)).off + 3, none⟩) ha).trans y3⟩
        have HNC : Hid (∀ V, Below wr.heap.size wr V → V.cell? (an.add i) = some (.int .i64 (tn : Nat))) := Lib.hid fun V hV => (hV.cell (p := an.add i) (by rw [add_block]; exact HTW.out.below _ hrn)).trans nc
        obtain ⟨⟨r0, r1, r2, r3⟩, p0, p1, p2, p3⟩ := new_zero wr (.int .i64 0) (.int .i64 0) (.string ⟨#[]⟩) (.slice none 0 0) 34
        obtain ⟨u, hu⟩ : ∃ u, u = wr.heap.size := ⟨_, rfl⟩
        have HUW := Lib.hid hu
        clear hy hmem hfx htx hrx hra hck hyl hrn nc htn hsy hcm hyo hyn hys hso hsn hss hsm hrg
        go_upto_region 8 with fail
        clear r0 r1 r2 r3 p0 p1 p2 p3 y0 y1 y2 y3 t0 t1 t2 t3 t4 t5
        obtain ⟨W3, hW3⟩ : ∃ X, wr.alloc (.cells #[.int .i64 yo, .int .i64 yn, .string ys, .slice co cm ck] 34) = X := ⟨_, rfl⟩
        have HB3 := Lib.hid (made_box wr _ W3 hW3).1.2
        have hb3 : W3.heap[wr.heap.size]? = some (.cells #[.int .i64 yo, .int .i64 yn, .string ys, .slice co cm ck] 34 (0, 0)) := by rw [← hW3]; exact heap_alloc_new _ _
        rw [hW3, ← hu]
        rw [← hu] at hb3
        have HU3 := Lib.hid hb3
        clear hb3 hW3 hu
        have HT3 := Lib.hid (HTW.out.next HB3.out)
        obtain ⟨t0, t1, t2, t3, t4, t5⟩ := HT3.out.cells
        have n0 := HNC.out W3 HB3.out
        by_cases h200 : 200 < tn
        · have h2 : (200 : Int) < (tn : Int) := by omega
          clear h200
          go_wp2_with fail
          go_roundw
          case rel => exact ⟨i + 1, by omega, by go_num, Lib.hid (below_mono HW.out HB3.out (Nat.le_refl _))⟩
          case measure => simp [intOf]; omega
        · have h2 : ¬ (200 : Int) < (tn : Int) := by omega
          have HCNT := Lib.hid (CSC.out (CNT.out h200))
          clear h200
          have CS2 : Hid (∀ bo bo' k k' V, sy.args.length ≤ k → sy.args.length ≤ k' → ExL (fun b => b < V.heap.size) V sy.args bo → ExL (fun b => b < V.heap.size) V sy.args bo' → Calls Try.prog 25 #[.agg #[.int .i64 so, .int .i64 sn, .string ss, .slice bo sm k], .agg #[.int .i64 so, .int .i64 sn, .string ss, .slice bo' sm k']] V fun e w' => e = .returned (.bool true) ∧ Below V.heap.size V w') := Lib.hid fun bo bo' k k' V h1 h2 h3 h4 => CS.out bo bo' k k' V h1 h2 h3 h4 HCNT.out
          have CS := CS2
          clear CS2
          cases rg with
          | false =>
            go_upto_region 11 with (go_at_call 17; (with_reducible refine (CR.out _ HB3.out).mono ?_); rintro e w5 ⟨rfl, hb⟩; have HB5 := Lib.hid hb; clear hb t0 t1 t2 t3 t4 t5 n0)
            have HYS : Hid (yo = so ∧ yn = sn ∧ ys = ss ∧ cm = sm ∧ sy = y) := Lib.hid (by
              have h := HFOL.out
              rw [if_neg (by simp)] at h
              have h1 := HYV.out
              have h2 := HSY.out
              rw [h] at h2
              exact ⟨h1.1.trans h2.1.symm, h1.2.1.trans h2.2.1.symm, h1.2.2.1.trans h2.2.2.1.symm, h1.2.2.2.1.trans h2.2.2.2.symm, h⟩)
            have HU : Hid (w5.heap[u]? = some (.cells #[.int .i64 so, .int .i64 sn, .string ss, .slice co sm ck] 34 (0, 0))) := Lib.hid (by rw [← HYS.out.1, ← HYS.out.2.1, ← HYS.out.2.2.1, ← HYS.out.2.2.2.1]; exact (HB5.out.block u (lt_of_heap HU3.out)).trans HU3.out)
            have HBL : Hid (∀ V, Below w5.heap.size w5 V → Below wr.heap.size wr V) := Lib.hid fun V hV => below_mono (below_mono HB3.out HB5.out (Nat.le_refl _)) hV (Nat.le_refl _)
            have HCB : Hid (∀ V, Below w5.heap.size w5 V → (V.cell? ⟨tb, 0, none⟩ = some (.slice (some a) L c0) ∧ V.cell? (a.add (i * 4)) = some (.int .i64 yo) ∧ V.cell? ⟨(a.add (i * 4)).block, (a.add (i * 4)).off + 1, none⟩ = some (.int .i64 yn) ∧ V.cell? ⟨(a.add (i * 4)).block, (a.add (i * 4)).off + 2, none⟩ = some (.string ys) ∧ V.cell? ⟨(a.add (i * 4)).block, (a.add (i * 4)).off + 3, none⟩ = some (.slice co cm ck))) := Lib.hid fun V hV => HCW.out V (HBL.out V hV)
            have HWK : Hid (sy.args.length ≤ ck) := Lib.hid (by rw [HYS.out.2.2.2.2]; exact HYV.out.2.2.2.2)
            have HWX : Hid (∀ V, Below w5.heap.size w5 V → ExL (fun b => b < V.heap.size) V sy.args co) := Lib.hid fun V hV => by rw [HYS.out.2.2.2.2]; exact HYE.out V (HBL.out V hV)
            have HBE : Hid (Below w5.heap.size w5 w5.drew) := Lib.hid (Below.refl w5.heap.size w5).drew
            have TW : Hid (∀ V, Below w5.heap.size w5 V → (V.cell? ⟨tb, 0, none⟩ = some (.slice (some a) L c0) ∧ V.cell? (a.add (i * 4)) = some (.int .i64 yo) ∧ V.cell? ⟨(a.add (i * 4)).block, (a.add (i * 4)).off + 1, none⟩ = some (.int .i64 yn) ∧ V.cell? ⟨(a.add (i * 4)).block, (a.add (i * 4)).off + 2, none⟩ = some (.string ys) ∧ V.cell? ⟨(a.add (i * 4)).block, (a.add (i * 4)).off + 3, none⟩ = some (.slice co cm ck))) := Lib.hid fun V hV => HCB.out V hV
            have HS11 : Hid (∀ V, Below w5.heap.size w5 V → (V.cell? ⟨tb, 0, none⟩ = some (.slice (some a) L c0) ∧ V.cell? (a.add (i * 4)) = some (.int .i64 yo) ∧ V.cell? ⟨(a.add (i * 4)).block, (a.add (i * 4)).off + 1, none⟩ = some (.int .i64 yn) ∧ V.cell? ⟨(a.add (i * 4)).block, (a.add (i * 4)).off + 2, none⟩ = some (.string ys) ∧ V.cell? ⟨(a.add (i * 4)).block, (a.add (i * 4)).off + 3, none⟩ = some (.slice co cm ck)) ∧ V.cell? ⟨u, 0, none⟩ = some (.int .i64 so) ∧ V.cell? ⟨u, 1, none⟩ = some (.int .i64 sn) ∧ V.cell? ⟨u, 2, none⟩ = some (.string ss) ∧ V.cell? ⟨u, 3, none⟩ = some (.slice co sm ck)) := Lib.hid fun V hV => ⟨TW.out V hV, quad ((hV.block u (lt_of_heap HU.out)).trans HU.out)⟩
            obtain ⟨⟨t0, y0, y1, y2, y3⟩, _⟩ := HS11.out w5 (Below.refl _ _)
            go_upto_region 11 with fail
            go_region_held3 (fun W => (W.cell? ⟨tb, 0, none⟩ = some (.slice (some a) L c0) ∧ W.cell? (a.add (i * 4)) = some (.int .i64 yo) ∧ W.cell? ⟨(a.add (i * 4)).block, (a.add (i * 4)).off + 1, none⟩ = some (.int .i64 yn) ∧ W.cell? ⟨(a.add (i * 4)).block, (a.add (i * 4)).off + 2, none⟩ = some (.string ys) ∧ W.cell? ⟨(a.add (i * 4)).block, (a.add (i * 4)).off + 3, none⟩ = some (.slice co cm ck)) ∧ W.cell? ⟨u, 0, none⟩ = some (.int .i64 so) ∧ W.cell? ⟨u, 1, none⟩ = some (.int .i64 sn) ∧ W.cell? ⟨u, 2, none⟩ = some (.string ss) ∧ W.cell? ⟨u, 3, none⟩ = some (.slice co sm ck))
              (first | exact HS11.out _ HB9.out | exact HS11.out _ HB8.out | exact HS11.out _ HBE.out)
              (first
                | (go_at_call 26; (with_reducible refine (CF.out _ (HBL.out _ HBE.out)).mono ?_); rintro e w8 ⟨⟨bo2, k2, he, hk2, hok⟩, hb⟩; obtain rfl : e = Ending.returned (.agg #[.int .i64 so, .int .i64 sn, .string ss, .slice bo2 sm k2]) := (by rw [he, HSY.out.1, HSY.out.2.1, HSY.out.2.2.1, HSY.out.2.2.2]); have HB8 := Lib.hid (below_mono HBE.out hb (Nat.le_refl _)); have HOK8 : Hid (sy.args.length ≤ k2 ∧ ExL (fun b => b < w8.heap.size) w8 sy.args bo2) := Lib.hid ⟨hk2, hok.stay (fun b hb' => by have := hb.size; rcases hb' with h | h; exact Nat.lt_of_lt_of_le h hb.size; exact h.2) fun _ _ => rfl⟩; clear he hk2 hok hb)
                | (go_at_call 25; (with_reducible refine (CS.out _ _ _ _ _ HOK8.out.1 HWK.out HOK8.out.2 (HWX.out _ HB8.out)).mono ?_); rintro e w9 ⟨rfl, hb⟩; have HB9 := Lib.hid (below_mono HB8.out hb (Nat.le_refl _)); clear hb))
            all_goals
              go_wp2_with fail
              go_roundw
              case rel => exact ⟨i + 1, by omega, by go_num, Lib.hid (below_mono HW.out (HBL.out _ HB9.out) (Nat.le_refl _))⟩
              case measure => simp [intOf]; omega
          | true =>
            have CQ2 := Lib.hid (CQ.out rfl)
            have HSF : Hid (sy = y.fo) := Lib.hid (by rw [HFOL.out, if_pos rfl])
            rw [← HSF.out] at CQ2
            clear CQ
            go_upto_region 10 with (go_at_call 17; (with_reducible refine (CR.out _ HB3.out).mono ?_); rintro e w5 ⟨rfl, hb⟩; have HB5 := Lib.hid (below_mono HB3.out hb (Nat.le_refl _)); have HU5 := Lib.hid ((hb.block u (lt_of_heap HU3.out)).trans HU3.out); clear hb t0 t1 t2 t3 t4 t5 n0)
            obtain ⟨x0, x1, x2, x3⟩ := quad HU5.out
            go_upto_region 11 with (go_at_call 24; (with_reducible refine (CQ2.out _ HB5.out).mono ?_); rintro e w6 ⟨⟨bw, kw, he, hkw, hok⟩, hb⟩; obtain rfl : e = Ending.returned (.agg #[.int .i64 so, .int .i64 sn, .string ss, .slice bw sm kw]) := (by rw [he, HSY.out.1, HSY.out.2.1, HSY.out.2.2.1, HSY.out.2.2.2]); have HB6 := Lib.hid hb; have HOK6 := Lib.hid (And.intro hkw hok); have HU6 := Lib.hid ((hb.block u (lt_of_heap HU5.out)).trans HU5.out); clear he hkw hok hb x0 x1 x2 x3; obtain ⟨d0, d1, d2, d3⟩ := quad HU6.out; have p0 : w6.frozen? ⟨u, 0, none⟩ = false := free_blk HU6.out 0; have p1 : w6.frozen? ⟨u, 1, none⟩ = false := free_blk HU6.out 1; have p2 : w6.frozen? ⟨u, 2, none⟩ = false := free_blk HU6.out 2; have p3 : w6.frozen? ⟨u, 3, none⟩ = false := free_blk HU6.out 3)
            have HS6 := Lib.hid (four_set w6 u (.int .i64 so) (.int .i64 sn) (.string ss) (.slice bw sm kw) _ _ ⟨_, _, _, _, rfl⟩ HU6.out)
            clear d0 d1 d2 d3 p0 p1 p2 p3
            obtain ⟨W6, hW6⟩ : ∃ Y, (((w6.setCell ⟨u, 0, none⟩ (.int .i64 so)).setCell ⟨u, 1, none⟩ (.int .i64 sn)).setCell ⟨u, 2, none⟩ (.string ss)).setCell ⟨u, 3, none⟩ (.slice bw sm kw) = Y := ⟨_, rfl⟩
            obtain ⟨k6, f6, s6, x6⟩ := HS6.out W6 hW6
            rw [hW6]
            have HU := Lib.hid x6
            have HK6 : Hid (Below wr.heap.size wr W6) := Lib.hid ((below_mono HB5.out HB6.out (Nat.le_refl _)).trans (k6 wr.heap.size (by have := HUW.out; omega)))
            have HBL : Hid (∀ V, Below W6.heap.size W6 V → Below wr.heap.size wr V) := Lib.hid fun V hV => below_mono HK6.out hV (Nat.le_refl _)
            have HCB : Hid (∀ V, Below W6.heap.size W6 V → (V.cell? ⟨tb, 0, none⟩ = some (.slice (some a) L c0) ∧ V.cell? (a.add (i * 4)) = some (.int .i64 yo) ∧ V.cell? ⟨(a.add (i * 4)).block, (a.add (i * 4)).off + 1, none⟩ = some (.int .i64 yn) ∧ V.cell? ⟨(a.add (i * 4)).block, (a.add (i * 4)).off + 2, none⟩ = some (.string ys) ∧ V.cell? ⟨(a.add (i * 4)).block, (a.add (i * 4)).off + 3, none⟩ = some (.slice co cm ck))) := Lib.hid fun V hV => HCW.out V (HBL.out V hV)
            have HWK : Hid (sy.args.length ≤ kw) := Lib.hid HOK6.out.1
            have HF6 := Lib.hid (And.intro f6 s6)
            have HUL : Hid (u < w5.heap.size) := Lib.hid (lt_of_heap HU5.out)
            have HWX : Hid (∀ V, Below W6.heap.size W6 V → ExL (fun b => b < V.heap.size) V sy.args bw) := Lib.hid fun V hV => by
              have h56 := HB6.out.size
              have hs := HF6.out.2
              have h5 := HB5.out.size
              have hv := hV.size
              have h1 := HOK6.out.2
              have hu := HUW.out
              have hul := HUL.out
              refine HOK6.out.2.stay (fun b hb => ?_) fun b hb => ?_
              · rcases hb with hb | hb
                · show b < _; omega
                · show b < _; omega
              · have hbu : b ≠ u := by
                  rcases hb with hb | hb
                  · omega
                  · omega
                have hb6 : b < W6.heap.size := by
                  rcases hb with hb | hb
                  · omega
                  · omega
                exact (hV.block b hb6).trans (HF6.out.1 b hbu)
            clear hW6 k6 f6 s6 x6 HS6
            have HBE : Hid (Below W6.heap.size W6 W6.drew) := Lib.hid (Below.refl W6.heap.size W6).drew
            have TW : Hid (∀ V, Below W6.heap.size W6 V → (V.cell? ⟨tb, 0, none⟩ = some (.slice (some a) L c0) ∧ V.cell? (a.add (i * 4)) = some (.int .i64 yo) ∧ V.cell? ⟨(a.add (i * 4)).block, (a.add (i * 4)).off + 1, none⟩ = some (.int .i64 yn) ∧ V.cell? ⟨(a.add (i * 4)).block, (a.add (i * 4)).off + 2, none⟩ = some (.string ys) ∧ V.cell? ⟨(a.add (i * 4)).block, (a.add (i * 4)).off + 3, none⟩ = some (.slice co cm ck))) := Lib.hid fun V hV => HCB.out V hV
            have HS11 : Hid (∀ V, Below W6.heap.size W6 V → (V.cell? ⟨tb, 0, none⟩ = some (.slice (some a) L c0) ∧ V.cell? (a.add (i * 4)) = some (.int .i64 yo) ∧ V.cell? ⟨(a.add (i * 4)).block, (a.add (i * 4)).off + 1, none⟩ = some (.int .i64 yn) ∧ V.cell? ⟨(a.add (i * 4)).block, (a.add (i * 4)).off + 2, none⟩ = some (.string ys) ∧ V.cell? ⟨(a.add (i * 4)).block, (a.add (i * 4)).off + 3, none⟩ = some (.slice co cm ck)) ∧ V.cell? ⟨u, 0, none⟩ = some (.int .i64 so) ∧ V.cell? ⟨u, 1, none⟩ = some (.int .i64 sn) ∧ V.cell? ⟨u, 2, none⟩ = some (.string ss) ∧ V.cell? ⟨u, 3, none⟩ = some (.slice bw sm kw)) := Lib.hid fun V hV => ⟨TW.out V hV, quad ((hV.block u (lt_of_heap HU.out)).trans HU.out)⟩
            obtain ⟨⟨t0, y0, y1, y2, y3⟩, _⟩ := HS11.out W6 (Below.refl _ _)
            go_upto_region 11 with fail
            go_region_held3 (fun W => (W.cell? ⟨tb, 0, none⟩ = some (.slice (some a) L c0) ∧ W.cell? (a.add (i * 4)) = some (.int .i64 yo) ∧ W.cell? ⟨(a.add (i * 4)).block, (a.add (i * 4)).off + 1, none⟩ = some (.int .i64 yn) ∧ W.cell? ⟨(a.add (i * 4)).block, (a.add (i * 4)).off + 2, none⟩ = some (.string ys) ∧ W.cell? ⟨(a.add (i * 4)).block, (a.add (i * 4)).off + 3, none⟩ = some (.slice co cm ck)) ∧ W.cell? ⟨u, 0, none⟩ = some (.int .i64 so) ∧ W.cell? ⟨u, 1, none⟩ = some (.int .i64 sn) ∧ W.cell? ⟨u, 2, none⟩ = some (.string ss) ∧ W.cell? ⟨u, 3, none⟩ = some (.slice bw sm kw))
              (first | exact HS11.out _ HB9.out | exact HS11.out _ HB8.out | exact HS11.out _ HBE.out)
              (first
                | (go_at_call 26; (with_reducible refine (CF.out _ (HBL.out _ HBE.out)).mono ?_); rintro e w8 ⟨⟨bo2, k2, he, hk2, hok⟩, hb⟩; obtain rfl : e = Ending.returned (.agg #[.int .i64 so, .int .i64 sn, .string ss, .slice bo2 sm k2]) := (by rw [he, HSY.out.1, HSY.out.2.1, HSY.out.2.2.1, HSY.out.2.2.2]); have HB8 := Lib.hid (below_mono HBE.out hb (Nat.le_refl _)); have HOK8 : Hid (sy.args.length ≤ k2 ∧ ExL (fun b => b < w8.heap.size) w8 sy.args bo2) := Lib.hid ⟨hk2, hok.stay (fun b hb' => by have := hb.size; rcases hb' with h | h; exact Nat.lt_of_lt_of_le h hb.size; exact h.2) fun _ _ => rfl⟩; clear he hk2 hok hb)
                | (go_at_call 25; (with_reducible refine (CS.out _ _ _ _ _ HOK8.out.1 HWK.out HOK8.out.2 (HWX.out _ HB8.out)).mono ?_); rintro e w9 ⟨rfl, hb⟩; have HB9 := Lib.hid (below_mono HB8.out hb (Nat.le_refl _)); clear hb))
            all_goals
              go_wp2_with fail
              go_roundw
              case rel => exact ⟨i + 1, by omega, by go_num, Lib.hid (below_mono HW.out (HBL.out _ HB9.out) (Nat.le_refl _))⟩
              case measure => simp [intOf]; omega
      · have i1 : ¬ (i : Int) < (L : Int) := by omega
        have CL : Hid (Calls Try.prog 27 #[.agg #[.slice a0 L c0, .slice a1 L c1, .slice a2 L c2, .slice a3 L2 c3, .slice a4 L2 c4, .slice a5 L2 c5]] wr (LstP R ts wr)) := Lib.hid (by
          have h := HTW.out
          have := rlast_any (c0 := c0) (c1 := c1) (c2 := c2) (c3 := c3) (c4 := c4) (c5 := c5) wr h.below h.bt H60.out.1 HTF.out
          unfold treeV at this
          rw [HLX.out, HLT.out] at this
          exact this)
        have HWW := Lib.hid HTW.out.bel
        go_upto_region 13 with fail
        go_wp2_with fail
        refine CL.out.mono ?_
        rintro e w2 ⟨hm, hb2⟩
        have HB2 := Lib.hid hb2
        clear hb2 CL t0 t1 t2 t3 t4 t5
        have HBW := Lib.hid (below_mono HWW.out HB2.out (Nat.le_refl _))
        cases hla : lastT ts with
        | none =>
          rw [hla] at hm
          subst hm
          clear hla
          obtain ⟨⟨r0, r1, r2, r3⟩, p0, p1, p2, p3⟩ := new_zero w2 (.int .i64 0) (.string ⟨#[]⟩) (.slice none 0 0) (.slice none 0 0) 42
          go_upto_region 14 with fail
          clear r0 r1 r2 r3 p0 p1 p2 p3
          obtain ⟨W0', hW0⟩ : ∃ X, w2.alloc (.cells #[.int .i64 0, .string ⟨#[]⟩, .slice none 0 0, .slice none 0 0] 42) = X := ⟨_, rfl⟩
          obtain ⟨g0, _, _⟩ := cells_made _ _ _ W0' hW0
          rw [hW0]
          have HG0 := Lib.hid (below_mono HBW.out g0 (Nat.le_refl _))
          clear g0 hW0
          (first | go_region_with (go_at_call 14; (with_reducible refine (CA.out _).mono ?_); rintro e W1 ⟨rfl, hB⟩; have HBA := Lib.hid hB; clear hB) | fail)
          all_goals
            go_wp2_with fail
            go_ret
            exact ⟨rfl, by first | exact below_mono HG0.out HBA.out (Nat.le_refl _) | exact below_mono HG0.out.drew HBA.out (Nat.le_refl _)⟩
        | some x =>
          rw [hla] at hm
          obtain ⟨eo, ek, tb2, tk, he, hok⟩ := hm
          obtain ⟨hget, hrg, _⟩ := lastT_some hla
          have hmem := List.mem_of_getElem? hget
          have hfx := HTF.out x hmem
          have hrx := HTR.out x hmem
          have hc := rgt_in hrg
          have hcf := tfo_cnt x hc.2 hrx
          clear hla hget hmem
          have HOKX : Hid (∀ V, Below w2.heap.size w2 V → TrOk (fun b => b < V.heap.size) V x eo ek tb2 tk) := Lib.hid fun V hV => hok.stay (fun b hb => by have := HTW.out.below b hb; have := HB2.out.size; have := hV.size; show b < _; omega) fun b hb => hV.block b (by have := HTW.out.below b hb; have := HB2.out.size; omega)
          have CFD : Hid (∀ V, Below w2.heap.size w2 V → Calls Try.prog 29 #[trV x eo ek tb2 tk] V (SimPost (fun b => b < V.heap.size) V x.fo)) := Lib.hid fun V hV => foldedOf_any x eo ek tb2 tk V hrg hrx hfx (HOKX.out V hV)
          have CRD : Hid (∀ V, Below w2.heap.size w2 V → Calls Try.prog 30 #[trV x eo ek tb2 tk] V (SimPost (fun b => b < V.heap.size) V x.fo)) := Lib.hid fun V hV => rfolded_any (B := V.heap.size) (fun _ h => h) x eo ek tb2 tk V (Nat.le_refl _) hc.2 hrx (HOKX.out V hV)
          have CSM : Hid (∀ V p pk q qk p' pk' q' qk', TrOk (fun b => b < V.heap.size) V x.fo p pk q qk → TrOk (fun b => b < V.heap.size) V x.fo p' pk' q' qk' → Calls Try.prog 28 #[trV x.fo p pk q qk, trV x.fo p' pk' q' qk'] V fun e w' => e = .returned (.bool true) ∧ Below V.heap.size V w') := Lib.hid fun V p pk q qk p' pk' q' qk' h1 h2 => rsameT_any (B := V.heap.size) (fun _ h => h) x.fo p pk q qk p' pk' q' qk' V (Nat.le_refl _) (by omega) h1 h2
          obtain ⟨m, hm⟩ : ∃ m, m = x.exprs.length := ⟨_, rfl⟩
          obtain ⟨m2, hm2⟩ : ∃ m, m = x.terms.length := ⟨_, rfl⟩
          obtain ⟨xo, hxo⟩ : ∃ v, v = x.op := ⟨_, rfl⟩
          obtain ⟨nm, hxs⟩ : ∃ v, v = x.nm := ⟨_, rfl⟩
          have hxe : trV x eo ek tb2 tk = .agg #[.int .i64 xo, .string nm, .slice eo m ek, .slice tb2 m2 tk] := by rw [hm, hm2, hxo, hxs]
          rw [hxe] at he CFD CRD
          subst he
          obtain ⟨sy, hsy⟩ : ∃ v, v = x.fo := ⟨_, rfl⟩
          rw [← hsy] at CFD CRD CSM
          obtain ⟨so, hso⟩ : ∃ v, v = sy.op := ⟨_, rfl⟩
          obtain ⟨ss, hss⟩ : ∃ v, v = sy.nm := ⟨_, rfl⟩
          obtain ⟨se, hse⟩ : ∃ v, v = sy.exprs.length := ⟨_, rfl⟩
          obtain ⟨st, hst⟩ : ∃ v, v = sy.terms.length := ⟨_, rfl⟩
          have HSV : Hid (∀ p pk q qk, trV sy p pk q qk = .agg #[.int .i64 so, .string ss, .slice p se pk, .slice q st qk]) := Lib.hid fun p pk q qk => by rw [hso, hss, hse, hst]
          have CSM2 : Hid (∀ V p pk q qk p' pk' q' qk', TrOk (fun b => b < V.heap.size) V sy p pk q qk → TrOk (fun b => b < V.heap.size) V sy p' pk' q' qk' → Calls Try.prog 28 #[.agg #[.int .i64 so, .string ss, .slice p se pk, .slice q st qk], .agg #[.int .i64 so, .string ss, .slice p' se pk', .slice q' st qk']] V fun e w' => e = .returned (.bool true) ∧ Below V.heap.size V w') := Lib.hid fun V p pk q qk p' pk' q' qk' h1 h2 => by
            have := CSM.out V p pk q qk p' pk' q' qk' h1 h2
            rw [HSV.out, HSV.out] at this
            exact this
          clear hok hrg hfx hrx hc hcf hm hm2 hxo hxs hxe hsy hso hss hse hst CSM
          obtain ⟨⟨r0, r1, r2, r3⟩, p0, p1, p2, p3⟩ := new_zero w2 (.int .i64 0) (.string ⟨#[]⟩) (.slice none 0 0) (.slice none 0 0) 42
          go_upto_region 14 with fail
          clear r0 r1 r2 r3 p0 p1 p2 p3
          obtain ⟨W5, hW5⟩ : ∃ X, w2.alloc (.cells #[.int .i64 xo, .string nm, .slice eo m ek, .slice tb2 m2 tk] 42) = X := ⟨_, rfl⟩
          obtain ⟨g5, b5, s5⟩ := cells_made _ _ _ W5 hW5
          obtain ⟨z5, hz5⟩ : ∃ y, y = w2.heap.size := ⟨_, rfl⟩
          rw [hW5, ← hz5]
          rw [← hz5] at b5
          have HG5 : Hid (Below w2.heap.size w2 W5) := Lib.hid g5
          have HX5 : Hid (∀ V, Below W5.heap.size W5 V → V.cell? ⟨z5, 0, none⟩ = some (.int .i64 xo) ∧ V.cell? ⟨z5, 1, none⟩ = some (.string nm) ∧ V.cell? ⟨z5, 2, none⟩ = some (.slice eo m ek) ∧ V.cell? ⟨z5, 3, none⟩ = some (.slice tb2 m2 tk)) := Lib.hid fun V hV => quad ((hV.block z5 (lt_of_heap b5)).trans b5)
          have HBD : Hid (Below W5.heap.size W5 W5.drew) := Lib.hid (Below.refl _ _).drew
          obtain ⟨y0, y1, y2, y3⟩ := quad b5
          clear g5 b5 s5 hW5 hz5
          go_region_held3 (fun W => W.cell? ⟨z5, 0, none⟩ = some (.int .i64 xo) ∧ W.cell? ⟨z5, 1, none⟩ = some (.string nm) ∧ W.cell? ⟨z5, 2, none⟩ = some (.slice eo m ek) ∧ W.cell? ⟨z5, 3, none⟩ = some (.slice tb2 m2 tk))
            (first | exact HX5.out _ HB13.out | exact HX5.out _ HB12.out | exact HX5.out _ HB11.out | exact HX5.out _ HB10.out | exact HX5.out _ HBD.out)
            (first
              | (go_at_call 29; (with_reducible refine (CFD.out _ (below_mono HG5.out HBD.out (Nat.le_refl _))).mono ?_); rintro e w10 ⟨⟨p1, pk1, q1, qk1, he, hok⟩, hb⟩; rw [HSV.out] at he; subst he; have HB10 := Lib.hid (below_mono HBD.out hb (Nat.le_refl _)); have HO1 : Hid (TrOk (fun b => b < w10.heap.size) w10 sy p1 pk1 q1 qk1) := Lib.hid (hok.stay (fun b hb' => by rcases hb' with h | h; exact Nat.lt_of_lt_of_le h hb.size; exact h.2) fun _ _ => rfl); clear hok hb)
              | (go_at_call 30; (with_reducible refine (CRD.out _ (below_mono HG5.out HB10.out (Nat.le_refl _))).mono ?_); rintro e w11 ⟨⟨p2, pk2, q2, qk2, he, hok⟩, hb⟩; rw [HSV.out] at he; subst he; have HB11 := Lib.hid (below_mono HB10.out hb (Nat.le_refl _)); have HO2 : Hid (TrOk (fun b => b < w11.heap.size) w11 sy p2 pk2 q2 qk2) := Lib.hid (hok.stay (fun b hb' => by rcases hb' with h | h; exact Nat.lt_of_lt_of_le h hb.size; exact h.2) fun _ _ => rfl); have HO3 : Hid (TrOk (fun b => b < w11.heap.size) w11 sy p1 pk1 q1 qk1) := Lib.hid (HO1.out.stay (fun b h => Nat.lt_of_lt_of_le h hb.size) fun b h => hb.block b h); clear hok hb)
              | (go_at_call 28; (with_reducible refine (CSM2.out _ _ _ _ _ _ _ _ _ HO3.out HO2.out).mono ?_); rintro e w12 ⟨rfl, hb⟩; have HB12 := Lib.hid (below_mono HB11.out hb (Nat.le_refl _)); clear hb)
              | (go_at_call 14; (with_reducible refine (CA.out _).mono ?_); rintro e w13 ⟨rfl, hb⟩; have HB13 := Lib.hid (below_mono HB12.out hb (Nat.le_refl _)); clear hb))
          all_goals
            go_wp2_with fail
            go_ret
            exact ⟨rfl, below_mono (below_mono HBW.out HG5.out (Nat.le_refl _)) HB13.out (Nat.le_refl _)⟩
end Go.Proofs.Ytidldlhhmophjaa
