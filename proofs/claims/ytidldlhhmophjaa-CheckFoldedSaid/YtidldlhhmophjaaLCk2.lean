/- The law CheckFolded, walked. Conditions: those written at each theorem. -/
import Derived.Test.YtidldlhhmophjaaCkB
import Derived.Test.YtidldlhhmophjaaCkX
import Derived.Test.YtidldlhhmophjaaTrQ
namespace Go.Proofs.Ytidldlhhmophjaa
open Go.RowKit Go.PlainAid Go.Sort
set_option linter.unusedVariables false
set_option linter.unusedSimpArgs false
theorem bXs_rng (l : List Lf) (h : ∀ f ∈ l, InR f.n) : ∀ i, i ≤ l.length → ∀ x ∈ bXs (l.take i), x.rng := by
  intro i
  induction i with
  | zero => intro _ x hx; simp [bXs] at hx
  | succ i ih =>
    intro hi x hx
    have hf : l[i]? = some l[i] := List.getElem?_eq_getElem (by omega)
    rw [bXs_take hf] at hx
    rcases List.mem_append.1 hx with hx | hx
    · exact ih (by omega) x hx
    · rw [List.mem_singleton] at hx
      subst hx
      exact (Xp.rng_eq _).2 ⟨h _ (List.getElem_mem _), fun y hy => ih (by omega) y (pick_mem hy)⟩
set_option maxRecDepth 100000 in
set_option maxHeartbeats 8000000 in
theorem checkFolded_walk {ls : List Lf} {ao : Option Addr} {cap : Nat} (w : World) (hl : LfAt w.heap.size ao ls w) (hfl : ∀ f ∈ ls, f.nm.size ≤ maxLen) (hfr : ∀ f ∈ ls, InR f.n) :
    Calls Try.prog 6 #[.slice ao ls.length cap] w fun e w' => e = .returned (.bool true) ∧ Below w.heap.size w w' := by
  have CA : Hid (∀ W, Calls Try.prog 14 #[] W fun e w' => e = .returned (.bool true) ∧ Below W.heap.size W w') := Lib.hid awake21_any
  by_cases hg : 60 < ls.length
  · have CG := Lib.hid (great21_yes ls.length 0 ao none cap 0 (.inl hg))
    obtain ⟨n, hn⟩ : ∃ n, n = ls.length := ⟨_, rfl⟩
    rw [← hn] at CG ⊢
    clear hg hn hl hfl hfr
    go_enter Try.func6, Try.ntmps6
    go_wp2_with (first | (go_at_call 13; (with_reducible refine (CG.out _).mono ?_); rintro e w1 ⟨rfl, rfl⟩) | (go_at_call 14; (with_reducible refine (CA.out _).mono ?_); rintro e W1 ⟨rfl, hB⟩; have HB := Lib.hid hB; clear hB))
    go_ret
    exact ⟨rfl, HB.out⟩
  · have CG := Lib.hid (great21_no ls.length 0 ao none cap 0 (by omega) (by omega))
    have CB : Hid (Calls Try.prog 15 #[.slice ao ls.length cap, .slice none 0 0] w (BuildP w (bXs ls) (bTs (bXs ls) []))) := Lib.hid (rbuild_any (cap := cap) (kap := 0) (ks := []) (co := none) w hl (no_knots _ _ _) (by omega) (by simp))
    have hxl := bXs_len ls ls.length (Nat.le_refl _)
    have hxf := bXs_fit ls hfl ls.length (Nat.le_refl _)
    have hxt := bXs_thin ls ls.length (Nat.le_refl _)
    have hxr := bXs_rng ls hfr ls.length (Nat.le_refl _)
    rw [List.take_length] at hxl hxf hxt hxr
    obtain ⟨xs, hxs⟩ : ∃ xs, xs = bXs ls := ⟨_, rfl⟩
    rw [← hxs] at CB hxl hxf hxt hxr
    have HXR := Lib.hid hxr
    obtain ⟨ts, hts⟩ : ∃ ts, ts = bTs xs ([] : List Kn) := ⟨_, rfl⟩
    rw [← hts] at CB
    obtain ⟨n, hn⟩ : ∃ n, n = ls.length := ⟨_, rfl⟩
    rw [← hn] at CG CB hg ⊢
    rw [← hn] at hxl hxt
    obtain ⟨L, hL⟩ : ∃ L, L = xs.length := ⟨_, rfl⟩
    obtain ⟨L2, hL2⟩ : ∃ L, L = ts.length := ⟨_, rfl⟩
    have HLX := Lib.hid hL.symm
    have HLT := Lib.hid hL2.symm
    have hL60 : L ≤ 60 := by omega
    have HXF := Lib.hid hxf
    have HXT : Hid (∀ x ∈ xs, x.thin ∧ x.dep ≤ 900) := Lib.hid fun x hx => ⟨(hxt x hx).1, by have := (hxt x hx).2; omega⟩
    have H60 : Hid (xs.length ≤ 60) := Lib.hid (by omega)
    clear hg hl hfl hfr hxl hxf hxt hxr hxs hts hn hL hL2
    go_enter Try.func6, Try.ntmps6
    go_upto_region 4 with (first | (go_at_call 13; (with_reducible refine (CG.out _).mono ?_); rintro e w1 ⟨rfl, rfl⟩) | (go_at_call 15; (with_reducible refine CB.out.mono ?_); rintro e w1 ⟨R, a0, a1, a2, a3, a4, a5, c0, c1, c2, c3, c4, c5, he, hbt, hR, hcs, hb⟩; obtain rfl : e = Ending.returned (.agg #[.slice a0 L c0, .slice a1 L c1, .slice a2 L c2, .slice a3 L2 c3, .slice a4 L2 c4, .slice a5 L2 c5]) := (by rw [he]; unfold treeV; rw [HLX.out, HLT.out]); have HMD := Lib.hid (lawT_made (c0 := c0) (c1 := c1) (c2 := c2) (c3 := c3) (c4 := c4) (c5 := c5) hbt hR hb HLX.out HLT.out); clear he hbt hR hb hcs; obtain ⟨⟨r0, r1, r2, r3, r4, r5⟩, p0, p1, p2, p3, p4, p5⟩ := six_zero w1 _ rfl))
    clear r0 r1 r2 r3 r4 r5 p0 p1 p2 p3 p4 p5 CB CG
    obtain ⟨W0, hW⟩ : ∃ X, w1.alloc (.cells #[.slice a0 L c0, .slice a1 L c1, .slice a2 L c2, .slice a3 L2 c3, .slice a4 L2 c4, .slice a5 L2 c5] 29) = X := ⟨_, rfl⟩
    have HT := Lib.hid (HMD.out W0 hW)
    obtain ⟨tb, htb⟩ : ∃ z, z = w1.heap.size := ⟨_, rfl⟩
    rw [hW, ← htb]
    rw [← htb] at HT
    clear HMD hW htb
    obtain ⟨t0, t1, t2, t3, t4, t5⟩ := HT.out.cells
    go_upto_region 5 with fail
    by_cases hL0 : L = 0
    · subst hL0
      go_wp2_with (go_at_call 14; (with_reducible refine (CA.out _).mono ?_); rintro e W1 ⟨rfl, hB⟩; have HB := Lib.hid hB; clear hB)
      go_ret
      exact ⟨rfl, below_mono HT.out.bel HB.out (Nat.le_refl _)⟩
    · obtain ⟨M, hM⟩ : ∃ M, L = M + 1 := ⟨L - 1, by omega⟩
      have hs1 : IntKind.i64.wrap ((L : Int) - 1) = (M : Int) := (IntWalk.i64_in _ (by omega)).trans (by omega)
      have hL0' : ¬ (L : Int) = 0 := by omega
      obtain ⟨x, hx⟩ : ∃ x, xs[M]? = some x := ⟨_, List.getElem?_eq_getElem (by rw [HLX.out]; omega)⟩
      have hmem := List.mem_of_getElem? hx
      have hfx := HXF.out x hmem
      have htx := HXT.out x hmem
      have hrx := HXR.out x hmem
      obtain ⟨a, co, ck, rfl, hra, hck, ⟨y0, y1, y2, y3⟩, hex⟩ := HT.out.bt.exprs.get hx
      have i1 : (M : Int) < (L : Int) := by omega
      have i2 : (0 : Int) ≤ (M : Int) := by omega
      have CR : Hid (Calls Try.prog 17 #[.agg #[.slice (some a) L c0, .slice a1 L c1, .slice a2 L c2, .slice a3 L2 c3, .slice a4 L2 c4, .slice a5 L2 c5], .int .i64 M] W0 fun e w' => e = .returned (.bool x.rgt) ∧ Below W0.heap.size W0 w') := Lib.hid (by
        have h := HT.out
        have := rtrightX_any (c0 := c0) (c1 := c1) (c2 := c2) (c3 := c3) (c4 := c4) (c5 := c5) W0 h.below h.bt H60.out hx hfx
        unfold treeV at this
        rw [HLX.out, HLT.out] at this
        exact this)
      have hxl : ∀ V, Below W0.heap.size W0 V → ExL R V x.args co := fun V hV => hex.stay (fun _ h => h) fun b hb => hV.block b (HT.out.below b hb)
      have CF : Hid (x.rgt = true → ∀ V, Below W0.heap.size W0 V → Calls Try.prog 26 #[exV x co ck] V (FoPost R V x.fo)) := Lib.hid fun h V hV => by
        have := foldOf_any (S := R) value_any x co ck V (fun b hb => Nat.lt_of_lt_of_le (HT.out.below b hb) hV.size) hck (hxl V hV) hfx htx.1 htx.2 (fun h => (fo_kept x (xrgt_blt h) hrx).2)
        rw [show x.fol = x.fo from by unfold Xp.fol; rw [if_pos h]] at this
        exact this
      have CK : Hid (x.rgt = true → ∀ V, Below W0.heap.size W0 V → Calls Try.prog 16 #[exV x co ck] V fun e w' => e = .returned (.tuple #[.int .i64 (x.kd : Nat), .bool x.has]) ∧ Below V.heap.size V w') := Lib.hid fun h V hV => kindOf_any x co ck V (fun b hb => Nat.lt_of_lt_of_le (HT.out.below b hb) hV.size) hck (hxl V hV) hfx htx.1 htx.2
      have CZ : Hid (x.rgt = true → ∀ V, Below W0.heap.size W0 V → Calls Try.prog 31 #[exV x co ck] V fun e w' => e = .returned (.tuple #[.int .i64 x.cnt, .int .i64 x.dep]) ∧ Below V.heap.size V w') := Lib.hid fun h V hV => sizeX_any x co ck V (fun b hb => Nat.lt_of_lt_of_le (HT.out.below b hb) hV.size) hck (hxl V hV) (by
        unfold Xp.rgt at h
        simp only [Bool.and_eq_true, decide_eq_true_eq] at h
        omega)
      have HFG : Hid (x.rgt = true → Kept x x.fo ∧ x.fo.rgt = true ∧ x.fo.fit ∧ x.fo.thin ∧ x.fo.dep ≤ 900 ∧ x.fo.cnt < 1000 ∧ x.fo.kd = x.kd ∧ x.fo.fol = x.fo) := Lib.hid fun h => by
        have hk := (fo_kept x (xrgt_blt h) hrx).1
        have hr := fo_rgt h hrx
        refine ⟨hk, hr, hk.fit hfx, hk.thin htx.1, by have := hk.dep; have := htx.2; omega, ?_, ?_, ?_⟩
        · unfold Xp.rgt at hr
          simp only [Bool.and_eq_true, decide_eq_true_eq] at hr
          omega
        · unfold Xp.kd
          rw [if_pos h, if_pos hr, hk.knd]
        · unfold Xp.fol
          rw [if_pos hr, hk.again]
      obtain ⟨sy, hsy⟩ : ∃ v, v = x.fo := ⟨_, rfl⟩
      rw [← hsy] at CF HFG
      obtain ⟨rg, hrgt⟩ : ∃ v, v = x.rgt := ⟨_, rfl⟩
      rw [← hrgt] at CR CF CK CZ HFG
      obtain ⟨xo, hxo⟩ : ∃ v, v = x.op := ⟨_, rfl⟩
      obtain ⟨xn, hxn⟩ : ∃ v, v = x.n := ⟨_, rfl⟩
      obtain ⟨xn2, hxs⟩ : ∃ v, v = x.nm := ⟨_, rfl⟩
      obtain ⟨m1, hm1⟩ : ∃ m, m = x.args.length := ⟨_, rfl⟩
      have hxe : exV x co ck = .agg #[.int .i64 xo, .int .i64 xn, .string xn2, .slice co m1 ck] := by rw [hm1, hxo, hxn, hxs]
      rw [hxe] at CF CK CZ
      rw [← hxo] at y0
      rw [← hxn] at y1
      rw [← hxs] at y2
      rw [← hm1] at y3
      have HAC : Hid (∀ V, Below W0.heap.size W0 V → (V.cell? (a.add (M * 4)) = some (.int .i64 xo) ∧ V.cell? ⟨(a.add (M * 4)).block, (a.add (M * 4)).off + 1, none⟩ = some (.int .i64 xn) ∧ V.cell? ⟨(a.add (M * 4)).block, (a.add (M * 4)).off + 2, none⟩ = some (.string xn2) ∧ V.cell? ⟨(a.add (M * 4)).block, (a.add (M * 4)).off + 3, none⟩ = some (.slice co m1 ck))) := Lib.hid fun V hW => by
        have ha : (a.add (M * 4)).block < W0.heap.size := by rw [add_block]; exact HT.out.below _ hra
        exact ⟨(hW.cell (p := a.add (M * 4)) ha).trans y0, (hW.cell (p := ⟨(a.add (M * 4)).block, (a.add (M * 4)).off + 1, none⟩) ha).trans y1, (hW.cell (p := ⟨(a.add (M * 4)).block, (a.add (M * 4)).off + 2, none⟩) ha).trans y2, (hW.cell (p := ⟨(a.add (M * 4)).block, (a.add (M * 4)).off + 3, none⟩) ha).trans y3⟩
      clear hx hmem hfx htx hrx hra hck hex hxo hxn hxs hm1 hxe hrgt hsy hxl hM
      cases rg with
      | false =>
        go_wp2_with (first | (go_at_call 17; (with_reducible refine CR.out.mono ?_); rintro e w4 ⟨rfl, hb⟩; have HB4 := Lib.hid hb; clear hb) | (go_at_call 14; (with_reducible refine (CA.out _).mono ?_); rintro e W1 ⟨rfl, hB⟩; have HB := Lib.hid hB; clear hB))
        go_ret
        exact ⟨rfl, below_mono (below_mono HT.out.bel HB4.out (Nat.le_refl _)) HB.out (Nat.le_refl _)⟩
      | true =>
        have HKP := Lib.hid (HFG.out rfl)
        have CF2 := Lib.hid (CF.out rfl)
        have CK2 := Lib.hid (CK.out rfl)
        have CZ2 := Lib.hid (CZ.out rfl)
        clear CF CK CZ HFG
        go_upto_region 7 with (go_at_call 17; (with_reducible refine CR.out.mono ?_); rintro e w4 ⟨rfl, hb⟩; have HB4 := Lib.hid hb; clear hb)
        clear t0 t1 t2 t3 t4 t5 y0 y1 y2 y3
        obtain ⟨t0, t1, t2, t3, t4, t5⟩ := (HT.out.next HB4.out).cells
        obtain ⟨y0, y1, y2, y3⟩ := HAC.out w4 HB4.out
        have GB := Lib.hid (cells_made #[.int .i64 xo, .int .i64 xn, .string xn2, .slice co m1 ck] 34 w4)
        obtain ⟨⟨r0, r1, r2, r3⟩, p0, p1, p2, p3⟩ := new_zero w4 (.int .i64 0) (.int .i64 0) (.string ⟨#[]⟩) (.slice none 0 0) 34
        go_upto_region 8 with fail
        clear r0 r1 r2 r3 p0 p1 p2 p3 t0 t1 t2 t3 t4 t5 y0 y1 y2 y3
        obtain ⟨z5, hz5⟩ : ∃ y, y = w4.heap.size := ⟨_, rfl⟩
        obtain ⟨W5, hW5⟩ : ∃ X, w4.alloc (.cells #[.int .i64 xo, .int .i64 xn, .string xn2, .slice co m1 ck] 34) = X := ⟨_, rfl⟩
        obtain ⟨g5, b5, s5⟩ := GB.out W5 hW5
        rw [hW5, ← hz5]
        rw [← hz5] at b5 s5
        have HG5 : Hid (Below W0.heap.size W0 W5 ∧ W5.heap[z5]? = some (.cells #[.int .i64 xo, .int .i64 xn, .string xn2, .slice co m1 ck] 34 (0, 0)) ∧ W5.heap.size = z5 + 1) := Lib.hid ⟨below_mono HB4.out g5 (Nat.le_refl _), b5, s5⟩
        obtain ⟨y0, y1, y2, y3⟩ := quad b5
        clear g5 b5 s5 hW5 hz5 GB
        obtain ⟨so, hso⟩ : ∃ v, v = sy.op := ⟨_, rfl⟩
        obtain ⟨sn, hsn⟩ : ∃ v, v = sy.n := ⟨_, rfl⟩
        obtain ⟨ss, hss⟩ : ∃ v, v = sy.nm := ⟨_, rfl⟩
        obtain ⟨sm, hsm⟩ : ∃ v, v = sy.args.length := ⟨_, rfl⟩
        have HSY : Hid (∀ bo k, exV sy bo k = .agg #[.int .i64 so, .int .i64 sn, .string ss, .slice bo sm k]) := Lib.hid fun bo k => by rw [hso, hsn, hss, hsm]
        have HSM := Lib.hid hsm
        clear hso hsn hss hsm
        go_upto_region 9 with (go_at_call 26; (with_reducible refine (CF2.out _ HG5.out.1).mono ?_); rintro e w6 ⟨⟨eo2, ek2, he, hek2, hok⟩, hb4⟩; rw [HSY.out] at he; subst he; have HO6 := Lib.hid (And.intro hek2 hok); have HB6 := Lib.hid hb4; clear hek2 hok hb4; obtain ⟨⟨r0, r1, r2, r3⟩, p0, p1, p2, p3⟩ := new_zero w6 (.int .i64 0) (.int .i64 0) (.string ⟨#[]⟩) (.slice none 0 0) 34)
        clear r0 r1 r2 r3 p0 p1 p2 p3 y0 y1 y2 y3
        obtain ⟨z6, hz6⟩ : ∃ y, y = w6.heap.size := ⟨_, rfl⟩
        obtain ⟨W7, hW7⟩ : ∃ X, w6.alloc (.cells #[.int .i64 so, .int .i64 sn, .string ss, .slice eo2 sm ek2] 34) = X := ⟨_, rfl⟩
        obtain ⟨g7, b7, s7⟩ := cells_made _ _ _ W7 hW7
        rw [hW7, ← hz6]
        rw [← hz6] at b7 s7
        have HG7 : Hid (Below W0.heap.size W0 W7) := Lib.hid (below_mono (below_mono HG5.out.1 HB6.out (Nat.le_refl _)) g7 (Nat.le_refl _))
        have HBOX : Hid (∀ V, Below W7.heap.size W7 V → V.heap[z5]? = some (.cells #[.int .i64 xo, .int .i64 xn, .string xn2, .slice co m1 ck] 34 (0, 0)) ∧ V.heap[z6]? = some (.cells #[.int .i64 so, .int .i64 sn, .string ss, .slice eo2 sm ek2] 34 (0, 0))) := Lib.hid fun V hV => by
          have h1 := HG5.out.2.2
          have h2 := HB6.out.size
          exact ⟨(hV.block z5 (by omega)).trans ((g7.block z5 (by omega)).trans ((HB6.out.block z5 (by omega)).trans HG5.out.2.1)), (hV.block z6 (by omega)).trans b7⟩
        have HEX : Hid (∀ V, Below W7.heap.size W7 V → ExL (fun b => b < V.heap.size) V sy.args eo2) := Lib.hid fun V hV => HO6.out.2.stay (fun b hb => by
          have h1 := HG7.out.size
          have h2 := hV.size
          show b < V.heap.size
          rcases hb with hb | hb
          · have := HT.out.below b hb; omega
          · omega) fun b hb => by
          have h6 : b < w6.heap.size := by
            rcases hb with hb | hb
            · exact Nat.lt_of_lt_of_le (HT.out.below b hb) (below_mono HG5.out.1 HB6.out (Nat.le_refl _)).size
            · exact hb.2
          exact (hV.block b (by omega)).trans (g7.block b h6)
        have HEK : Hid (sy.args.length ≤ ek2) := Lib.hid HO6.out.1
        clear g7 b7 s7 hW7 hz6 HO6
        have CKX : Hid (∀ V, Below W7.heap.size W7 V → Calls Try.prog 16 #[.agg #[.int .i64 xo, .int .i64 xn, .string xn2, .slice co m1 ck]] V fun e w' => e = .returned (.tuple #[.int .i64 (x.kd : Nat), .bool x.has]) ∧ Below V.heap.size V w') := Lib.hid fun V hV => CK2.out V (below_mono HG7.out hV (Nat.le_refl _))
        have CKF : Hid (∀ V, Below W7.heap.size W7 V → Calls Try.prog 16 #[.agg #[.int .i64 so, .int .i64 sn, .string ss, .slice eo2 sm ek2]] V fun e w' => e = .returned (.tuple #[.int .i64 (x.kd : Nat), .bool x.has]) ∧ Below V.heap.size V w') := Lib.hid fun V hV => by
          have := kindOf_any sy eo2 ek2 V (fun b hb => hb) HEK.out (HEX.out V hV) HKP.out.2.2.1 HKP.out.2.2.2.1 HKP.out.2.2.2.2.1
          have hh : sy.has = x.has := by unfold Xp.has; rw [HKP.out.2.2.2.2.2.2.1]
          rw [HSY.out, hh, HKP.out.2.2.2.2.2.2.1] at this
          exact this
        have CZX : Hid (∀ V, Below W7.heap.size W7 V → Calls Try.prog 31 #[.agg #[.int .i64 xo, .int .i64 xn, .string xn2, .slice co m1 ck]] V fun e w' => e = .returned (.tuple #[.int .i64 x.cnt, .int .i64 x.dep]) ∧ Below V.heap.size V w') := Lib.hid fun V hV => CZ2.out V (below_mono HG7.out hV (Nat.le_refl _))
        have CZF : Hid (∀ V, Below W7.heap.size W7 V → Calls Try.prog 31 #[.agg #[.int .i64 so, .int .i64 sn, .string ss, .slice eo2 sm ek2]] V fun e w' => e = .returned (.tuple #[.int .i64 sy.cnt, .int .i64 sy.dep]) ∧ Below V.heap.size V w') := Lib.hid fun V hV => by
          have := sizeX_any sy eo2 ek2 V (fun b hb => hb) HEK.out (HEX.out V hV) HKP.out.2.2.2.2.2.1
          rw [HSY.out] at this
          exact this
        have CRF : Hid (∀ V, Below W7.heap.size W7 V → Calls Try.prog 32 #[.agg #[.int .i64 so, .int .i64 sn, .string ss, .slice eo2 sm ek2]] V fun e w' => e = .returned (.bool true) ∧ Below V.heap.size V w') := Lib.hid fun V hV => by
          have := rightX_any sy eo2 ek2 V (fun b hb => hb) HEK.out (HEX.out V hV) HKP.out.2.2.1 HKP.out.2.2.2.1 HKP.out.2.2.2.2.1
          rw [HSY.out, HKP.out.2.1] at this
          exact this
        have CFF : Hid (∀ V, Below W7.heap.size W7 V → Calls Try.prog 26 #[.agg #[.int .i64 so, .int .i64 sn, .string ss, .slice eo2 sm ek2]] V fun e w' => (∃ bo k, e = .returned (.agg #[.int .i64 so, .int .i64 sn, .string ss, .slice bo sm k]) ∧ sy.args.length ≤ k ∧ ExL (fun b => b < w'.heap.size) w' sy.args bo) ∧ Below V.heap.size V w') := Lib.hid fun V hV => by
          have := foldOf_any (S := fun b => b < V.heap.size) value_any sy eo2 ek2 V (fun b hb => hb) HEK.out (HEX.out V hV) HKP.out.2.2.1 HKP.out.2.2.2.1 HKP.out.2.2.2.2.1 (fun _ => HKP.out.1.fok)
          rw [HSY.out, HKP.out.2.2.2.2.2.2.2] at this
          refine this.mono fun e w' ⟨⟨bo, k, h1, h2, h3⟩, h4⟩ => ⟨⟨bo, k, by rw [h1, HSY.out], h2, h3.stay (fun b hb => ?_) fun _ _ => rfl⟩, h4⟩
          have := h4.size
          show b < w'.heap.size
          rcases hb with hb | hb
          · exact Nat.lt_of_lt_of_le hb this
          · exact hb.2
        have CSF : Hid (∀ V, Below W7.heap.size W7 V → ∀ bo k, sy.args.length ≤ k → ExL (fun b => b < V.heap.size) V sy.args bo → Calls Try.prog 25 #[.agg #[.int .i64 so, .int .i64 sn, .string ss, .slice bo sm k], .agg #[.int .i64 so, .int .i64 sn, .string ss, .slice eo2 sm ek2]] V fun e w' => e = .returned (.bool true) ∧ Below V.heap.size V w') := Lib.hid fun V hV bo k hk hx => by
          have := rsameX_any (S := fun b => b < V.heap.size) (B := V.heap.size) (fun _ h => h) sy bo eo2 k ek2 V (Nat.le_refl _) HKP.out.2.2.2.2.2.1 hk HEK.out hx (HEX.out V hV)
          rw [HSY.out, HSY.out] at this
          exact this
        have HCNT : Hid (sy.cnt ≤ x.cnt) := Lib.hid HKP.out.1.cnt
        obtain ⟨K, hK⟩ : ∃ K : Int, K = (x.kd : Nat) := ⟨_, rfl⟩
        obtain ⟨hs, hhs⟩ : ∃ v, v = x.has := ⟨_, rfl⟩
        obtain ⟨n1, hn1⟩ : ∃ K : Int, K = (x.cnt : Nat) := ⟨_, rfl⟩
        obtain ⟨n2, hn2⟩ : ∃ K : Int, K = (sy.cnt : Nat) := ⟨_, rfl⟩
        obtain ⟨d1, hd1⟩ : ∃ K : Int, K = (x.dep : Nat) := ⟨_, rfl⟩
        obtain ⟨d2, hd2⟩ : ∃ K : Int, K = (sy.dep : Nat) := ⟨_, rfl⟩
        rw [← hK, ← hhs] at CKX CKF
        rw [← hn1, ← hd1] at CZX
        rw [← hn2, ← hd2] at CZF
        have hle : n2 ≤ n1 := by have := HCNT.out; omega
        have hKK : (K == K) = true := by simp
        have HB77 := Lib.hid (Below.refl W7.heap.size W7)
        obtain ⟨y0, y1, y2, y3⟩ := quad (HBOX.out W7 HB77.out).1
        clear hK hhs hn1 hn2 hd1 hd2 CK2 CZ2 CF2
        go_upto_region 10 with (go_at_call 16; (with_reducible refine (CKX.out _ HB77.out).mono ?_); rintro e w8 ⟨rfl, hb⟩; have HB8 := Lib.hid hb; clear hb y0 y1 y2 y3; obtain ⟨y0, y1, y2, y3⟩ := quad (HBOX.out w8 HB8.out).2)
        go_upto_region 11 with (go_at_call 16; (with_reducible refine (CKF.out _ HB8.out).mono ?_); rintro e w9 ⟨rfl, hb⟩; have HB9 := Lib.hid (below_mono HB8.out hb (Nat.le_refl _)); clear hb y0 y1 y2 y3; obtain ⟨y0, y1, y2, y3⟩ := quad (HBOX.out w9 HB9.out).1)
        go_upto_region 12 with (go_at_call 31; (with_reducible refine (CZX.out _ HB9.out).mono ?_); rintro e w10 ⟨rfl, hb⟩; have HB10 := Lib.hid (below_mono HB9.out hb (Nat.le_refl _)); clear hb y0 y1 y2 y3; obtain ⟨y0, y1, y2, y3⟩ := quad (HBOX.out w10 HB10.out).2)
        go_upto_region 13 with (go_at_call 31; (with_reducible refine (CZF.out _ HB10.out).mono ?_); rintro e w11 ⟨rfl, hb⟩; have HB11 := Lib.hid (below_mono HB10.out hb (Nat.le_refl _)); clear hb y0 y1 y2 y3; obtain ⟨y0, y1, y2, y3⟩ := quad (HBOX.out w11 HB11.out).2)
        have HBD : Hid (Below W7.heap.size W7 w11.drew) := Lib.hid HB11.out.drew
        have HSF : Hid (∀ V, Below W7.heap.size W7 V → V.cell? ⟨z6, 0, none⟩ = some (.int .i64 so) ∧ V.cell? ⟨z6, 1, none⟩ = some (.int .i64 sn) ∧ V.cell? ⟨z6, 2, none⟩ = some (.string ss) ∧ V.cell? ⟨z6, 3, none⟩ = some (.slice eo2 sm ek2)) := Lib.hid fun V hV => quad (HBOX.out V hV).2
        go_region_held3 (fun w' => w'.cell? ⟨z6, 0, none⟩ = some (.int .i64 so) ∧ w'.cell? ⟨z6, 1, none⟩ = some (.int .i64 sn) ∧ w'.cell? ⟨z6, 2, none⟩ = some (.string ss) ∧ w'.cell? ⟨z6, 3, none⟩ = some (.slice eo2 sm ek2))
          (first | exact HSF.out _ HB15.out | exact HSF.out _ HB14.out | exact HSF.out _ HB13.out | exact HSF.out _ HB12.out | (go_keep; done))
          (first
            | (go_at_call 32; (with_reducible refine (CRF.out _ HBD.out).mono ?_); rintro e w12 ⟨rfl, hb⟩; have HB12 := Lib.hid (below_mono HBD.out hb (Nat.le_refl _)); clear hb)
            | (go_at_call 26; (with_reducible refine (CFF.out _ HB12.out).mono ?_); rintro e w13 ⟨⟨bo3, k3, rfl, hk3, hx3⟩, hb⟩; have HB13 := Lib.hid (below_mono HB12.out hb (Nat.le_refl _)); have HO3 := Lib.hid (And.intro hk3 hx3); clear hb hk3 hx3)
            | (go_at_call 25; (with_reducible refine (CSF.out _ HB13.out _ _ HO3.out.1 HO3.out.2).mono ?_); rintro e w14 ⟨rfl, hb⟩; have HB14 := Lib.hid (below_mono HB13.out hb (Nat.le_refl _)); clear hb)
            | (go_at_call 14; (with_reducible refine (CA.out _).mono ?_); rintro e w15 ⟨rfl, hb⟩; have HB15 := Lib.hid (below_mono HB14.out hb (Nat.le_refl _)); clear hb))
        all_goals
          go_wp2_with fail
          go_ret
          exact ⟨rfl, below_mono (below_mono HT.out.bel HG7.out (Nat.le_refl _)) HB15.out (Nat.le_refl _)⟩
end Go.Proofs.Ytidldlhhmophjaa
