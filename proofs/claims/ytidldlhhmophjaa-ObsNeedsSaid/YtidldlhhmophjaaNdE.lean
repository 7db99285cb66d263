/- The law ObsNeeds, walked. Conditions: those written at each theorem. -/
import Derived.Test.YtidldlhhmophjaaNdM
namespace Go.Proofs.Ytidldlhhmophjaa
open Go.RowKit Go.PlainAid Go.Sort
set_option linter.unusedVariables false
set_option linter.unusedSimpArgs false
set_option maxRecDepth 100000 in
set_option maxHeartbeats 8000000 in
theorem obsNeeds_walk {ls : List Lf} {ao : Option Addr} {cap : Nat} {R : Nat → Prop} {fo : Option Addr} {F : List Fx} {fc : Nat} (day : Int) (w : World) (hl : LfAt w.heap.size ao ls w) (hfl : ∀ f ∈ ls, f.nm.size ≤ maxLen) (hfr : ∀ f ∈ ls, InR f.n) (hd : InR day) (hF : FxIn F) (hfx : FxA R fo F w) (hRR : ∀ b, R b → b < w.heap.size) :
    Calls Try.prog 10 #[.slice ao ls.length cap, .agg #[.int .i64 day, .slice fo F.length fc]] w fun e w' => e = .returned (.bool true) ∧ Below w.heap.size w w' := by
  have CA : Hid (∀ W, Calls Try.prog 34 #[] W fun e w' => e = .returned (.bool true) ∧ Below W.heap.size W w') := Lib.hid awake_any
  have GA := Lib.hid (two_made (.int .i64 day) (.slice fo F.length fc) 58 w)
  by_cases hg : 60 < ls.length ∨ 60 < F.length
  · have CG := Lib.hid (great22_yes ls.length F.length ao fo cap fc day hg)
    obtain ⟨n, hn⟩ : ∃ n, n = ls.length := ⟨_, rfl⟩
    obtain ⟨m, hm⟩ : ∃ n, n = F.length := ⟨_, rfl⟩
    rw [← hn, ← hm] at CG ⊢
    rw [← hm] at GA
    clear hg hn hm hl hfl hfr hd hF hfx hRR
    go_enter Try.func10, Try.ntmps10
    go_upto_region 1 with fail
    obtain ⟨W, hW⟩ : ∃ X, w.alloc (.cells #[.int .i64 day, .slice fo m fc] 58) = X := ⟨_, rfl⟩
    obtain ⟨g1, b1, _⟩ := GA.out W hW
    obtain ⟨e0, e1⟩ := duo b1
    rw [hW]
    have HG1 := Lib.hid g1
    clear g1 b1 hW GA
    go_wp2_with (first | (go_at_call 38; (with_reducible refine (CG.out _).mono ?_); rintro e w1 ⟨rfl, hB⟩; have HB1 := Lib.hid hB; clear hB) | (go_at_call 34; (with_reducible refine (CA.out _).mono ?_); rintro e W1 ⟨rfl, hB⟩; have HB := Lib.hid hB; clear hB))
    go_ret
    exact ⟨rfl, below_mono (below_mono HG1.out HB1.out (Nat.le_refl _)) HB.out (Nat.le_refl _)⟩
  · have hF60 : F.length ≤ 60 := by omega
    have CG := Lib.hid (great22_no ls.length F.length ao fo cap fc day (by omega) (by omega))
    have CE : Hid (∀ W, Below w.heap.size w W → Calls Try.prog 36 #[.agg #[.int .i64 day, .slice fo F.length fc]] W fun e w' => (∃ a c, e = .returned (.agg #[.int .i64 day, .slice a F.length c]) ∧ FxA (fun b => W.heap.size ≤ b ∧ b < w'.heap.size) a F w') ∧ Below W.heap.size W w') := Lib.hid fun W hW => env_any (cap := fc) day W (hfx.stay (fun _ h => h) fun b hb => hW.block b (hRR b hb)) (by omega) (fun b hb => Nat.lt_of_lt_of_le (hRR b hb) hW.size)
    have CB : Hid (∀ W, Below w.heap.size w W → Calls Try.prog 15 #[.slice ao ls.length cap, .slice none 0 0] W (BuildP W (bXs ls) (bTs (bXs ls) []))) := Lib.hid fun W hW => rbuild_any (cap := cap) (kap := 0) (ks := []) (co := none) W ((hl.under hW).wide hW.size) (no_knots _ _ _) (by omega) (by simp)
    have HFX : Hid (∀ W, Below w.heap.size w W → FxA R fo F W) := Lib.hid fun W hW => hfx.stay (fun _ h => h) fun b hb => hW.block b (hRR b hb)
    have HRR := Lib.hid hRR
    have hxl := bXs_len ls ls.length (Nat.le_refl _)
    have hxf := bXs_fit ls hfl ls.length (Nat.le_refl _)
    have hxt := bXs_thin ls ls.length (Nat.le_refl _)
    rw [List.take_length] at hxl hxf hxt
    obtain ⟨xs, hxs⟩ : ∃ xs, xs = bXs ls := ⟨_, rfl⟩
    rw [← hxs] at CB hxl hxf hxt
    obtain ⟨ts, hts⟩ : ∃ ts, ts = bTs xs ([] : List Kn) := ⟨_, rfl⟩
    rw [← hts] at CB
    obtain ⟨n, hn⟩ : ∃ n, n = ls.length := ⟨_, rfl⟩
    obtain ⟨m, hm⟩ : ∃ n, n = F.length := ⟨_, rfl⟩
    rw [← hn] at CG CB hg ⊢
    rw [← hm] at CG CE GA hF60 ⊢
    rw [← hn] at hxl hxt
    have HM := Lib.hid hm
    obtain ⟨L, hL⟩ : ∃ L, L = xs.length := ⟨_, rfl⟩
    obtain ⟨L2, hL2⟩ : ∃ L, L = ts.length := ⟨_, rfl⟩
    have HLX := Lib.hid hL.symm
    have HLT := Lib.hid hL2.symm
    have hL60 : L ≤ 60 := by omega
    have HXF := Lib.hid hxf
    have HXT : Hid (∀ x ∈ xs, x.thin ∧ x.dep ≤ 900) := Lib.hid fun x hx => ⟨(hxt x hx).1, by have := (hxt x hx).2; omega⟩
    have H60 : Hid (xs.length ≤ 60 ∧ m ≤ 60) := Lib.hid ⟨by omega, hF60⟩
    clear hg hl hfl hfr hd hF hfx hRR hxl hxf hxt hxs hts hn hm hL hL2 hF60
    go_enter Try.func10, Try.ntmps10
    go_upto_region 1 with fail
    obtain ⟨z, hz⟩ : ∃ z, z = w.heap.size := ⟨_, rfl⟩
    obtain ⟨W, hW⟩ : ∃ X, w.alloc (.cells #[.int .i64 day, .slice fo m fc] 58) = X := ⟨_, rfl⟩
    obtain ⟨g1, b1, s1⟩ := GA.out W hW
    rw [hW, ← hz]
    rw [← hz] at b1
    obtain ⟨e0, e1⟩ := duo b1
    have HG1 := Lib.hid g1
    have HB1 := Lib.hid b1
    have HZ := Lib.hid hz
    clear g1 b1 s1 hW GA hz
    go_upto_region 3 with (go_at_call 38; (with_reducible refine (CG.out _).mono ?_); rintro e w1 ⟨rfl, hB⟩; have HB2 := Lib.hid (below_mono HG1.out hB (Nat.le_refl _)); have HX2 := Lib.hid ((hB.block z (lt_of_heap HB1.out)).trans HB1.out); clear hB e0 e1)
    have CB2 := Lib.hid (CB.out _ HB2.out)
    clear CB CG
    go_upto_region 4 with (go_at_call 15; (with_reducible refine CB2.out.mono ?_); rintro e w3 ⟨R2, a0, a1, a2, a3, a4, a5, c0, c1, c2, c3, c4, c5, he, hbt, hR, hcs, hb⟩; obtain rfl : e = Ending.returned (.agg #[.slice a0 L c0, .slice a1 L c1, .slice a2 L c2, .slice a3 L2 c3, .slice a4 L2 c4, .slice a5 L2 c5]) := (by rw [he]; unfold treeV; rw [HLX.out, HLT.out]); have HMD := Lib.hid (lawT_made (c0 := c0) (c1 := c1) (c2 := c2) (c3 := c3) (c4 := c4) (c5 := c5) hbt hR hb HLX.out HLT.out); have HB3 := Lib.hid (below_mono HB2.out hb (Nat.le_refl _)); have HX3 := Lib.hid ((hb.block z (lt_of_heap HX2.out)).trans HX2.out); clear he hbt hR hb hcs; obtain ⟨⟨r0, r1, r2, r3, r4, r5⟩, p0, p1, p2, p3, p4, p5⟩ := six_zero w3 _ rfl)
    clear r0 r1 r2 r3 r4 r5 p0 p1 p2 p3 p4 p5 CB2
    obtain ⟨W0, hW⟩ : ∃ X, w3.alloc (.cells #[.slice a0 L c0, .slice a1 L c1, .slice a2 L c2, .slice a3 L2 c3, .slice a4 L2 c4, .slice a5 L2 c5] 29) = X := ⟨_, rfl⟩
    have HT := Lib.hid (HMD.out W0 hW)
    have HW0 : Hid (Below w.heap.size w W0 ∧ W0.heap[z]? = some (.cells #[.int .i64 day, .slice fo m fc] 58 (0, 0))) := Lib.hid (by
      obtain ⟨g, _, _⟩ := cells_made _ _ _ W0 hW
      exact ⟨below_mono HB3.out g (Nat.le_refl _), (g.block z (lt_of_heap HX3.out)).trans HX3.out⟩)
    obtain ⟨tb, htb⟩ : ∃ y, y = w3.heap.size := ⟨_, rfl⟩
    rw [hW, ← htb]
    rw [← htb] at HT
    clear HMD hW htb
    go_upto_region 5 with fail
    go_loopw [6] (fun v wr => ∃ i : Nat, i ≤ L ∧ v = .int .i64 i ∧ Hid (Below W0.heap.size W0 wr)) (fun v _ => L - (intOf v).toNat)
    case atStart => exact ⟨0, by omega, rfl, Lib.hid (Below.refl _ _)⟩
    case round =>
      obtain ⟨i, hi, rfl, HW⟩ := hrel
      have HTW := Lib.hid (HT.out.next HW.out)
      have HWW := Lib.hid (below_mono HW0.out.1 HW.out (Nat.le_refl _))
      obtain ⟨t0, t1, t2, t3, t4, t5⟩ := HTW.out.cells
      have i2 : (0 : Int) ≤ (i : Int) := by omega
      by_cases hlt : i < L
      · obtain ⟨x, hx⟩ : ∃ x, xs[i]? = some x := ⟨_, List.getElem?_eq_getElem (by rw [HLX.out]; exact hlt)⟩
        have hmem := List.mem_of_getElem? hx
        have hfx := HXF.out x hmem
        have htx := HXT.out x hmem
        obtain ⟨a, co, ck, rfl, hra, hck, ⟨y0, y1, y2, y3⟩, hex⟩ := HTW.out.bt.exprs.get hx
        have i1 : (i : Int) < (L : Int) := by omega
        have CR : Hid (Calls Try.prog 17 #[.agg #[.slice (some a) L c0, .slice a1 L c1, .slice a2 L c2, .slice a3 L2 c3, .slice a4 L2 c4, .slice a5 L2 c5], .int .i64 i] wr fun e w' => e = .returned (.bool x.rgt) ∧ Below wr.heap.size wr w') := Lib.hid (by
          have h := HTW.out
          have := rtrightX_any (c0 := c0) (c1 := c1) (c2 := c2) (c3 := c3) (c4 := c4) (c5 := c5) wr h.below h.bt H60.out.1 hx hfx
          unfold treeV at this
          rw [HLX.out, HLT.out] at this
          exact this)
        have CN : Hid (∀ V, Below wr.heap.size wr V → ∀ (a' : Option Addr) (c' : Nat), FxA (fun b => b < V.heap.size) a' F V → Calls Try.prog 44 #[exV x co ck, .agg #[.int .i64 day, .slice a' m c']] V (NeedsP 200 (x.nds (fun s => seenF day s F)) V)) := Lib.hid fun V hV a' c' hfa => by
          have := needs_any (S := fun b => b < V.heap.size) (R := fun b => b < V.heap.size) (F := F) (fa := a') (fc := c') (day := day) x co ck V (fun b hb => hb) (fun b hb => hb) (by rw [← HM.out]; have := H60.out.2; omega) hck (hex.stay (fun b hb => Nat.lt_of_lt_of_le (HTW.out.below b hb) hV.size) fun b hb => hV.block b (HTW.out.below b hb)) hfx htx.1 htx.2 hfa
          rw [← HM.out] at this
          exact this
        have CQ : Hid (x.rgt = true → ∀ V, Below wr.heap.size wr V → Calls Try.prog 42 #[exV x co ck, .agg #[.int .i64 day, .slice fo m fc]] V (RndP 200 (fun u => u ∈ kys (fun s => seenF day s F) x) V)) := Lib.hid fun h V hV => by
          have := rneedsOf_any (S := fun b => b < V.heap.size) (R := fun b => b < V.heap.size) (F := F) (fa := fo) (fc := fc) (day := day) (by rw [← HM.out]; have := H60.out.2; omega) x co ck V (fun b hb => hb) (fun b hb => hb) hck (hex.stay (fun b hb => Nat.lt_of_lt_of_le (HTW.out.below b hb) hV.size) fun b hb => hV.block b (HTW.out.below b hb)) ((HFX.out V (below_mono HWW.out hV (Nat.le_refl _))).stay (fun b hb => Nat.lt_of_lt_of_le (HRR.out b hb) (below_mono HWW.out hV (Nat.le_refl _)).size) fun _ _ => rfl) (rgt_cnt h)
          rw [← HM.out] at this
          exact this
        have HND : Hid (x.nds (fun s => seenF day s F) = if x.rgt = true then kys (fun s => seenF day s F) x else []) := Lib.hid rfl
        obtain ⟨ND, hND⟩ : ∃ v, v = x.nds (fun s => seenF day s F) := ⟨_, rfl⟩
        obtain ⟨KY, hKY⟩ : ∃ v, v = kys (fun s => seenF day s F) x := ⟨_, rfl⟩
        rw [← hND] at CN HND
        rw [← hKY] at CQ HND
        obtain ⟨xo, hxo⟩ : ∃ v, v = x.op := ⟨_, rfl⟩
        obtain ⟨xn, hxn⟩ : ∃ v, v = x.n := ⟨_, rfl⟩
        obtain ⟨xn2, hxs⟩ : ∃ v, v = x.nm := ⟨_, rfl⟩
        obtain ⟨m1, hm1⟩ : ∃ m, m = x.args.length := ⟨_, rfl⟩
        have hxe : exV x co ck = .agg #[.int .i64 xo, .int .i64 xn, .string xn2, .slice co m1 ck] := by rw [hm1, hxo, hxn, hxs]
        rw [hxe] at CN CQ
        rw [← hxo] at y0
        rw [← hxn] at y1
        rw [← hxs] at y2
        rw [← hm1] at y3
        have HBX : Hid (∀ W, Below wr.heap.size wr W → (W.cell? (a.add (i * 4)) = some (.int .i64 xo) ∧ W.cell? ⟨(a.add (i * 4)).block, (a.add (i * 4)).off + 1, none⟩ = some (.int .i64 xn) ∧ W.cell? ⟨(a.add (i * 4)).block, (a.add (i * 4)).off + 2, none⟩ = some (.string xn2) ∧ W.cell? ⟨(a.add (i * 4)).block, (a.add (i * 4)).off + 3, none⟩ = some (.slice co m1 ck)) ∧ (W.cell? ⟨tb, 0, none⟩ = some (.slice (some a) L c0) ∧ W.cell? ⟨z, 0, none⟩ = some (.int .i64 day) ∧ W.cell? ⟨z, 1, none⟩ = some (.slice fo m fc))) := Lib.hid fun W hW => by
          have ha : (a.add (i * 4)).block < wr.heap.size := by rw [add_block]; exact HTW.out.below _ hra
          have hzz := (below_mono HW.out hW (Nat.le_refl _)).block z (lt_of_heap HW0.out.2)
          exact ⟨⟨(hW.cell (p := a.add (i * 4)) ha).trans y0, (hW.cell (p := ⟨(a.add (i * 4)).block, (a.add (i * 4)).off + 1, none⟩) ha).trans y1, (hW.cell (p := ⟨(a.add (i * 4)).block, (a.add (i * 4)).off + 2, none⟩) ha).trans y2, (hW.cell (p := ⟨(a.add (i * 4)).block, (a.add (i * 4)).off + 3, none⟩) ha).trans y3⟩, (HTW.out.next hW).cells.1, duo (hzz.trans HW0.out.2)⟩
        obtain ⟨rg, hrgt⟩ : ∃ v, v = x.rgt := ⟨_, rfl⟩
        rw [← hrgt] at CR CQ HND
        clear hx hmem hfx htx hra hck hex hxo hxn hxs hm1 hxe hrgt hND hKY y0 y1 y2 y3
        cases rg with
        | false =>
          go_upto_region 10 with (go_at_call 17; (with_reducible refine CR.out.mono ?_); rintro e w5 ⟨rfl, hb⟩; have HB5 := Lib.hid hb; clear hb t0 t1 t2 t3 t4 t5)
          have WT : Hid (∀ V, Below w5.heap.size w5 V → ∃ M : List ByteArray, M.length = 0 ∧ 0 ≤ 200 ∧ Asc M ∧ (∀ u, u ∈ kyl M ↔ u ∈ ND) ∧ StA none 0 M V) := Lib.hid fun V hV => ⟨[], rfl, by omega, List.Pairwise.nil, fun u => by rw [HND.out]; simp [kyl], ⟨by simp, fun h => absurd rfl h⟩⟩
          have TW : Hid (∀ V, Below w5.heap.size w5 V → Below wr.heap.size wr V) := Lib.hid fun V hV => below_mono HB5.out hV (Nat.le_refl _)
          have HBE : Hid (Below w5.heap.size w5 w5.drew) := Lib.hid (Below.refl w5.heap.size w5).drew
          obtain ⟨_, t0, _, _⟩ := HBX.out w5 (TW.out _ (Below.refl _ _))
          go_upto_region 10 with fail
          go_region_held3 (fun W => (W.cell? (a.add (i * 4)) = some (.int .i64 xo) ∧ W.cell? ⟨(a.add (i * 4)).block, (a.add (i * 4)).off + 1, none⟩ = some (.int .i64 xn) ∧ W.cell? ⟨(a.add (i * 4)).block, (a.add (i * 4)).off + 2, none⟩ = some (.string xn2) ∧ W.cell? ⟨(a.add (i * 4)).block, (a.add (i * 4)).off + 3, none⟩ = some (.slice co m1 ck)) ∧ (W.cell? ⟨tb, 0, none⟩ = some (.slice (some a) L c0) ∧ W.cell? ⟨z, 0, none⟩ = some (.int .i64 day) ∧ W.cell? ⟨z, 1, none⟩ = some (.slice fo m fc)))
            (first | exact HBX.out _ (TW.out _ HB9.out) | exact HBX.out _ (TW.out _ HB8.out) | exact HBX.out _ (TW.out _ HB7.out) | exact HBX.out _ (TW.out _ HBE.out))
            (first
              | (go_at_call 36; (with_reducible refine (CE.out _ (below_mono HWW.out (TW.out _ HBE.out) (Nat.le_refl _))).mono ?_); rintro e w7 ⟨⟨a1', c1', rfl, hf1⟩, hb⟩; have HB7 := Lib.hid (below_mono HBE.out hb (Nat.le_refl _)); have HF1 := Lib.hid hf1; clear hb hf1)
              | (go_at_call 44; (with_reducible refine (CN.out _ (TW.out _ HB7.out) _ _ (HF1.out.stay (fun _ h => h.2) fun _ _ => rfl)).mono ?_); rintro e w8 ⟨⟨a2', c2', rs, rfl, g1, g2, g3, g4⟩, hb⟩; have HB8 := Lib.hid (below_mono HB7.out hb (Nat.le_refl _)); obtain ⟨rn, hrn⟩ : ∃ n, n = rs.length := ⟨_, rfl⟩; rw [← hrn]; have HS8 := Lib.hid (want_same hrn g1 g2 g4 (WT.out _ HB8.out)); clear hb g1 g2 g3 g4 hrn)
              | (go_at_call 43; (with_reducible refine HS8.out.mono ?_); rintro e w9 ⟨rfl, hb⟩; have HB9 := Lib.hid (below_mono HB8.out hb (Nat.le_refl _)); clear hb))
          all_goals
            go_wp2_with fail
            go_roundw
            case rel => exact ⟨i + 1, by omega, by go_num, Lib.hid (below_mono HW.out (TW.out _ HB9.out) (Nat.le_refl _))⟩
            case measure => simp [intOf]; omega
        | true =>
          have CQ2 := Lib.hid (CQ.out rfl)
          clear CQ
          go_upto_region 9 with (go_at_call 17; (with_reducible refine CR.out.mono ?_); rintro e w5 ⟨rfl, hb⟩; have HB5 := Lib.hid hb; clear hb t0 t1 t2 t3 t4 t5)
          have HBD : Hid (Below wr.heap.size wr w5.drew) := Lib.hid HB5.out.drew
          obtain ⟨_, t0, _, _⟩ := HBX.out w5 HB5.out
          go_region_held3 (fun W => (W.cell? (a.add (i * 4)) = some (.int .i64 xo) ∧ W.cell? ⟨(a.add (i * 4)).block, (a.add (i * 4)).off + 1, none⟩ = some (.int .i64 xn) ∧ W.cell? ⟨(a.add (i * 4)).block, (a.add (i * 4)).off + 2, none⟩ = some (.string xn2) ∧ W.cell? ⟨(a.add (i * 4)).block, (a.add (i * 4)).off + 3, none⟩ = some (.slice co m1 ck)) ∧ (W.cell? ⟨tb, 0, none⟩ = some (.slice (some a) L c0) ∧ W.cell? ⟨z, 0, none⟩ = some (.int .i64 day) ∧ W.cell? ⟨z, 1, none⟩ = some (.slice fo m fc)))
            (first | exact HBX.out _ HB6.out | exact HBX.out _ HBD.out)
            (first | (go_at_call 42; (with_reducible refine (CQ2.out _ HBD.out).mono ?_); rintro e w6 ⟨⟨ra, rc, L4, rfl, q1, q2, q3, q4⟩, hb⟩; have HB6 := Lib.hid (below_mono HBD.out hb (Nat.le_refl _)); have HL4 := Lib.hid (And.intro q1 (And.intro q2 (And.intro q3 q4))); clear hb q1 q2 q3 q4))
          all_goals
            obtain ⟨wl, hwl⟩ : ∃ n, n = L4.length := ⟨_, rfl⟩
            rw [← hwl]
            have HWL := Lib.hid hwl.symm
            clear hwl t0
            have WT : Hid (∀ V, Below w6.heap.size w6 V → ∃ M : List ByteArray, M.length = wl ∧ wl ≤ 200 ∧ Asc M ∧ (∀ u, u ∈ kyl M ↔ u ∈ ND) ∧ StA ra rc M V) := Lib.hid fun V hV => ⟨L4, HWL.out, by rw [← HWL.out]; exact HL4.out.2.2.1, HL4.out.1, fun u => by rw [HND.out]; exact HL4.out.2.1 u, HL4.out.2.2.2.next hV⟩
            have TW : Hid (∀ V, Below w6.heap.size w6 V → Below wr.heap.size wr V) := Lib.hid fun V hV => below_mono HB6.out hV (Nat.le_refl _)
            have HBE : Hid (Below w6.heap.size w6 w6.drew) := Lib.hid (Below.refl w6.heap.size w6).drew
            obtain ⟨_, t0, _, _⟩ := HBX.out w6 (TW.out _ (Below.refl _ _))
            go_upto_region 10 with fail
            go_region_held3 (fun W => (W.cell? (a.add (i * 4)) = some (.int .i64 xo) ∧ W.cell? ⟨(a.add (i * 4)).block, (a.add (i * 4)).off + 1, none⟩ = some (.int .i64 xn) ∧ W.cell? ⟨(a.add (i * 4)).block, (a.add (i * 4)).off + 2, none⟩ = some (.string xn2) ∧ W.cell? ⟨(a.add (i * 4)).block, (a.add (i * 4)).off + 3, none⟩ = some (.slice co m1 ck)) ∧ (W.cell? ⟨tb, 0, none⟩ = some (.slice (some a) L c0) ∧ W.cell? ⟨z, 0, none⟩ = some (.int .i64 day) ∧ W.cell? ⟨z, 1, none⟩ = some (.slice fo m fc)))
              (first | exact HBX.out _ (TW.out _ HB9.out) | exact HBX.out _ (TW.out _ HB8.out) | exact HBX.out _ (TW.out _ HB7.out) | exact HBX.out _ (TW.out _ HBE.out))
              (first
                | (go_at_call 36; (with_reducible refine (CE.out _ (below_mono HWW.out (TW.out _ HBE.out) (Nat.le_refl _))).mono ?_); rintro e w7 ⟨⟨a1', c1', rfl, hf1⟩, hb⟩; have HB7 := Lib.hid (below_mono HBE.out hb (Nat.le_refl _)); have HF1 := Lib.hid hf1; clear hb hf1)
                | (go_at_call 44; (with_reducible refine (CN.out _ (TW.out _ HB7.out) _ _ (HF1.out.stay (fun _ h => h.2) fun _ _ => rfl)).mono ?_); rintro e w8 ⟨⟨a2', c2', rs, rfl, g1, g2, g3, g4⟩, hb⟩; have HB8 := Lib.hid (below_mono HB7.out hb (Nat.le_refl _)); obtain ⟨rn, hrn⟩ : ∃ n, n = rs.length := ⟨_, rfl⟩; rw [← hrn]; have HS8 := Lib.hid (want_same hrn g1 g2 g4 (WT.out _ HB8.out)); clear hb g1 g2 g3 g4 hrn)
                | (go_at_call 43; (with_reducible refine HS8.out.mono ?_); rintro e w9 ⟨rfl, hb⟩; have HB9 := Lib.hid (below_mono HB8.out hb (Nat.le_refl _)); clear hb))
            all_goals
              go_wp2_with fail
              go_roundw
              case rel => exact ⟨i + 1, by omega, by go_num, Lib.hid (below_mono HW.out (TW.out _ HB9.out) (Nat.le_refl _))⟩
              case measure => simp [intOf]; omega
      · have i1 : ¬ (i : Int) < (L : Int) := by omega
        go_wp2_with (go_at_call 34; (with_reducible refine (CA.out _).mono ?_); rintro e W1 ⟨rfl, hB⟩; have HB := Lib.hid hB; clear hB)
        go_ret
        exact ⟨rfl, below_mono HWW.out HB.out (Nat.le_refl _)⟩
end Go.Proofs.Ytidldlhhmophjaa
