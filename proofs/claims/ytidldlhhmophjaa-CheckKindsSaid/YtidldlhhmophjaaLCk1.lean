/- The law CheckKinds, walked. Conditions: those written at each theorem. -/
import Derived.Test.YtidldlhhmophjaaCkB
import Derived.Test.YtidldlhhmophjaaCkK
import Derived.Test.YtidldlhhmophjaaTrQ
namespace Go.Proofs.Ytidldlhhmophjaa
open Go.RowKit Go.PlainAid Go.Sort
set_option linter.unusedVariables false
set_option linter.unusedSimpArgs false
set_option maxRecDepth 100000 in
set_option maxHeartbeats 8000000 in
theorem checkKinds_walk {ls : List Lf} {ao : Option Addr} {cap : Nat} (w : World) (hl : LfAt w.heap.size ao ls w) (hfl : ∀ f ∈ ls, f.nm.size ≤ maxLen) :
    Calls Try.prog 3 #[.slice ao ls.length cap] w fun e w' => e = .returned (.bool true) ∧ Below w.heap.size w w' := by
  have CA : Hid (∀ W, Calls Try.prog 14 #[] W fun e w' => e = .returned (.bool true) ∧ Below W.heap.size W w') := Lib.hid awake21_any
  by_cases hg : 60 < ls.length
  · have CG := Lib.hid (great21_yes ls.length 0 ao none cap 0 (.inl hg))
    obtain ⟨n, hn⟩ : ∃ n, n = ls.length := ⟨_, rfl⟩
    rw [← hn] at CG ⊢
    clear hg hn hl hfl
    go_enter Try.func3, Try.ntmps3
    go_wp2_with (first | (go_at_call 13; (with_reducible refine (CG.out _).mono ?_); rintro e w1 ⟨rfl, rfl⟩) | (go_at_call 14; (with_reducible refine (CA.out _).mono ?_); rintro e W1 ⟨rfl, hB⟩; have HB := Lib.hid hB; clear hB))
    go_ret
    exact ⟨rfl, HB.out⟩
  · have CG := Lib.hid (great21_no ls.length 0 ao none cap 0 (by omega) (by omega))
    have CB : Hid (Calls Try.prog 15 #[.slice ao ls.length cap, .slice none 0 0] w (BuildP w (bXs ls) (bTs (bXs ls) []))) := Lib.hid (rbuild_any (cap := cap) (kap := 0) (ks := []) (co := none) w hl (no_knots _ _ _) (by omega) (by simp))
    have hxl := bXs_len ls ls.length (Nat.le_refl _)
    have hxf := bXs_fit ls hfl ls.length (Nat.le_refl _)
    have hxt := bXs_thin ls ls.length (Nat.le_refl _)
    rw [List.take_length] at hxl hxf hxt
    obtain ⟨xs, hxs⟩ : ∃ xs, xs = bXs ls := ⟨_, rfl⟩
    rw [← hxs] at CB hxl hxf hxt
    obtain ⟨ts, hts⟩ : ∃ ts, ts = bTs xs ([] : List Kn) := ⟨_, rfl⟩
    rw [← hts] at CB
    obtain ⟨n, hn⟩ : ∃ n, n = ls.length := ⟨_, rfl⟩
    rw [← hn] at CG CB hg ⊢
    rw [← hn] at hxl hxt
    obtain ⟨L, hL⟩ : ∃ L, L = xs.length := ⟨_, rfl⟩
    obtain ⟨L2, hL2⟩ : ∃ L, L = ts.length := ⟨_, rfl⟩
    have HLX := Lib.hid hL.symm
    have HLT := Lib.hid hL2.symm
    have hL60 : L ≤ 60 := by omega
    have HXF := Lib.hid hxf
    have HXT : Hid (∀ x ∈ xs, x.thin ∧ x.dep ≤ 900) := Lib.hid fun x hx => ⟨(hxt x hx).1, by have := (hxt x hx).2; omega⟩
    have H60 : Hid (xs.length ≤ 60) := Lib.hid (by omega)
    clear hg hl hfl hxl hxf hxt hxs hts hn hL hL2
    go_enter Try.func3, Try.ntmps3
    go_upto_region 4 with (first | (go_at_call 13; (with_reducible refine (CG.out _).mono ?_); rintro e w1 ⟨rfl, rfl⟩) | (go_at_call 15; (with_reducible refine CB.out.mono ?_); rintro e w1 ⟨R, a0, a1, a2, a3, a4, a5, c0, c1, c2, c3, c4, c5, he, hbt, hR, hcs, hb⟩; obtain rfl : e = Ending.returned (.agg #[.slice a0 L c0, .slice a1 L c1, .slice a2 L c2, .slice a3 L2 c3, .slice a4 L2 c4, .slice a5 L2 c5]) := (by rw [he]; unfold treeV; rw [HLX.out, HLT.out]); have HMD := Lib.hid (lawT_made (c0 := c0) (c1 := c1) (c2 := c2) (c3 := c3) (c4 := c4) (c5 := c5) hbt hR hb HLX.out HLT.out); clear he hbt hR hb hcs; obtain ⟨⟨r0, r1, r2, r3, r4, r5⟩, p0, p1, p2, p3, p4, p5⟩ := six_zero w1 _ rfl))
    clear r0 r1 r2 r3 r4 r5 p0 p1 p2 p3 p4 p5 CB CG
    obtain ⟨W0, hW⟩ : ∃ X, w1.alloc (.cells #[.slice a0 L c0, .slice a1 L c1, .slice a2 L c2, .slice a3 L2 c3, .slice a4 L2 c4, .slice a5 L2 c5] 29) = X := ⟨_, rfl⟩
    have HT := Lib.hid (HMD.out W0 hW)
    obtain ⟨tb, htb⟩ : ∃ z, z = w1.heap.size := ⟨_, rfl⟩
    rw [hW, ← htb]
    rw [← htb] at HT
    clear HMD hW htb
    go_upto_region 5 with fail
    go_loopw [4] (fun v wr => ∃ i : Nat, i ≤ L ∧ v = .int .i64 i ∧ Hid (Below W0.heap.size W0 wr)) (fun v _ => L - (intOf v).toNat)
    case atStart => exact ⟨0, by omega, rfl, Lib.hid (Below.refl _ _)⟩
    case round =>
      obtain ⟨i, hi, rfl, HW⟩ := hrel
      have HTW := Lib.hid (HT.out.next HW.out)
      obtain ⟨t0, t1, t2, t3, t4, t5⟩ := HTW.out.cells
      have i2 : (0 : Int) ≤ (i : Int) := by omega
      by_cases hlt : i < L
      · obtain ⟨x, hx⟩ : ∃ x, xs[i]? = some x := ⟨_, List.getElem?_eq_getElem (by rw [HLX.out]; exact hlt)⟩
        have hmem := List.mem_of_getElem? hx
        have hfx := HXF.out x hmem
        have htx := HXT.out x hmem
        obtain ⟨a, co, ck, rfl, hra, hck, ⟨y0, y1, y2, y3⟩, hex⟩ := HTW.out.bt.exprs.get hx
        have i1 : (i : Int) < (L : Int) := by omega
        have CK : Hid (Calls Try.prog 16 #[exV x co ck] wr fun e w' => e = .returned (.tuple #[.int .i64 (x.kd : Nat), .bool x.has]) ∧ Below wr.heap.size wr w') := Lib.hid (kindOf_any x co ck wr HTW.out.below hck hex hfx htx.1 htx.2)
        have CR : Hid (∀ W, Below wr.heap.size wr W → Calls Try.prog 17 #[.agg #[.slice (some a) L c0, .slice a1 L c1, .slice a2 L c2, .slice a3 L2 c3, .slice a4 L2 c4, .slice a5 L2 c5], .int .i64 i] W fun e w' => e = .returned (.bool x.rgt) ∧ Below W.heap.size W w') := Lib.hid fun W hW => by
          have h := HTW.out.next hW
          have := rtrightX_any (c0 := c0) (c1 := c1) (c2 := c2) (c3 := c3) (c4 := c4) (c5 := c5) W h.below h.bt H60.out hx hfx
          unfold treeV at this
          rw [HLX.out, HLT.out] at this
          exact this
        have CQ : Hid (x.rgt = true → ∀ W, Below wr.heap.size wr W → Calls Try.prog 18 #[exV x co ck] W fun e w' => e = .returned (.int .i64 (x.knd : Nat)) ∧ Below W.heap.size W w') := Lib.hid fun h W hW => rkind_any (B := wr.heap.size) HTW.out.below x co ck W hW.size (xrgt_blt h) hck (hex.stay (fun _ h => h) fun b hb => hW.block b (HTW.out.below b hb))
        have HKD : Hid (x.kd = if x.rgt = true then x.knd else 0) := Lib.hid rfl
        have HHS : Hid (x.has = decide (x.kd ≠ 0)) := Lib.hid rfl
        obtain ⟨xo, hxo⟩ : ∃ v, v = x.op := ⟨_, rfl⟩
        obtain ⟨xn, hxn⟩ : ∃ v, v = x.n := ⟨_, rfl⟩
        obtain ⟨xn2, hxs⟩ : ∃ v, v = x.nm := ⟨_, rfl⟩
        obtain ⟨m1, hm1⟩ : ∃ m, m = x.args.length := ⟨_, rfl⟩
        have hxe : exV x co ck = .agg #[.int .i64 xo, .int .i64 xn, .string xn2, .slice co m1 ck] := by rw [hm1, hxo, hxn, hxs]
        rw [hxe] at CK CQ
        rw [← hxo] at y0
        rw [← hxn] at y1
        rw [← hxs] at y2
        rw [← hm1] at y3
        have HCELL : Hid (∀ W, Below wr.heap.size wr W → (W.cell? (a.add (i * 4)) = some (.int .i64 xo) ∧ W.cell? ⟨(a.add (i * 4)).block, (a.add (i * 4)).off + 1, none⟩ = some (.int .i64 xn) ∧ W.cell? ⟨(a.add (i * 4)).block, (a.add (i * 4)).off + 2, none⟩ = some (.string xn2) ∧ W.cell? ⟨(a.add (i * 4)).block, (a.add (i * 4)).off + 3, none⟩ = some (.slice co m1 ck))) := Lib.hid fun W hW => by
          have ha : (a.add (i * 4)).block < wr.heap.size := by rw [add_block]; exact HTW.out.below _ hra
          exact ⟨(hW.cell (p := a.add (i * 4)) ha).trans y0, (hW.cell (p := ⟨(a.add (i * 4)).block, (a.add (i * 4)).off + 1, none⟩) ha).trans y1, (hW.cell (p := ⟨(a.add (i * 4)).block, (a.add (i * 4)).off + 2, none⟩) ha).trans y2, (hW.cell (p := ⟨(a.add (i * 4)).block, (a.add (i * 4)).off + 3, none⟩) ha).trans y3⟩
        obtain ⟨rg, hrgt⟩ : ∃ v, v = x.rgt := ⟨_, rfl⟩
        rw [← hrgt] at CR CQ HKD
        obtain ⟨kd, hkd⟩ : ∃ v, v = x.kd := ⟨_, rfl⟩
        obtain ⟨hs, hhs⟩ : ∃ v, v = x.has := ⟨_, rfl⟩
        obtain ⟨kn, hkn⟩ : ∃ v, v = x.knd := ⟨_, rfl⟩
        rw [← hkd, ← hhs] at CK
        rw [← hkd, ← hkn] at HKD
        rw [← hkd, ← hhs] at HHS
        rw [← hkn] at CQ
        clear hx hmem hfx htx hra hck hex hxo hxn hxs hm1 hxe hrgt hkd hhs hkn
        cases rg with
        | false =>
          obtain rfl : kd = 0 := by rw [HKD.out]; rfl
          obtain rfl : hs = false := by rw [HHS.out]; rfl
          have CK2 : Hid (Calls Try.prog 16 #[.agg #[.int .i64 xo, .int .i64 xn, .string xn2, .slice co m1 ck]] wr fun e w' => e = .returned (.tuple #[.int .i64 0, .bool false]) ∧ Below wr.heap.size wr w') := CK
          clear CK
          go_wp2_with (first | (go_at_call 16; (with_reducible refine CK2.out.mono ?_); rintro e w3 ⟨rfl, hb⟩; have HB3 := Lib.hid hb; clear hb t0 t1 t2 t3 t4 t5; obtain ⟨t0, t1, t2, t3, t4, t5⟩ := (HTW.out.next HB3.out).cells) | (go_at_call 17; (with_reducible refine (CR.out _ HB3.out).mono ?_); rintro e w4 ⟨rfl, hb⟩; have HB4 := Lib.hid (below_mono HB3.out hb (Nat.le_refl _)); clear hb))
          go_roundw
          case rel => exact ⟨i + 1, by omega, by go_num, Lib.hid (below_mono HW.out HB4.out (Nat.le_refl _))⟩
          case measure => simp [intOf]; omega
        | true =>
          obtain rfl : kd = kn := by rw [HKD.out]; rfl
          have CQ2 := Lib.hid (CQ.out rfl)
          clear CQ
          by_cases hk0 : kd = 0
          · subst hk0
            obtain rfl : hs = false := by rw [HHS.out]; rfl
            have CK2 : Hid (Calls Try.prog 16 #[.agg #[.int .i64 xo, .int .i64 xn, .string xn2, .slice co m1 ck]] wr fun e w' => e = .returned (.tuple #[.int .i64 0, .bool false]) ∧ Below wr.heap.size wr w') := CK
            have CQ3 : Hid (∀ W, Below wr.heap.size wr W → Calls Try.prog 18 #[.agg #[.int .i64 xo, .int .i64 xn, .string xn2, .slice co m1 ck]] W fun e w' => e = .returned (.int .i64 0) ∧ Below W.heap.size W w') := CQ2
            clear CK CQ2
            go_wp2_with (first | (go_at_call 16; (with_reducible refine CK2.out.mono ?_); rintro e w3 ⟨rfl, hb⟩; have HB3 := Lib.hid hb; clear hb t0 t1 t2 t3 t4 t5; obtain ⟨t0, t1, t2, t3, t4, t5⟩ := (HTW.out.next HB3.out).cells) | (go_at_call 17; (with_reducible refine (CR.out _ HB3.out).mono ?_); rintro e w4 ⟨rfl, hb⟩; have HB4 := Lib.hid (below_mono HB3.out hb (Nat.le_refl _)); clear hb t0 t1 t2 t3 t4 t5 y0 y1 y2 y3; obtain ⟨t0, t1, t2, t3, t4, t5⟩ := (HTW.out.next HB4.out).cells; obtain ⟨y0, y1, y2, y3⟩ := HCELL.out w4 HB4.out) | (go_at_call 18; (with_reducible refine (CQ3.out _ HB4.out).mono ?_); rintro e w5 ⟨rfl, hb⟩; have HB5 := Lib.hid (below_mono HB4.out hb (Nat.le_refl _)); clear hb))
            go_roundw
            case rel => exact ⟨i + 1, by omega, by go_num, Lib.hid (below_mono HW.out HB5.out (Nat.le_refl _))⟩
            case measure => simp [intOf]; omega
          · obtain rfl : hs = true := by rw [HHS.out]; simp [hk0]
            obtain ⟨K, hK⟩ : ∃ K : Int, K = (kd : Nat) := ⟨_, rfl⟩
            rw [← hK] at CK CQ2
            have hKp : 0 < K := by omega
            have hKK : (K == K) = true := by simp
            clear hk0 hK HKD HHS
            go_wp2_with (first | (go_at_call 16; (with_reducible refine CK.out.mono ?_); rintro e w3 ⟨rfl, hb⟩; have HB3 := Lib.hid hb; clear hb t0 t1 t2 t3 t4 t5; obtain ⟨t0, t1, t2, t3, t4, t5⟩ := (HTW.out.next HB3.out).cells) | (go_at_call 17; (with_reducible refine (CR.out _ HB3.out).mono ?_); rintro e w4 ⟨rfl, hb⟩; have HB4 := Lib.hid (below_mono HB3.out hb (Nat.le_refl _)); clear hb t0 t1 t2 t3 t4 t5 y0 y1 y2 y3; obtain ⟨t0, t1, t2, t3, t4, t5⟩ := (HTW.out.next HB4.out).cells; obtain ⟨y0, y1, y2, y3⟩ := HCELL.out w4 HB4.out) | (go_at_call 18; (with_reducible refine (CQ2.out _ HB4.out).mono ?_); rintro e w5 ⟨rfl, hb⟩; have HB5 := Lib.hid (below_mono HB4.out hb (Nat.le_refl _)); clear hb))
            go_roundw
            case rel => exact ⟨i + 1, by omega, by go_num, Lib.hid (below_mono HW.out HB5.out (Nat.le_refl _))⟩
            case measure => simp [intOf]; omega
      · have i1 : ¬ (i : Int) < (L : Int) := by omega
        have HBE := Lib.hid (HTW.out.bel)
        go_wp2_with (go_at_call 14; (with_reducible refine (CA.out _).mono ?_); rintro e W1 ⟨rfl, hB⟩; have HB := Lib.hid hB; clear hB)
        go_ret
        exact ⟨rfl, below_mono HBE.out HB.out (Nat.le_refl _)⟩
end Go.Proofs.Ytidldlhhmophjaa
