/- The law TermSimpler, walked. Conditions: those written at each theorem. -/
import Derived.Test.YtepoihokbcoidaaLTm3
import Derived.Test.YtepoihokbcoidaaTrq
namespace Go.Proofs.Ytepoihokbcoidaa
open Go.RowKit Go.PlainAid
set_option linter.unusedVariables false
set_option linter.unusedSimpArgs false
theorem below_undraw {a b c : World} (h : Below a.heap.size a b) (k : Below b.drew.heap.size b.drew c) : Below a.heap.size a c := below_mono h.drew k (Nat.le_refl _)
theorem smp_of {x : Tr} (h : x.rgt = true) : x.smp = x.sim := by unfold Tr.smp; rw [if_pos h]
set_option maxRecDepth 100000 in
set_option maxHeartbeats 16000000 in
theorem termSimpler_walk {ls : List Lf} {ks : List Kn} {ao co : Option Addr} {cap kap : Nat} (w : World) (hl : LfAt w.heap.size ao ls w) (hk : KnAt w.heap.size co ks w) (hfl : ∀ f ∈ ls, f.nm.size ≤ maxLen) (hfk : ∀ f ∈ ks, f.nm.size ≤ maxLen) :
    Calls Try.prog 4 #[.slice ao ls.length cap, .slice co ks.length kap] w fun e w' => e = .returned (.bool true) ∧ Below w.heap.size w w' := by
  have CA := Lib.hid awake_any
  by_cases hg : 60 < ls.length ∨ 60 < ks.length
  · have CG := Lib.hid (great_yes ls.length ks.length ao co cap kap hg)
    obtain ⟨n, hn⟩ : ∃ n, n = ls.length := ⟨_, rfl⟩
    obtain ⟨m, hm⟩ : ∃ n, n = ks.length := ⟨_, rfl⟩
    rw [← hn, ← hm] at CG ⊢
    clear hg hn hm hl hk hfl hfk
    go_enter Try.func4, Try.ntmps4
    go_wp2_with (first | (go_at_call 6; (with_reducible refine (CG.out _).mono ?_); rintro e w1 ⟨rfl, rfl⟩) | (go_at_call 7; (with_reducible refine (CA.out _).mono ?_); rintro e W1 ⟨rfl, hB⟩; have HB := Lib.hid hB; clear hB))
    go_ret
    exact ⟨rfl, HB.out⟩
  · have CG := Lib.hid (great_no ls.length ks.length ao co cap kap (by omega) (by omega))
    have CB := Lib.hid (rbuild_any (cap := cap) (kap := kap) w hl hk (by omega) (by omega))
    have hxl := bXs_len ls ls.length (Nat.le_refl _)
    have hxf := bXs_fit ls hfl ls.length (Nat.le_refl _)
    rw [List.take_length] at hxl hxf
    have htl := bTs_len (bXs ls) ks ks.length (Nat.le_refl _)
    have htf := bTs_fit (bXs ls) hxf ks hfk ks.length (Nat.le_refl _)
    rw [List.take_length] at htl htf
    obtain ⟨xs, hxs⟩ : ∃ xs, xs = bXs ls := ⟨_, rfl⟩
    rw [← hxs] at CB hxl hxf htl htf
    obtain ⟨ts, hts⟩ : ∃ ts, ts = bTs xs ks := ⟨_, rfl⟩
    rw [← hts] at CB htl htf
    obtain ⟨n, hn⟩ : ∃ n, n = ls.length := ⟨_, rfl⟩
    obtain ⟨m, hm⟩ : ∃ n, n = ks.length := ⟨_, rfl⟩
    rw [← hn, ← hm] at CG CB hg ⊢
    rw [← hn] at hxl
    rw [← hm] at htl
    obtain ⟨L, hL⟩ : ∃ L, L = xs.length := ⟨_, rfl⟩
    obtain ⟨L2, hL2⟩ : ∃ L, L = ts.length := ⟨_, rfl⟩
    have HLX := Lib.hid hL.symm
    have HLT := Lib.hid hL2.symm
    have HTF := Lib.hid htf
    have H60 : Hid (ts.length ≤ 60) := Lib.hid (by omega)
    clear hg hl hk hfl hfk hxl hxf htl htf hxs hts hn hm hL hL2
    go_enter Try.func4, Try.ntmps4
    go_wp2_with (go_at_call 6; (with_reducible refine (CG.out _).mono ?_); rintro e w ⟨rfl, rfl⟩)
    refine CB.out.mono ?_
    rintro e w1 ⟨R, a0, a1, a2, a3, a4, a5, c0, c1, c2, c3, c4, c5, he, hbt, hR, hcs, hb⟩
    obtain rfl : e = Ending.returned (.agg #[.slice a0 L c0, .slice a1 L c1, .slice a2 L c2, .slice a3 L2 c3, .slice a4 L2 c4, .slice a5 L2 c5]) := (by rw [he]; unfold treeV; rw [HLX.out, HLT.out])
    have CL : Hid (Calls Try.prog 13 #[.agg #[.slice a0 L c0, .slice a1 L c1, .slice a2 L c2, .slice a3 L2 c3, .slice a4 L2 c4, .slice a5 L2 c5]] w1 (LastP R ts w1)) := Lib.hid (by
      have := rlast_any (c0 := c0) (c1 := c1) (c2 := c2) (c3 := c3) (c4 := c4) (c5 := c5) w1 (fun b h => (hR b h).2) hbt H60.out HTF.out
      unfold treeV at this
      rw [HLX.out, HLT.out] at this
      exact this)
    have HR := Lib.hid fun b h => (hR b h).2
    have HB := Lib.hid hb
    clear he hbt hR hcs hb CB CG
    go_wp2_with fail
    refine CL.out.mono ?_
    rintro e w2 ⟨hm, hb2⟩
    have HB2 := Lib.hid hb2
    clear hb2 CL
    cases hla : lastT ts with
    | none =>
      rw [hla] at hm
      subst hm
      clear hla
      obtain ⟨⟨r0, r1, r2, r3⟩, p0, p1, p2, p3⟩ := new_zero w2 (.int .i64 0) (.string ⟨#[]⟩) (.slice none 0 0) (.slice none 0 0) 33
      have HBW := Lib.hid (below_mono HB.out HB2.out (Nat.le_refl _))
      go_upto_region 4 with fail
      clear r0 r1 r2 r3 p0 p1 p2 p3
      obtain ⟨W4, hW4⟩ : ∃ X, w2.alloc (.cells #[.int .i64 0, .string ⟨#[]⟩, .slice none 0 0, .slice none 0 0] 33) = X := ⟨_, rfl⟩
      obtain ⟨k4, _, _⟩ := four_made _ _ _ _ _ w2 W4 hW4
      rw [hW4]
      have HB4 := Lib.hid (below_mono HBW.out k4 (Nat.le_refl _))
      clear hW4 k4
      go_wp2_with (go_at_call 7; (with_reducible refine (CA.out _).mono ?_); rintro e W1 ⟨rfl, hB⟩; have HA := Lib.hid hB; clear hB)
      go_ret
      exact ⟨rfl, below_mono HB4.out HA.out (Nat.le_refl _)⟩
    | some x =>
      rw [hla] at hm
      obtain ⟨eo, ek, to', tk, he, hok⟩ := hm
      obtain ⟨hlx, hrg, _⟩ := lastT_some hla
      have hfx := HTF.out x (List.mem_of_getElem? hlx)
      have hcn : x.cnt ≤ 200 := by
        unfold Tr.rgt at hrg
        simp only [Bool.and_eq_true, decide_eq_true_eq] at hrg
        exact hrg.1.1
      obtain ⟨s, hs⟩ : ∃ s, s = x.sim := ⟨_, rfl⟩
      have hsr : s.rgt = true := by rw [hs]; exact sim_rgt hrg
      have hsf : s.fit := by rw [hs]; exact sim_fit x hfx
      have hsc : s.cnt ≤ x.cnt ∧ s.dep ≤ x.dep := by rw [hs]; exact sim_cnt x
      have hss : s.smp = s := by rw [smp_of hsr, hs, sim_sim]
      have hxm : x.smp = s := by rw [smp_of hrg, hs]
      have hco : ∀ u ∈ s.coin, u ∈ x.coin := by rw [hs]; exact coin_sub x
      have HCO := Lib.hid hco
      have HSC := Lib.hid hsc
      have hS2 : ∀ b, R b → b < w2.heap.size := fun b hb => Nat.lt_of_lt_of_le (HR.out b hb) HB2.out.size
      have HOK := Lib.hid hok
      have HS2 := Lib.hid hS2
      have CS : Hid (∀ W, Below w2.heap.size w2 W → Calls Try.prog 9 #[trV x eo ek to' tk] W (SimPost R W s)) := Lib.hid fun W hW => by
        have := tsimple_any x eo ek to' tk W (fun b hb => Nat.lt_of_lt_of_le (HS2.out b hb) hW.size) (HOK.out.next HS2.out hW) hfx (by omega)
        rw [hxm] at this
        exact this
      have CZ : Hid (∀ W, Below w2.heap.size w2 W → Calls Try.prog 14 #[trV x eo ek to' tk] W fun e w' => e = .returned (.tuple #[.int .i64 x.cnt, .int .i64 x.dep]) ∧ Below W.heap.size W w') := Lib.hid fun W hW => by
        have h := HOK.out.next HS2.out hW
        exact size_any x eo ek to' tk W (fun b hb => Nat.lt_of_lt_of_le (HS2.out b hb) hW.size) h.ec h.tc h.ex h.te (by omega)
      have CN : Hid (∀ W, Below w2.heap.size w2 W → Calls Try.prog 15 #[trV x eo ek to' tk] W (NamesP x W)) := Lib.hid fun W hW => names_any x eo ek to' tk W (fun b hb => Nat.lt_of_lt_of_le (HS2.out b hb) hW.size) (HOK.out.next HS2.out hW) hfx (by omega) hrg
      -- of s, wherever it lies
      have DR : Hid (∀ (S : Nat → Prop) (p : Option Addr) (pk : Nat) (q : Option Addr) (qk : Nat) (W : World), (∀ b, S b → b < W.heap.size) → TrOk S W s p pk q qk → Calls Try.prog 16 #[trV s p pk q qk] W fun e w' => e = .returned (.bool true) ∧ Below W.heap.size W w') := Lib.hid fun S p pk q qk W hS h => by
        have := right_any s p pk q qk W hS h hsf (by omega)
        rw [hsr] at this
        exact this
      have DS : Hid (∀ (S : Nat → Prop) (p : Option Addr) (pk : Nat) (q : Option Addr) (qk : Nat) (W : World), (∀ b, S b → b < W.heap.size) → TrOk S W s p pk q qk → Calls Try.prog 9 #[trV s p pk q qk] W (SimPost S W s)) := Lib.hid fun S p pk q qk W hS h => by
        have := tsimple_any s p pk q qk W hS h hsf (by omega)
        rw [hss] at this
        exact this
      have DZ : Hid (∀ (S : Nat → Prop) (p : Option Addr) (pk : Nat) (q : Option Addr) (qk : Nat) (W : World), (∀ b, S b → b < W.heap.size) → TrOk S W s p pk q qk → Calls Try.prog 14 #[trV s p pk q qk] W fun e w' => e = .returned (.tuple #[.int .i64 s.cnt, .int .i64 s.dep]) ∧ Below W.heap.size W w') := Lib.hid fun S p pk q qk W hS h => size_any s p pk q qk W hS h.ec h.tc h.ex h.te (by omega)
      have DN : Hid (∀ (S : Nat → Prop) (p : Option Addr) (pk : Nat) (q : Option Addr) (qk : Nat) (W : World), (∀ b, S b → b < W.heap.size) → TrOk S W s p pk q qk → Calls Try.prog 15 #[trV s p pk q qk] W (NamesP s W)) := Lib.hid fun S p pk q qk W hS h => names_any s p pk q qk W hS h hsf (by omega) hsr
      have DM : Hid (∀ (W : World) (p : Option Addr) (pk : Nat) (q : Option Addr) (qk : Nat) (p' : Option Addr) (pk' : Nat) (q' : Option Addr) (qk' : Nat), TrOk (fun b => b < W.heap.size) W s p pk q qk → TrOk (fun b => b < W.heap.size) W s p' pk' q' qk' → Calls Try.prog 17 #[trV s p pk q qk, trV s p' pk' q' qk'] W fun e w' => e = .returned (.bool true) ∧ Below W.heap.size W w') := Lib.hid fun W p pk q qk p' pk' q' qk' h1 h2 => tsame_any (S := fun b => b < W.heap.size) (B := W.heap.size) (fun _ h => h) s p pk q qk p' pk' q' qk' W (Nat.le_refl _) (by omega) h1 h2
      obtain ⟨xo, hxo⟩ : ∃ v, v = x.op := ⟨_, rfl⟩
      obtain ⟨xn, hxn⟩ : ∃ v, v = x.nm := ⟨_, rfl⟩
      obtain ⟨m1, hm1⟩ : ∃ m, m = x.exprs.length := ⟨_, rfl⟩
      obtain ⟨m2, hm2⟩ : ∃ m, m = x.terms.length := ⟨_, rfl⟩
      have hxe : trV x eo ek to' tk = .agg #[.int .i64 xo, .string xn, .slice eo m1 ek, .slice to' m2 tk] := by rw [hm1, hm2, hxo, hxn]
      rw [hxe] at he CS CZ CN
      subst he
      obtain ⟨so, hso⟩ : ∃ v, v = s.op := ⟨_, rfl⟩
      obtain ⟨sn, hsn⟩ : ∃ v, v = s.nm := ⟨_, rfl⟩
      obtain ⟨se, hse⟩ : ∃ v, v = s.exprs.length := ⟨_, rfl⟩
      obtain ⟨st, hst⟩ : ∃ v, v = s.terms.length := ⟨_, rfl⟩
      have HSV : Hid (∀ p pk q qk, trV s p pk q qk = .agg #[.int .i64 so, .string sn, .slice p se pk, .slice q st qk]) := Lib.hid fun p pk q qk => by rw [hso, hsn, hse, hst]
      obtain ⟨xc, hxc⟩ : ∃ v, v = x.cnt := ⟨_, rfl⟩
      obtain ⟨xd, hxd⟩ : ∃ v, v = x.dep := ⟨_, rfl⟩
      obtain ⟨sc, hsc1⟩ : ∃ v, v = s.cnt := ⟨_, rfl⟩
      obtain ⟨sd, hsd1⟩ : ∃ v, v = s.dep := ⟨_, rfl⟩
      rw [← hxc, ← hxd] at CZ HSC
      rw [← hsc1, ← hsd1] at DZ HSC
      have HBW := Lib.hid (below_mono HB.out HB2.out (Nat.le_refl _))
      clear hla hok hlx hrg hfx hcn hs hsr hsf hsc hss hxm hco hS2 hxo hxn hm1 hm2 hxe hso hsn hse hst hxc hxd hsc1 hsd1
      obtain ⟨⟨r0, r1, r2, r3⟩, p0, p1, p2, p3⟩ := new_zero w2 (.int .i64 0) (.string ⟨#[]⟩) (.slice none 0 0) (.slice none 0 0) 33
      go_upto_region 6 with fail
      clear r0 r1 r2 r3 p0 p1 p2 p3
      obtain ⟨W4, hW4⟩ : ∃ X, w2.alloc (.cells #[.int .i64 xo, .string xn, .slice eo m1 ek, .slice to' m2 tk] 33) = X := ⟨_, rfl⟩
      obtain ⟨k4, b4, s4⟩ := four_made _ _ _ _ _ w2 W4 hW4
      obtain ⟨z5, hz5⟩ : ∃ z, z = w2.heap.size := ⟨_, rfl⟩
      rw [hW4, ← hz5]
      rw [← hz5] at b4
      have HK4 := Lib.hid k4
      have HX5 := Lib.hid b4
      obtain ⟨g0, g1, g2, g3⟩ := quad b4
      clear hW4 k4 b4 s4 hz5
      go_upto_region 7 with (go_at_call 9; (with_reducible refine (CS.out _ HK4.out).mono ?_); rintro e w5 ⟨⟨eo3, ek3, tb3, tk3, he, hok⟩, hb⟩; rw [HSV.out] at he; subst he; have HO5 := Lib.hid hok; have HB5 := Lib.hid hb; clear hok hb; obtain ⟨⟨r0, r1, r2, r3⟩, p0, p1, p2, p3⟩ := new_zero w5 (.int .i64 0) (.string ⟨#[]⟩) (.slice none 0 0) (.slice none 0 0) 33)
      clear r0 r1 r2 r3 p0 p1 p2 p3 g0 g1 g2 g3
      obtain ⟨W6, hW6⟩ : ∃ X, w5.alloc (.cells #[.int .i64 so, .string sn, .slice eo3 se ek3, .slice tb3 st tk3] 33) = X := ⟨_, rfl⟩
      obtain ⟨k6, b6, s6⟩ := four_made _ _ _ _ _ w5 W6 hW6
      obtain ⟨z7, hz7⟩ : ∃ z, z = w5.heap.size := ⟨_, rfl⟩
      rw [hW6, ← hz7]
      rw [← hz7] at b6
      have HX7 := Lib.hid b6
      have HX56 : Hid (W6.heap[z5]? = _) := Lib.hid ((k6.block z5 (by have := lt_of_heap HX5.out; have := HB5.out.size; omega)).trans ((HB5.out.block z5 (lt_of_heap HX5.out)).trans HX5.out))
      have HW6 := Lib.hid (below_mono (below_mono HK4.out HB5.out (Nat.le_refl _)) k6 (Nat.le_refl _))
      have HSS : Hid (∀ b, (R b ∨ (W4.heap.size ≤ b ∧ b < w5.heap.size)) → b < W6.heap.size) := Lib.hid fun b hb => by
        have h1 := k6.size
        rcases hb with h | h
        · have h2 := HS2.out b h; have h3 := HW6.out.size; omega
        · omega
      have HO6 := Lib.hid (HO5.out.stay (fun _ h => h) fun b hb => k6.block b (by
        rcases hb with h | h
        · have h2 := HS2.out b h; have h3 := HK4.out.size; have h4 := HB5.out.size; omega
        · exact h.2))
      obtain ⟨Q, hQ⟩ : ∃ Q, Q = (fun b => R b ∨ (W4.heap.size ≤ b ∧ b < w5.heap.size)) := ⟨_, rfl⟩
      rw [← hQ] at HO6
      have HSQ : Hid (∀ b, Q b → b < W6.heap.size) := by rw [hQ]; exact HSS
      have KC : Hid (∀ W, Below W6.heap.size W6 W → W.heap[z5]? = some (.cells #[.int .i64 xo, .string xn, .slice eo m1 ek, .slice to' m2 tk] 33 (0, 0)) ∧ W.heap[z7]? = some (.cells #[.int .i64 so, .string sn, .slice eo3 se ek3, .slice tb3 st tk3] 33 (0, 0)) ∧ TrOk Q W s eo3 ek3 tb3 tk3 ∧ (∀ b, Q b → b < W.heap.size) ∧ Below w2.heap.size w2 W) := Lib.hid fun W hW => ⟨(hW.block z5 (lt_of_heap HX56.out)).trans HX56.out, (hW.block z7 (lt_of_heap HX7.out)).trans HX7.out, HO6.out.next HSQ.out hW, fun b hb => Nat.lt_of_lt_of_le (HSQ.out b hb) hW.size, below_mono HW6.out hW (Nat.le_refl _)⟩
      have HBL : Hid (Below w.heap.size w W6) := Lib.hid (below_mono HBW.out HW6.out (Nat.le_refl _))
      obtain ⟨g0, g1, g2, g3⟩ := quad HX56.out
      have HB := Lib.hid (Below.refl W6.heap.size W6)
      clear hW6 k6 b6 s6 hz7 HSS HO5 hQ CS
      go_upto_region 8 with (go_at_call 14; (with_reducible refine (CZ.out _ (KC.out _ HB.out).2.2.2.2).mono ?_); rintro e w7 ⟨rfl, hb⟩; have HB := Lib.hid (below_mono HB.out hb (Nat.le_refl _)); clear hb g0 g1 g2 g3)
      obtain ⟨g0, g1, g2, g3⟩ := quad (KC.out _ HB.out).2.1
      have DZ1 := DZ.out Q eo3 ek3 tb3 tk3 w7 (KC.out _ HB.out).2.2.2.1 (KC.out _ HB.out).2.2.1
      rw [HSV.out] at DZ1
      have DZ2 := Lib.hid DZ1
      clear DZ1
      go_upto_region 9 with (go_at_call 14; (with_reducible refine DZ2.out.mono ?_); rintro e w8 ⟨rfl, hb⟩; have HB := Lib.hid (below_mono HB.out hb (Nat.le_refl _)); clear hb g0 g1 g2 g3)
      obtain ⟨g0, g1, g2, g3⟩ := quad (KC.out _ HB.out).1
      go_upto_region 10 with (go_at_call 15; (with_reducible refine (CN.out _ (KC.out _ HB.out).2.2.2.2).mono ?_); rintro e w9 ⟨⟨n1, n2, nn, nc, mn, mc, D1, rfl, hd1, hd2, hd3, hd4⟩, hb⟩; have HD1 := Lib.hid (And.intro hd1 (And.intro hd2 (And.intro hd3 hd4))); have HB := Lib.hid (below_mono HB.out hb (Nat.le_refl _)); clear hb g0 g1 g2 g3 hd1 hd2 hd3 hd4)
      obtain ⟨g0, g1, g2, g3⟩ := quad (KC.out _ HB.out).2.1
      have DN1 := DN.out Q eo3 ek3 tb3 tk3 w9 (KC.out _ HB.out).2.2.2.1 (KC.out _ HB.out).2.2.1
      rw [HSV.out] at DN1
      have DN2 := Lib.hid DN1
      clear DN1
      go_upto_region 11 with (go_at_call 15; (with_reducible refine DN2.out.mono ?_); rintro e w10 ⟨⟨v1, v2, vn, vc, un, uc, D2, rfl, hd1, hd2, hd3, hd4⟩, hb⟩; have HD2 := Lib.hid (And.intro hd1 (And.intro hd2 (And.intro hd3 hd4))); have HB := Lib.hid (below_mono HB.out hb (Nat.le_refl _)); clear hb g0 g1 g2 g3 hd1 hd2 hd3 hd4)
      have hsz : vn ≤ nn := by
        have h1 := HD1.out
        have h2 := HD2.out
        rw [h1.1, h2.1]
        refine size_le h2.2.2.1 h1.2.2.1 fun k hk => ?_
        obtain ⟨u, hu, rfl⟩ := (h2.2.2.2 k).1 hk
        exact (h1.2.2.2 _).2 ⟨u, HCO.out u hu, rfl⟩
      have i1 : (vn : Int) ≤ (nn : Int) := by omega
      have i2 : (sc : Int) ≤ (xc : Int) := by have := HSC.out; omega
      have i3 : (sd : Int) ≤ (xd : Int) := by have := HSC.out; omega
      clear hsz DN2 DZ2
      obtain ⟨g0, g1, g2, g3⟩ := quad (KC.out _ HB.out).2.1
      have CR2 : Hid (∀ W, Below W6.heap.size W6 W → Calls Try.prog 16 #[.agg #[.int .i64 so, .string sn, .slice eo3 se ek3, .slice tb3 st tk3]] W fun e w' => e = .returned (.bool true) ∧ Below W.heap.size W w') := Lib.hid fun W hW => by
        have := DR.out Q eo3 ek3 tb3 tk3 W (KC.out _ hW).2.2.2.1 (KC.out _ hW).2.2.1
        rw [HSV.out] at this
        exact this
      have CS2 : Hid (∀ W, Below W6.heap.size W6 W → Calls Try.prog 9 #[.agg #[.int .i64 so, .string sn, .slice eo3 se ek3, .slice tb3 st tk3]] W fun e w' => ∃ eo8 ek8 tb8 tk8, e = .returned (.agg #[.int .i64 so, .string sn, .slice eo8 se ek8, .slice tb8 st tk8]) ∧ Below W.heap.size W w' ∧ Hid (Calls Try.prog 17 #[.agg #[.int .i64 so, .string sn, .slice eo8 se ek8, .slice tb8 st tk8], .agg #[.int .i64 so, .string sn, .slice eo3 se ek3, .slice tb3 st tk3]] w' fun e w'' => e = .returned (.bool true) ∧ Below w'.heap.size w' w'')) := Lib.hid fun W hW => by
        have := DS.out Q eo3 ek3 tb3 tk3 W (KC.out _ hW).2.2.2.1 (KC.out _ hW).2.2.1
        rw [HSV.out] at this
        refine this.mono ?_
        rintro e w' ⟨⟨eo8, ek8, tb8, tk8, he, hok⟩, hb⟩
        rw [HSV.out] at he
        refine ⟨eo8, ek8, tb8, tk8, he, hb, Lib.hid ?_⟩
        have hq := (KC.out _ hW).2.2.2.1
        have h1 : TrOk (fun b => b < w'.heap.size) w' s eo8 ek8 tb8 tk8 := hok.stay (fun b h => by
          show b < w'.heap.size
          rcases h with h | h
          · exact Nat.lt_of_lt_of_le (hq b h) hb.size
          · exact h.2) (fun _ _ => rfl)
        have h2 : TrOk (fun b => b < w'.heap.size) w' s eo3 ek3 tb3 tk3 := (KC.out _ hW).2.2.1.stay (fun b h => Nat.lt_of_lt_of_le (hq b h) hb.size) (fun b h => hb.block b (hq b h))
        have := DM.out w' eo8 ek8 tb8 tk8 eo3 ek3 tb3 tk3 h1 h2
        rw [HSV.out, HSV.out] at this
        exact this
      have HCC : Hid (∀ W, Below W6.heap.size W6 W → W.cell? ⟨z7, 0, none⟩ = some (.int .i64 so) ∧ W.cell? ⟨z7, 1, none⟩ = some (.string sn) ∧ W.cell? ⟨z7, 2, none⟩ = some (.slice eo3 se ek3) ∧ W.cell? ⟨z7, 3, none⟩ = some (.slice tb3 st tk3)) := Lib.hid fun W hW => quad (KC.out _ hW).2.1
      clear DR DS DZ DN DM CN CZ KC HD1 HD2 HCO HSC HSV HX7 HX56 HO6 HSQ HX5 HK4 HS2 HOK HR HTF H60 HLX HLT
      go_region_held3 (fun w' => w'.cell? ⟨z7, 0, none⟩ = some (.int .i64 so) ∧ w'.cell? ⟨z7, 1, none⟩ = some (.string sn) ∧ w'.cell? ⟨z7, 2, none⟩ = some (.slice eo3 se ek3) ∧ w'.cell? ⟨z7, 3, none⟩ = some (.slice tb3 st tk3))
        (first | exact HCC.out _ HB.out | exact HCC.out _ HB.out.drew | (go_keep; done))
        (first
          | (go_at_call 16; (first | (with_reducible refine (CR2.out _ HB.out).mono ?_) | (with_reducible refine (CR2.out _ HB.out.drew).mono ?_)); rintro e w11 ⟨rfl, hb⟩; have HB := Lib.hid (below_undraw HB.out hb); clear hb)
          | (go_at_call 9; (with_reducible refine (CS2.out _ HB.out).mono ?_); rintro e w12 ⟨eo8, ek8, tb8, tk8, rfl, hb, hsm⟩; have CM2 := hsm; have HB := Lib.hid (below_mono HB.out hb (Nat.le_refl _)); clear hb hsm)
          | (go_at_call 17; (with_reducible refine CM2.out.mono ?_); rintro e w13 ⟨rfl, hb⟩; have HB := Lib.hid (below_mono HB.out hb (Nat.le_refl _)); clear hb)
          | (go_at_call 7; (with_reducible refine (CA.out _).mono ?_); rintro e w14 ⟨rfl, hb⟩; have HB := Lib.hid (below_mono HB.out hb (Nat.le_refl _)); clear hb))
      all_goals
        go_wp2_with fail
        go_ret
        exact ⟨rfl, below_mono HBL.out HB.out (Nat.le_refl _)⟩
end Go.Proofs.Ytepoihokbcoidaa
