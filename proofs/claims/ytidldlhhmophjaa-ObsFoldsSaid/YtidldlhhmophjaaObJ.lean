/- The law ObsFolds, walked. Conditions: those written at each theorem. -/
import Derived.Test.YtidldlhhmophjaaObQ
namespace Go.Proofs.Ytidldlhhmophjaa
open Go.RowKit Go.PlainAid Go.Sort
set_option linter.unusedVariables false
set_option linter.unusedSimpArgs false
set_option maxRecDepth 100000 in
set_option maxHeartbeats 8000000 in
theorem obsFolds_walk {ls : List Lf} {ao : Option Addr} {cap : Nat} {R : Nat → Prop} {fo : Option Addr} {F : List Fx} {fc : Nat} (day : Int) (w : World) (hl : LfAt w.heap.size ao ls w) (hfl : ∀ f ∈ ls, f.nm.size ≤ maxLen) (hfr : ∀ f ∈ ls, InR f.n) (hd : InR day) (hF : FxIn F) (hfx : FxA R fo F w) (hR : ∀ b, R b → b < w.heap.size) :
    Calls Try.prog 12 #[.slice ao ls.length cap, .agg #[.int .i64 day, .slice fo F.length fc]] w fun e w' => e = .returned (.bool true) ∧ Below w.heap.size w w' := by
  have CA : Hid (∀ W, Calls Try.prog 34 #[] W fun e w' => e = .returned (.bool true) ∧ Below W.heap.size W w') := Lib.hid awake_any
  have GA := Lib.hid (two_made (.int .i64 day) (.slice fo F.length fc) 58 w)
  by_cases hg : 60 < ls.length ∨ 60 < F.length
  · have CG := Lib.hid (great22_yes ls.length F.length ao fo cap fc day hg)
    obtain ⟨n, hn⟩ : ∃ n, n = ls.length := ⟨_, rfl⟩
    obtain ⟨m, hm⟩ : ∃ n, n = F.length := ⟨_, rfl⟩
    rw [← hn, ← hm] at CG ⊢
    rw [← hm] at GA
    clear hg hn hm hl hfl hfr hd hF hfx hR
    go_enter Try.func12, Try.ntmps12
    go_upto_region 1 with fail
    obtain ⟨W, hW⟩ : ∃ X, w.alloc (.cells #[.int .i64 day, .slice fo m fc] 58) = X := ⟨_, rfl⟩
    obtain ⟨g1, b1, _⟩ := GA.out W hW
    obtain ⟨e0, e1⟩ := duo b1
    rw [hW]
    have HG1 := Lib.hid g1
    clear g1 b1 hW GA
    go_wp2_with (first | (go_at_call 38; (with_reducible refine (CG.out _).mono ?_); rintro e w1 ⟨rfl, hB⟩; have HB1 := Lib.hid hB; clear hB) | (go_at_call 34; (with_reducible refine (CA.out _).mono ?_); rintro e W1 ⟨rfl, hB⟩; have HB := Lib.hid hB; clear hB))
    go_ret
    exact ⟨rfl, below_mono (below_mono HG1.out HB1.out (Nat.le_refl _)) HB.out (Nat.le_refl _)⟩
  · have CG := Lib.hid (great22_no ls.length F.length ao fo cap fc day (by omega) (by omega))
    have CL : Hid (∀ W, Below w.heap.size w W → Calls Try.prog 45 #[.slice ao ls.length cap] W (LastP W (bXs ls))) := Lib.hid fun W hW => last_any (cap := cap) W ((hl.under hW).wide hW.size) hfl (by omega)
    have CE : Hid (∀ W, Below w.heap.size w W → Calls Try.prog 36 #[.agg #[.int .i64 day, .slice fo F.length fc]] W fun e w' => (∃ a c, e = .returned (.agg #[.int .i64 day, .slice a F.length c]) ∧ FxA (fun b => W.heap.size ≤ b ∧ b < w'.heap.size) a F w') ∧ Below W.heap.size W w') := Lib.hid fun W hW => env_any (cap := fc) day W (hfx.stay (fun _ h => h) fun b hb => hW.block b (hR b hb)) (by omega) (fun b hb => Nat.lt_of_lt_of_le (hR b hb) hW.size)
    have CV : Hid (∀ (x : Xp), x.rgt = true → x.rng → x.fit → x.thin → x.dep ≤ 900 → ∀ V bo k a c, x.args.length ≤ k → ExL (fun b => b < V.heap.size) V x.args bo → FxA (fun b => b < V.heap.size) a F V → Calls Try.prog 41 #[exV x bo k, .agg #[.int .i64 day, .slice a F.length c]] V fun e w' => e = .returned (vlV (x.evl (fun s => seenF day s F) day)) ∧ Below V.heap.size V w') := Lib.hid fun x hr hg hf ht hde V bo k a c hk hx hfx => evalOf_any (S := fun b => b < V.heap.size) (R := fun b => b < V.heap.size) (P := pWork) x bo k V (fun _ h => h) (fun _ h => h) worked_any (by omega) hk hx hf ht hde (fun _ => wok_in hd (fun s f h => seen_in hF day s f h) x hg) hfx
    have hxf := bXs_fit ls hfl ls.length (Nat.le_refl _)
    have hxt := bXs_thin ls ls.length (Nat.le_refl _)
    have hxr := bXs_rng2 ls hfr ls.length (Nat.le_refl _)
    rw [List.take_length] at hxf hxt hxr
    obtain ⟨xs, hxs⟩ : ∃ xs, xs = bXs ls := ⟨_, rfl⟩
    rw [← hxs] at CL hxf hxt hxr
    have HXR := Lib.hid hxr
    have HXF := Lib.hid hxf
    have HXT : Hid (∀ x ∈ xs, x.thin ∧ x.dep ≤ 900) := Lib.hid fun x hx => ⟨(hxt x hx).1, by have := (hxt x hx).2; omega⟩
    obtain ⟨n, hn⟩ : ∃ n, n = ls.length := ⟨_, rfl⟩
    obtain ⟨m, hm⟩ : ∃ n, n = F.length := ⟨_, rfl⟩
    rw [← hn] at CG CL ⊢
    rw [← hm] at CG CE CV GA ⊢
    clear hg hn hm hl hfl hfr hd hF hfx hR hxf hxt hxr hxs
    go_enter Try.func12, Try.ntmps12
    go_upto_region 1 with fail
    obtain ⟨z, hz⟩ : ∃ z, z = w.heap.size := ⟨_, rfl⟩
    obtain ⟨W, hW⟩ : ∃ X, w.alloc (.cells #[.int .i64 day, .slice fo m fc] 58) = X := ⟨_, rfl⟩
    obtain ⟨g1, b1, s1⟩ := GA.out W hW
    rw [hW, ← hz]
    rw [← hz] at b1
    obtain ⟨e0, e1⟩ := duo b1
    have HG1 := Lib.hid g1
    have HB1 := Lib.hid b1
    have HZ := Lib.hid hz
    clear g1 b1 s1 hW GA hz
    go_upto_region 3 with (go_at_call 38; (with_reducible refine (CG.out _).mono ?_); rintro e w1 ⟨rfl, hB⟩; have HB2 := Lib.hid (below_mono HG1.out hB (Nat.le_refl _)); have HX2 := Lib.hid ((hB.block z (lt_of_heap HB1.out)).trans HB1.out); clear hB e0 e1)
    have CL2 := Lib.hid (CL.out _ HB2.out)
    clear CL CG
    go_upto_region 4 with (go_at_call 45; (with_reducible refine CL2.out.mono ?_); rintro e w3 hP; obtain ⟨hb, hcase⟩ := LastP.parts hP; clear hP; have HB3 := Lib.hid (below_mono HB2.out hb (Nat.le_refl _)); have HX3 := Lib.hid ((hb.block z (lt_of_heap HX2.out)).trans HX2.out); clear hb; obtain ⟨⟨r0, r1, r2, r3⟩, p0, p1, p2, p3⟩ := new_zero w3 (.int .i64 0) (.int .i64 0) (.string ⟨#[]⟩) (.slice none 0 0) 34; rcases hcase with ⟨x, co, ck, xo, xn, nm, m1, hh, rfl⟩ | rfl)
    · skip
      clear r0 r1 r2 r3 p0 p1 p2 p3
      obtain ⟨hmem, hrg, hkn, hxe, hck, hex⟩ := hh
      have hrx := HXR.out x hmem
      have hfx := HXF.out x hmem
      have htx := HXT.out x hmem
      have hxl : ∀ V, Below w3.heap.size w3 V → ExL (fun b => b < V.heap.size) V x.args co := fun V hV => hex.stay (fun b hb => Nat.lt_of_lt_of_le hb.2 hV.size) fun b hb => hV.block b hb.2
      have CF : Hid (∀ V, Below w3.heap.size w3 V → Calls Try.prog 26 #[.agg #[.int .i64 xo, .int .i64 xn, .string nm, .slice co m1 ck]] V (FoPost (fun b => b < V.heap.size) V x.fo)) := Lib.hid fun V hV => by
        have := foldOf_any (S := fun b => b < V.heap.size) value_any x co ck V (fun _ h => h) hck (hxl V hV) hfx htx.1 htx.2 (fun h => (fo_kept x (xrgt_blt h) hrx).2)
        rw [show x.fol = x.fo from by unfold Xp.fol; rw [if_pos hrg], hxe] at this
        exact this
      have hkept := (fo_kept x (xrgt_blt hrg) hrx).1
      have hfr := fo_rgt hrg hrx
      obtain ⟨⟨jr, jn, jt⟩, hRES⟩ : ∃ v, v = x.evl (fun s => seenF day s F) day := ⟨_, rfl⟩
      have hfe : x.fo.evl (fun s => seenF day s F) day = ⟨jr, jn, jt⟩ := by
        rw [hRES]
        unfold Xp.evl Xp.has
        rw [knd_kd hrg, knd_kd hfr, hkept.knd, fo_ev _ _ x (xrgt_blt hrg) hrx]
      have CV1 : Hid (∀ V, Below w3.heap.size w3 V → ∀ a c, FxA (fun b => b < V.heap.size) a F V → Calls Try.prog 41 #[.agg #[.int .i64 xo, .int .i64 xn, .string nm, .slice co m1 ck], .agg #[.int .i64 day, .slice a m c]] V fun e w' => e = .returned (.agg #[.int .i64 jr, .int .i64 jn, .bool jt]) ∧ Below V.heap.size V w') := Lib.hid fun V hV a c hfa => by
        have := CV.out x hrg hrx hfx htx.1 htx.2 V co ck a c hck (hxl V hV) hfa
        rw [hxe, ← hRES] at this
        exact this
      obtain ⟨sy, hsy⟩ : ∃ v, v = x.fo := ⟨_, rfl⟩
      rw [← hsy] at CF hfe hfr hkept
      obtain ⟨so, hso⟩ : ∃ v, v = sy.op := ⟨_, rfl⟩
      obtain ⟨sn, hsn⟩ : ∃ v, v = sy.n := ⟨_, rfl⟩
      obtain ⟨ss, hss⟩ : ∃ v, v = sy.nm := ⟨_, rfl⟩
      obtain ⟨sm, hsm⟩ : ∃ v, v = sy.args.length := ⟨_, rfl⟩
      have HSY : Hid (∀ bo k, exV sy bo k = .agg #[.int .i64 so, .int .i64 sn, .string ss, .slice bo sm k]) := Lib.hid fun bo k => by rw [hso, hsn, hss, hsm]
      have CV2 : Hid (∀ V bo k, sy.args.length ≤ k → ExL (fun b => b < V.heap.size) V sy.args bo → ∀ a c, FxA (fun b => b < V.heap.size) a F V → Calls Try.prog 41 #[.agg #[.int .i64 so, .int .i64 sn, .string ss, .slice bo sm k], .agg #[.int .i64 day, .slice a m c]] V fun e w' => e = .returned (.agg #[.int .i64 jr, .int .i64 jn, .bool jt]) ∧ Below V.heap.size V w') := Lib.hid fun V bo k hk he a c hfa => by
        have := CV.out sy hfr hkept.rng (hkept.fit hfx) (hkept.thin htx.1) (by have := hkept.dep; have := htx.2; omega) V bo k a c hk he hfa
        rw [HSY.out, hfe] at this
        exact this
      have hEQ : ∀ V, (Op.equalIn 10000 73 (.agg #[.int .i64 jr, .int .i64 jn, .bool jt]) (.agg #[.int .i64 jr, .int .i64 jn, .bool jt])).run Try.prog V = .ok true V := fun V => by rw [eq_vl]; simp
      clear hmem hrg hkn hxe hck hex hrx hfx htx hxl hkept hfr hRES hfe hsy hso hsn hss hsm CV CL2
      obtain ⟨W0, hW0⟩ : ∃ X, w3.alloc (.cells #[.int .i64 xo, .int .i64 xn, .string nm, .slice co m1 ck] 34) = X := ⟨_, rfl⟩
      obtain ⟨g0, b0, s0⟩ := cells_made _ _ _ W0 hW0
      obtain ⟨z5, hz5⟩ : ∃ y, y = w3.heap.size := ⟨_, rfl⟩
      rw [hW0, ← hz5]
      rw [← hz5] at b0
      have HG0 : Hid (Below w3.heap.size w3 W0 ∧ Below w.heap.size w W0) := Lib.hid ⟨g0, below_mono HB3.out g0 (Nat.le_refl _)⟩
      have HBOX : Hid (∀ V, Below W0.heap.size W0 V → (V.cell? ⟨z5, 0, none⟩ = some (.int .i64 xo) ∧ V.cell? ⟨z5, 1, none⟩ = some (.int .i64 xn) ∧ V.cell? ⟨z5, 2, none⟩ = some (.string nm) ∧ V.cell? ⟨z5, 3, none⟩ = some (.slice co m1 ck)) ∧ (V.cell? ⟨z, 0, none⟩ = some (.int .i64 day) ∧ V.cell? ⟨z, 1, none⟩ = some (.slice fo m fc))) := Lib.hid fun V hV => by
        have hx : W0.heap[z]? = some (.cells #[.int .i64 day, .slice fo m fc] 58 (0, 0)) := (g0.block z (lt_of_heap HX3.out)).trans HX3.out
        exact ⟨quad ((hV.block z5 (lt_of_heap b0)).trans b0), duo ((hV.block z (lt_of_heap hx)).trans hx)⟩
      clear g0 b0 s0 hW0 hz5
      go_upto_region 6 with fail
      have HBD : Hid (Below W0.heap.size W0 W0.drew) := Lib.hid (Below.refl W0.heap.size W0).drew
      go_region_held3 (fun w' => (w'.cell? ⟨z5, 0, none⟩ = some (.int .i64 xo) ∧ w'.cell? ⟨z5, 1, none⟩ = some (.int .i64 xn) ∧ w'.cell? ⟨z5, 2, none⟩ = some (.string nm) ∧ w'.cell? ⟨z5, 3, none⟩ = some (.slice co m1 ck)) ∧ (w'.cell? ⟨z, 0, none⟩ = some (.int .i64 day) ∧ w'.cell? ⟨z, 1, none⟩ = some (.slice fo m fc)))
        (first | exact HBOX.out _ HB15.out | exact HBOX.out _ HB14.out | exact HBOX.out _ HB13.out | exact HBOX.out _ HB12.out | exact HBOX.out _ HB11.out | exact HBOX.out _ HB10.out | exact HBOX.out _ HBD.out)
        (first
          | (go_at_call 26; (with_reducible refine (CF.out _ (below_mono HG0.out.1 HBD.out (Nat.le_refl _))).mono ?_); rintro e w10 ⟨⟨bo3, k3, he, hk3, hx3⟩, hb⟩; rw [HSY.out] at he; subst he; have HB10 := Lib.hid (below_mono HBD.out hb (Nat.le_refl _)); have HO3 := Lib.hid (And.intro hk3 (And.intro hx3 hb.size)); clear hb hk3 hx3)
          | (go_at_call 36; (with_reducible refine (CE.out _ (below_mono HG0.out.2 HB12.out (Nat.le_refl _))).mono ?_); rintro e w13 ⟨⟨a2, c2, rfl, hf2⟩, hb⟩; have HB13 := Lib.hid (below_mono HB12.out hb (Nat.le_refl _)); have HF2 := Lib.hid hf2; clear hb hf2)
          | (go_at_call 36; (with_reducible refine (CE.out _ (below_mono HG0.out.2 HB10.out (Nat.le_refl _))).mono ?_); rintro e w11 ⟨⟨a1, c1, rfl, hf1⟩, hb⟩; have HB11 := Lib.hid (below_mono HB10.out hb (Nat.le_refl _)); have HF1 := Lib.hid hf1; have HO4 := Lib.hid (And.intro HO3.out.1 (HO3.out.2.1.stay (T := fun b => b < w11.heap.size) (fun b hb' => by have := HO3.out.2.2; have := hb.size; rcases hb' with h | h <;> omega) fun b hb' => hb.block b (by have := HO3.out.2.2; rcases hb' with h | h <;> omega))); clear hb hf1)
          | (go_at_call 41; (with_reducible refine (CV1.out _ (below_mono HG0.out.1 HB13.out (Nat.le_refl _)) _ _ (HF2.out.stay (fun _ h => h.2) fun _ _ => rfl)).mono ?_); rintro e w14 ⟨rfl, hb⟩; have HB14 := Lib.hid (below_mono HB13.out hb (Nat.le_refl _)); clear hb)
          | (go_at_call 41; (with_reducible refine (CV2.out _ _ _ HO4.out.1 HO4.out.2 _ _ (HF1.out.stay (fun _ h => h.2) fun _ _ => rfl)).mono ?_); rintro e w12 ⟨rfl, hb⟩; have HB12 := Lib.hid (below_mono HB11.out hb (Nat.le_refl _)); clear hb)
          | (go_at_call 34; (with_reducible refine (CA.out _).mono ?_); rintro e w15 ⟨rfl, hb⟩; have HB15 := Lib.hid (below_mono HB14.out hb (Nat.le_refl _)); clear hb))
      all_goals
        go_wp2_with fail
        go_ret
        exact ⟨rfl, below_mono HG0.out.2 HB15.out (Nat.le_refl _)⟩
    · skip
      clear r0 r1 r2 r3 p0 p1 p2 p3
      obtain ⟨W0, hW0⟩ : ∃ X, w3.alloc (.cells #[.int .i64 0, .int .i64 0, .string ⟨#[]⟩, .slice none 0 0] 34) = X := ⟨_, rfl⟩
      obtain ⟨g0, _, _⟩ := cells_made _ _ _ W0 hW0
      rw [hW0]
      have HG0 := Lib.hid (below_mono HB3.out g0 (Nat.le_refl _))
      clear g0 hW0
      go_wp2_with (go_at_call 34; (with_reducible refine (CA.out _).mono ?_); rintro e W1 ⟨rfl, hB⟩; have HB := Lib.hid hB; clear hB)
      go_ret
      exact ⟨rfl, below_mono HG0.out HB.out (Nat.le_refl _)⟩
end Go.Proofs.Ytidldlhhmophjaa
