/- The document's numbers of any size: Over, MulDiv. Conditions: those written at each theorem. -/
import Derived.Test.YtknahehmkjaelaaDoorNuY
import Derived.Test.YtknahehmkjaelaaDoorNuF
import Derived.Test.YtknahehmkjaelaaDoorNuI
import Derived.Deep.DeepCutAuto
import Derived.Outline
namespace Go.Proofs.YtknahehmkjaelaaDoor
open Go.RowKit Go.Sort
set_option linter.unusedSimpArgs false
set_option linter.unusedVariables false

/-- Memory while a quotient is rounded: the boxes of both numbers and of the result. -/
structure OvMem (w : World) (g h : Bool) (ma mb : Value) (wr : World) : Prop where
  a0 : wr.cell? ⟨w.heap.size, 0, none⟩ = some (.bool g)
  a1 : wr.cell? ⟨w.heap.size, 1, none⟩ = some ma
  b0 : wr.cell? ⟨w.heap.size + 1, 0, none⟩ = some (.bool h)
  b1 : wr.cell? ⟨w.heap.size + 1, 1, none⟩ = some mb
  r0 : wr.cell? ⟨w.heap.size + 1 + 1, 0, none⟩ = some (.bool false)
  r1 : wr.cell? ⟨w.heap.size + 1 + 1, 1, none⟩ = some (.slice none 0 0)
  f0 : wr.frozen? ⟨w.heap.size + 1 + 1, 0, none⟩ = false
  f1 : wr.frozen? ⟨w.heap.size + 1 + 1, 1, none⟩ = false
  bel : Below w.heap.size w wr
  siz : w.heap.size + 1 + 1 < wr.heap.size
theorem OvMem.start (w : World) (g h : Bool) (ma mb : Value) :
    OvMem w g h ma mb (((w.alloc (.cells #[.bool g, ma] 27)).alloc (.cells #[.bool h, mb] 27)).alloc (.cells #[.bool false, .slice none 0 0] 27)) := by
  have K : Below (w.heap.size + 1 + 1 + 1) (((w.alloc (.cells #[.bool g, ma] 27)).alloc (.cells #[.bool h, mb] 27)).alloc (.cells #[.bool false, .slice none 0 0] 27)) (((w.alloc (.cells #[.bool g, ma] 27)).alloc (.cells #[.bool h, mb] 27)).alloc (.cells #[.bool false, .slice none 0 0] 27)) := Below.refl _ _
  have b := two_boxes w _ _ _ _ _ _ K
  have c := box_three w _ _ _ _ _ K
  exact ⟨b.1 0, b.1 1, b.2 0, b.2 1, c.1 0, c.1 1, c.2 0, c.2 1, (((Below.refl _ _).alloc (Nat.le_refl _) _).alloc (by simp) _).alloc (by simp; omega) _, by simp⟩
theorem OvMem.next {w wr w' : World} {g h : Bool} {ma mb : Value} (t : OvMem w g h ma mb wr) (k : Below wr.heap.size wr w') : OvMem w g h ma mb w' := by
  have s := t.siz
  exact ⟨(k.cell (p := ⟨_, _, none⟩) (by dsimp only; omega)).trans t.a0, (k.cell (p := ⟨_, _, none⟩) (by dsimp only; omega)).trans t.a1, (k.cell (p := ⟨_, _, none⟩) (by dsimp only; omega)).trans t.b0, (k.cell (p := ⟨_, _, none⟩) (by dsimp only; omega)).trans t.b1, (k.cell (p := ⟨_, _, none⟩) (by dsimp only; omega)).trans t.r0, (k.cell (p := ⟨_, _, none⟩) (by dsimp only; omega)).trans t.r1, (k.frozen (p := ⟨_, _, none⟩) (by dsimp only; omega)).trans t.f0, (k.frozen (p := ⟨_, _, none⟩) (by dsimp only; omega)).trans t.f1, below_mono t.bel k (by omega), Nat.lt_of_lt_of_le s k.size⟩
theorem sgn_big (g : Bool) (n : Nat) : (sgn g n).natAbs = n ∧ decide (sgn g n < 0) = (g && decide (0 < n)) := by
  unfold sgn
  cases g
  · refine ⟨by simp, ?_⟩
    simp
  · refine ⟨by simp, ?_⟩
    rw [Bool.eq_iff_iff]; simp
theorem len_up {q r y : Nat} {g : Bool} {mode : Int} (h : (dg q).length ≤ 100) : (dg q).length ≤ 1000 ∧ (dg (q + 1)).length ≤ 1000 := by
  have h1 := dval_lt (dg_low q)
  rw [dg_val] at h1
  have h2 : 65536 ^ (dg q).length ≤ 65536 ^ 100 := Nat.pow_le_pow_right (by omega) h
  have e : 65536 ^ 101 = 65536 * 65536 ^ 100 := by rw [Nat.pow_succ, Nat.mul_comm]
  refine ⟨by omega, Nat.le_trans (dg_length_le (k := 101) ?_) (by omega)⟩
  rw [e]; generalize 65536 ^ 100 = m at *; omega
set_option maxRecDepth 100000 in
set_option maxHeartbeats 4000000 in
theorem over_any (x y : Int) (va vb : Value) (mode : Int) (w : World) (hx : (dg x.natAbs).length ≤ 100) (hy : (dg y.natAbs).length ≤ 100) (hy0 : y ≠ 0) (m0 : 0 ≤ mode) (m3 : mode ≤ 3) (ha : BigIs x va w) (hb : BigIs y vb w) :
    Calls Tryd.prog 54 #[va, vb, .int .i64 mode] w (GivesBig (rq x y mode) w) := by
  obtain ⟨ma, rfl, hma⟩ := ha
  obtain ⟨mb, rfl, hmb⟩ := hb
  obtain ⟨g, hg⟩ : ∃ g, g = decide (x < 0) := ⟨_, rfl⟩
  obtain ⟨h, hh⟩ : ∃ h, h = decide (y < 0) := ⟨_, rfl⟩
  have hrq : rq x y mode = sgn (!(g == h)) (upN (x.natAbs / y.natAbs) (x.natAbs % y.natAbs) y.natAbs (!(g == h)) mode) := by rw [hg, hh]; rfl
  rw [← hg, ← hh, hrq]
  clear hrq hg hh
  have hp : 0 < y.natAbs := by omega
  obtain ⟨a, hae⟩ : ∃ a, a = x.natAbs := ⟨_, rfl⟩
  obtain ⟨b, hbe⟩ : ∃ b, b = y.natAbs := ⟨_, rfl⟩
  rw [← hae] at hx hma ⊢
  rw [← hbe] at hy hmb hp ⊢
  clear hae hbe hy0
  obtain ⟨G, hG⟩ : ∃ G, G = (!(g == h)) := ⟨_, rfl⟩
  have T0 := Lib.hid (OvMem.start w g h ma mb)
  have D0 := Lib.hid (fun W (k : Below w.heap.size w W) => divide_any a b ma mb W hx hy hp (hma.next k) (hmb.next k))
  have HMB := Lib.hid hmb
  have HX := Lib.hid hx
  have HY := Lib.hid hy
  have HP := Lib.hid hp
  obtain ⟨ao, ca, rfl, _⟩ := hma
  obtain ⟨bo, cb, rfl, _⟩ := hmb
  obtain ⟨la, hla⟩ : ∃ k, k = (dg a).length := ⟨_, rfl⟩
  obtain ⟨lb, hlb⟩ : ∃ k, k = (dg b).length := ⟨_, rfl⟩
  rw [← hla] at T0 D0 ⊢
  rw [← hlb] at T0 D0 HMB ⊢
  clear hla hlb hx hy hp
  go_enter Tryd.func54, Tryd.ntmps54
  go_wp2_with fail
  refine (D0.out _ T0.out.bel).mono ?_
  rintro e w1 ⟨v, u, rfl, hq, hr, hB, hfv, hfu⟩
  have T1 := Lib.hid (T0.out.next hB)
  have HQ := Lib.hid hq
  have HR := Lib.hid hr
  have HFV := Lib.hid (hfv.mono (Nat.le_refl _))
  obtain ⟨vo, cv, rfl, _⟩ := hq
  obtain ⟨uo, cu, rfl, _⟩ := hr
  have hrl : (dg (a % b)).length ≤ 1000 ∧ (dg (a % b + a % b)).length ≤ 1000 ∧ (dg (a % b + a % b + 1)).length ≤ 1000 := len_twice (Nat.mod_lt _ HP.out) HY.out
  have hql : (dg (a / b)).length ≤ 1000 ∧ (dg (a / b + 1)).length ≤ 1000 := len_up (q := a / b) (r := 0) (y := 0) (g := true) (mode := 0) (Nat.le_trans (len_le (Nat.div_le_self _ _)) HX.out)
  have hrb : a % b < b := Nat.mod_lt _ HP.out
  obtain ⟨q, hq⟩ : ∃ q, q = a / b := ⟨_, rfl⟩
  obtain ⟨r, hr⟩ : ∃ r, r = a % b := ⟨_, rfl⟩
  rw [← hq] at HQ hql HFV ⊢
  rw [← hr] at HR hrl hrb ⊢
  have HQL := Lib.hid hql
  have HYL : Hid ((dg b).length ≤ 1000) := Lib.hid (by have := HY.out; omega)
  have A1 : Hid (∀ W, Below w1.heap.size w1 W → Calls Tryd.prog 49 #[.slice uo (dg r).length cu, .slice uo (dg r).length cu] W (GivesMag (r + r) W)) := Lib.hid fun W k => add_any r r _ _ W hrl.1 hrl.1 (HR.out.next k) (HR.out.next k)
  have HB1 := Lib.hid (HMB.out.next T1.out.bel)
  have A2 : Hid (∀ W v', Below w1.heap.size w1 W → MagIs (r + r) v' W → Calls Tryd.prog 50 #[v', .slice bo lb cb] W fun e w' => e = .returned (.int .i64 (cmpI (r + r) b)) ∧ Below W.heap.size W w') := Lib.hid fun W v' k hv => cmp_any (r + r) b _ _ W hrl.2.1 HYL.out hv (HB1.out.next k)
  obtain ⟨lr, hlr⟩ : ∃ k, k = (dg r).length := ⟨_, rfl⟩
  obtain ⟨lq, hlq⟩ : ∃ k, k = (dg q).length := ⟨_, rfl⟩
  rw [← hlr] at A1 ⊢
  rw [← hlq] at HQ HFV ⊢
  have HLQ := Lib.hid hlq
  have HLR := Lib.hid hlr
  obtain ⟨tw, htw⟩ : ∃ t, t = cmpI (r + r) b := ⟨_, rfl⟩
  rw [← htw] at A2
  have HTW := Lib.hid htw
  have HRB := Lib.hid hrb
  have HQD := Lib.hid hq
  have HRD := Lib.hid hr
  clear hB hfv hfu hrl hql hrb hq hr hlr hlq htw T0 D0
  have a0 := T1.out.a0
  have b0 := T1.out.b0
  have b1 := T1.out.b1
  have KK : Hid (Below w1.heap.size w1 w1) := Lib.hid (Below.refl _ _)
  go_wp2_with fail
  go_region_held3 (fun w' => w'.cell? ⟨w.heap.size + 1, 1, none⟩ = some (.slice bo lb cb))
    (first | (go_keep; done) | exact b1)
    (first
    | (go_at_call 49; (with_reducible refine (A1.out _ (by first | exact KK.out | exact KK.out.drew)).mono ?_); rintro e w2 ⟨v2, rfl, hm, hB, hF⟩; have HM := Lib.hid hm; have KK' := Lib.hid (below_mono KK.out (by first | exact hB | exact undraw hB) (Nat.le_refl _)); clear hm hB hF; have KK := KK'; clear KK'; have b1 := (KK.out.cell (p := ⟨w.heap.size + 1, 1, none⟩) (by have := T1.out.siz; dsimp only; omega)).trans T1.out.b1)
    | (go_at_call 50; (with_reducible refine (A2.out _ _ (by first | exact KK.out | exact KK.out.drew) (by first | exact HM.out | exact HM.out.next (Below.refl _ _).drew)).mono ?_); rintro e w3 ⟨rfl, hB⟩; have KK' := Lib.hid (below_mono KK.out (by first | exact hB | exact undraw hB) (Nat.le_refl _)); clear hB; have KK := KK'; clear KK'; have b1 := (KK.out.cell (p := ⟨w.heap.size + 1, 1, none⟩) (by have := T1.out.siz; dsimp only; omega)).trans T1.out.b1))
  have KW : Hid (Below w1.heap.size w1 w3) := KK
  go_upto_block 0 with fail
  have TW := HTW.out
  have hGG : Hid (G = !(g == h)) := Lib.hid hG
  rw [← hG]
  clear hG
  go_cut [11] (fun up wx => up = .bool (awayB q r b G mode) ∧ w3 = wx)
  case first =>
    clear A1 A2 HM KK b1 a0 b0
    have hm : mode = 0 ∨ mode = 1 ∨ mode = 2 ∨ mode = 3 := by omega
    rcases hm with rfl | rfl | rfl | rfl
    · have U : Hid (awayB q r b G 0 = false) := Lib.hid (by simp [awayB])
      clear TW
      go_wp2_with fail
      go_meet
      exact ⟨by rw [U.out], rfl⟩
    · clear TW
      cases G
      · have U : Hid (awayB q r b false 1 = false) := Lib.hid (by simp [awayB])
        go_wp2_with fail
        go_meet
        exact ⟨by rw [U.out], rfl⟩
      · by_cases h0 : r = 0
        · have U : Hid (awayB q r b true 1 = false) := Lib.hid (by simp [awayB, h0])
          have l0 : lr = 0 := by rw [HLR.out, h0]; rfl
          have t1 : ¬ (0 : Int) < (lr : Int) := by omega
          have L0 := Lib.hid l0
          clear h0 l0
          go_wp2_with fail
          go_meet
          exact ⟨by rw [U.out]; simp [L0.out], rfl⟩
        · have U : Hid (awayB q r b true 1 = true) := Lib.hid (by simp [awayB, h0])
          have l0 : 0 < lr := by
            rw [HLR.out]
            exact Nat.pos_of_ne_zero fun e => h0 (dg_nil_iff.1 (List.length_eq_zero_iff.1 e))
          have t1 : (0 : Int) < (lr : Int) := by omega
          clear h0
          go_wp2_with fail
          go_meet
          exact ⟨by rw [U.out], rfl⟩
    · by_cases h0 : b ≤ r + r
      · have U : Hid (awayB q r b G 2 = true) := Lib.hid (by simp [awayB]; omega)
        have t1 : 0 ≤ tw := by rw [TW]; exact cmpI_ge h0
        clear h0 TW
        go_wp2_with fail
        go_meet
        exact ⟨by rw [U.out], rfl⟩
      · have U : Hid (awayB q r b G 2 = false) := Lib.hid (by simp [awayB]; omega)
        have t1 : tw = -1 := by rw [TW]; exact cmpI_lt (by omega)
        clear h0 TW
        subst t1
        go_wp2_with fail
        go_meet
        exact ⟨by rw [U.out], rfl⟩
    · rcases Nat.lt_trichotomy (r + r) b with h0 | h0 | h0
      · have U : Hid (awayB q r b G 3 = false) := Lib.hid (by simp [awayB]; omega)
        have t1 : tw = -1 := by rw [TW]; exact cmpI_lt h0
        clear h0 TW
        subst t1
        go_wp2_with fail
        go_meet
        exact ⟨by rw [U.out], rfl⟩
      · have t1 : tw = 0 := by rw [TW, h0]; unfold cmpI; simp
        have UU : awayB q r b G 3 = decide (q % 2 = 1) := by
          have : b = 2 * r := by omega
          simp [awayB, this]
        clear h0 TW
        subst t1
        by_cases hq0 : q = 0
        · have U : Hid (awayB q r b G 3 = false) := Lib.hid (by rw [UU, hq0]; rfl)
          have l0 : lq = 0 := by rw [HLQ.out, hq0]; rfl
          have t1 : ¬ (0 : Int) < (lq : Int) := by omega
          clear hq0 l0 UU
          go_wp2_with fail
          go_meet
          exact ⟨by rw [U.out], rfl⟩
        · have l0 : 0 < (dg q).length := Nat.pos_of_ne_zero fun e => hq0 (dg_nil_iff.1 (List.length_eq_zero_iff.1 e))
          have hc := HQ.out
          rw [HLQ.out] at hc
          obtain ⟨zo, zc, hz1, hz2, hz3⟩ := hc
          cases hz1
          have hz4 := hz3.next (KW.out)
          obtain ⟨bb, off, hvo, _, hcell⟩ := cells_getD hz4 l0
          subst hvo
          have c0 := hcell 0 l0
          rw [dg_getD] at c0
          simp only [Nat.pow_zero, Nat.div_one, Nat.add_zero] at c0
          obtain ⟨d, hd⟩ : ∃ d, d = q % 65536 := ⟨_, rfl⟩
          rw [← hd] at c0
          have t1 : (0 : Int) < (lq : Int) := by rw [HLQ.out]; omega
          have t2 : 0 < lq := by omega
          clear hz3 hz4 hcell hz2 l0
          by_cases h2 : q % 2 = 1
          · have U : Hid (awayB q r b G 3 = true) := Lib.hid (by rw [UU]; simp [h2])
            have t3 : (d : Int) % 2 = 1 := by omega
            clear UU hd h2 hq0
            go_wp2_with fail
            go_meet
            exact ⟨by rw [U.out], rfl⟩
          · have U : Hid (awayB q r b G 3 = false) := Lib.hid (by rw [UU]; simp [h2])
            have t3 : (d : Int) % 2 = 0 := by omega
            clear UU hd h2 hq0
            go_wp2_with fail
            go_meet
            exact ⟨by rw [U.out], rfl⟩
      · have U : Hid (awayB q r b G 3 = true) := Lib.hid (by simp [awayB]; omega)
        have t1 : tw = 1 := by rw [TW]; unfold cmpI; rw [if_neg (by omega), if_pos h0]
        clear h0 TW
        subst t1
        go_wp2_with fail
        go_meet
        exact ⟨by rw [U.out], rfl⟩
  case rest =>
    obtain ⟨rfl, rfl⟩ := hcut
    have T3 := Lib.hid (T1.out.next KW.out)
    have HQ3 := Lib.hid (HQ.out.next KW.out)
    have FQ : Hid (From (w.heap.size + 1 + 1 + 1) (.slice vo lq cv)) := Lib.hid (HFV.out.mono (by simp))
    rw [HLQ.out] at HQ3 FQ
    have hu : upN q r b G mode = q + if awayB q r b G mode then 1 else 0 := rfl
    have HU := Lib.hid hu
    clear A1 A2 HM KK b1 a0 b0 hu TW HTW T1 HQ HFV HR HRB HLR HB1 HMB KW
    obtain ⟨up, hup⟩ : ∃ u, u = awayB q r b G mode := ⟨_, rfl⟩
    rw [← hup] at HU ⊢
    clear hup
    rw [HLQ.out]
    cases up
    · have HU' : Hid (upN q r b G mode = q) := Lib.hid (by rw [HU.out]; simp)
      go_wp2_with fail
      refine (sign_any G q _ _ HQ3.out).mono ?_
      rintro e w4 ⟨rfl, hB4⟩
      have T4 := Lib.hid (T3.out.next hB4)
      have HQ4 := Lib.hid (HQ3.out.next hB4)
      clear hB4 T3 HQ3
      have t0 := T4.out.r0
      have t1 := T4.out.r1
      have t2 := T4.out.f0
      have t3 := T4.out.f1
      go_wp2_with fail
      refine bodyPost_ret (v := .agg #[.bool (G && decide (0 < q)), .slice vo (dg q).length cv]) (by simp [results, Tryd.results54, go_sem, t0, t1, t2, t3]) rfl ⟨_, rfl, by rw [← hGG.out, ← HQD.out, ← HRD.out, HU'.out]; exact big_end HQ4.out (sgn_big G q) FQ.out, ?_⟩
      exact ((T4.out.bel.setCell (p := ⟨w.heap.size + 1 + 1, 0, none⟩) (by dsimp only; omega) _).setCell (p := ⟨w.heap.size + 1 + 1, 1, none⟩) (by dsimp only; omega) _)
    · have HU' : Hid (upN q r b G mode = q + 1) := Lib.hid (by rw [HU.out]; simp)
      go_wp2_with fail
      refine (add_any q 1 _ _ _ HQL.out.1 (by rw [dg_one]; decide) (HQ3.out.next ((Below.refl _ _).alloc (Nat.le_refl _) _)) (mag_one _)).mono ?_
      rintro e w4 ⟨v4, rfl, hm4, hB4, hf4⟩
      have KB : Below w3.heap.size w3 w4 := ((Below.refl _ _).alloc (Nat.le_refl _) _).trans (hB4.mono (by simp))
      have T4 := Lib.hid (T3.out.next KB)
      have HQ4 := Lib.hid hm4
      have F4 : Hid (From (w.heap.size + 1 + 1 + 1) v4) := Lib.hid (hf4.mono (by have := T3.out.siz; simp; omega))
      clear hm4 hB4 hf4 KB T3 HQ3 FQ
      go_wp2_with fail
      refine (sign_any G (q + 1) _ _ HQ4.out).mono ?_
      rintro e w5 ⟨rfl, hB5⟩
      have T5 := Lib.hid (T4.out.next hB5)
      have HQ5 := Lib.hid (HQ4.out.next hB5)
      clear hB5 T4 HQ4
      have t0 := T5.out.r0
      have t1 := T5.out.r1
      have t2 := T5.out.f0
      have t3 := T5.out.f1
      have hq5 := HQ5.out
      obtain ⟨ho, hc, rfl, _⟩ := id hq5
      clear hq5
      go_wp2_with fail
      refine bodyPost_ret (v := .agg #[.bool G, .slice ho (dg (q + 1)).length hc]) (by simp [results, Tryd.results54, go_sem, t0, t1, t2, t3]) rfl ⟨_, rfl, by rw [← hGG.out, ← HQD.out, ← HRD.out, HU'.out]; exact big_end HQ5.out ⟨(sgn_big G (q + 1)).1, by rw [(sgn_big G (q + 1)).2]; simp⟩ F4.out, ?_⟩
      exact ((T5.out.bel.setCell (p := ⟨w.heap.size + 1 + 1, 0, none⟩) (by dsimp only; omega) _).setCell (p := ⟨w.heap.size + 1 + 1, 1, none⟩) (by dsimp only; omega) _)
end Go.Proofs.YtknahehmkjaelaaDoor
