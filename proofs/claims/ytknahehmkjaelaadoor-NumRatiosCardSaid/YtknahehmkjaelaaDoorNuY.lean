/- The document's numbers of any size: divide. Conditions: those written at each theorem. -/
import Derived.Test.YtknahehmkjaelaaDoorNuX
import Derived.Test.YtknahehmkjaelaaDoorNuQ
namespace Go.Proofs.YtknahehmkjaelaaDoor
open Go.RowKit Go.Sort
set_option linter.unusedSimpArgs false
set_option linter.unusedVariables false

/-- Memory while digits are divided: the quotient's row, the rest. -/
structure DivMem (w : World) (O : List Nat) (L : Nat) (lv : Value) (wr : World) : Prop where
  row : Row w.heap.size O wr
  rest : MagIs L lv wr
  far : From (w.heap.size + 1) lv
  bel : Below w.heap.size w wr
  siz : w.heap.size < wr.heap.size
theorem Row.next {b : Nat} {O : List Nat} {w w' : World} (h : Row b O w) (k : Below w.heap.size w w') (hb : b < w.heap.size) : Row b O w' := fun j hj =>
  ⟨(k.cell (p := ⟨b, j, none⟩) hb).trans (h j hj).1, (k.frozen (p := ⟨b, j, none⟩) hb).trans (h j hj).2⟩
theorem DivMem.next {w wr w' : World} {O : List Nat} {L M : Nat} {lv v : Value} (h : DivMem w O L lv wr) (k : Below wr.heap.size wr w') (hv : MagIs M v w') (hf : From wr.heap.size v) : DivMem w O M v w' :=
  ⟨h.row.next k h.siz, hv, hf.mono (by have := h.siz; omega), below_mono h.bel k (by have := h.siz; omega), Nat.lt_of_lt_of_le h.siz k.size⟩
theorem DivMem.next' {w wr w' : World} {O : List Nat} {L : Nat} {lv : Value} (h : DivMem w O L lv wr) (k : Below wr.heap.size wr w') : DivMem w O L lv w' :=
  ⟨h.row.next k h.siz, h.rest.next k, h.far, below_mono h.bel k (by have := h.siz; omega), Nat.lt_of_lt_of_le h.siz k.size⟩
theorem DivMem.drewN {w wr : World} {O : List Nat} {L : Nat} {lv : Value} (h : DivMem w O L lv wr) (n : Nat) : DivMem w O L lv (wr.drewN n) :=
  ⟨h.row, h.rest, h.far, below_drewN h.bel n, h.siz⟩
theorem DivMem.put {w wr : World} {O : List Nat} {L : Nat} {lv : Value} (h : DivMem w O L lv wr) {p : Nat} (hp : p < O.length) (d : Nat) : DivMem w (O.set p d) L lv (wr.setCell ⟨w.heap.size, p, none⟩ (.int .u64 (d : Int))) :=
  ⟨h.row.set hp d, h.rest.set _ _ (fun a k c e => by have := h.far a k c e; dsimp only; omega), h.far, h.bel.setCell (p := ⟨w.heap.size, p, none⟩) (Nat.le_refl _) _, by simpa using h.siz⟩
theorem DivMem.put' {w wr : World} {O : List Nat} {L : Nat} {lv : Value} (h : DivMem w O L lv wr) {p : Nat} (hp : p < O.length) (d : Nat) : DivMem w (O.set p d) L lv ((wr.setCell ⟨w.heap.size, p, none⟩ (.int .u64 (d : Int))).drew) := (h.put hp d).drewN 1
theorem DivMem.start (w : World) (n : Nat) : DivMem w (List.replicate n 0) 0 (.slice none 0 0) (w.alloc (.cells (madeCells #[.int .u64 0] n) 62)) :=
  ⟨made_row _ _ _ _ rfl, ⟨none, 0, rfl, Nat.le_refl _, SAt.nil _ _ _⟩, (fun a k c e => by cases e), (Below.refl _ _).alloc (Nat.le_refl _) _, by simp⟩
theorem len_twice {L B : Nat} (h : L < B) (hB : (dg B).length ≤ 100) : (dg L).length ≤ 1000 ∧ (dg (L + L)).length ≤ 1000 ∧ (dg (L + L + 1)).length ≤ 1000 := by
  have h1 := dval_lt (dg_low B)
  rw [dg_val] at h1
  have h2 : 65536 ^ (dg B).length ≤ 65536 ^ 100 := Nat.pow_le_pow_right (by omega) hB
  have e : 65536 ^ 101 = 65536 * 65536 ^ 100 := by rw [Nat.pow_succ, Nat.mul_comm]
  refine ⟨Nat.le_trans (dg_length_le (k := 101) ?_) (by omega), Nat.le_trans (dg_length_le (k := 101) ?_) (by omega), Nat.le_trans (dg_length_le (k := 101) ?_) (by omega)⟩ <;>
    (rw [e]; generalize 65536 ^ 100 = m at *; omega)
theorem dg_one : dg 1 = [1] := rfl
theorem mag_one (w : World) : MagIs 1 (.slice (some ⟨w.heap.size, 0, none⟩) 1 1) (w.alloc (.cells #[.int .u64 1] 62)) := by
  refine ⟨_, 1, by rw [dg_one]; rfl, by rw [dg_one]; exact Nat.le_refl _, ?_⟩
  rw [dg_one]
  refine ⟨fun _ => ⟨_, rfl⟩, fun x e _ => ?_⟩
  cases e
  refine ⟨by simp, fun i u hu => ?_⟩
  match i, hu with
  | 0, hu => simp [us] at hu; subst hu; simp [Addr.add]
  | k + 1, hu => simp [us] at hu
theorem cmpI_ge {x y : Nat} (h : y ≤ x) : 0 ≤ cmpI x y := by unfold cmpI; rw [if_neg (by omega)]; split <;> omega
theorem cmpI_lt {x y : Nat} (h : x < y) : cmpI x y = -1 := by unfold cmpI; rw [if_pos h]
def GivesDiv (x y : Nat) (w : World) (e : Ending) (w' : World) : Prop := ∃ v u, e = .returned (.tuple #[v, u]) ∧ MagIs (x / y) v w' ∧ MagIs (x % y) u w' ∧ Below w.heap.size w w' ∧ From w.heap.size v ∧ From w.heap.size u
set_option maxRecDepth 100000 in
set_option maxHeartbeats 4000000 in
theorem divide_any (x y : Nat) (va vb : Value) (w : World) (hx : (dg x).length ≤ 100) (hy : (dg y).length ≤ 100) (hy0 : 0 < y) (ha : MagIs x va w) (hb : MagIs y vb w) :
    Calls Tryd.prog 63 #[va, vb] w (GivesDiv x y w) := by
  have HB := Lib.hid hb
  obtain ⟨ao, ca, rfl, hca, sa⟩ := ha
  obtain ⟨bo, cb, rfl, hcb, sb⟩ := hb
  obtain ⟨b1, o1, h1, d1⟩ := dig_of sa
  have D1 := Lib.hid d1
  have S0 := Lib.hid (DivRel.start (A := x) hy0)
  obtain ⟨n, hn⟩ : ∃ n, n = (dg x).length := ⟨_, rfl⟩
  have hao : ao = some ⟨b1, o1, none⟩ ∧ b1 < w.heap.size ∨ n = 0 := by
    rcases h1 with h | h
    · exact .inl h
    · exact .inr (by rw [hn, h]; rfl)
  have HAO := Lib.hid hao
  rw [← hn] at S0 hx ⊢
  have HN := Lib.hid hn
  have M0 := Lib.hid (DivMem.start w n)
  have HY := Lib.hid hy
  have HY0 := Lib.hid hy0
  obtain ⟨ly, hly⟩ : ∃ n, n = (dg y).length := ⟨_, rfl⟩
  rw [← hly] at HB ⊢
  have k1 : ∀ W, (Instr.makeSlice 25 (.int .i64 (n : Int)) (.int .i64 (n : Int))).run Tryd.prog W = .ok (.slice (some ⟨W.heap.size, 0, none⟩) n n) (W.alloc (.cells (madeCells #[.int .u64 0] n) 62)) := fun W => by
    obtain ⟨i0, hi, hz0, hz1, hz2⟩ := info_parts u64Info
    have := run_make (P := Tryd.prog) W 25 62 i0 (.int .u64 0) Tryd.underlying25 hi hz0 .i64 .i64 (n : Int) (n : Int) (by omega) (by omega) (by rw [hz2]; omega) (by omega)
    rw [hz1, show ((n : Int)).toNat = n by omega, Nat.mul_one] at this
    exact this
  have LEN : Hid (∀ L, L < y → (dg L).length ≤ 1000 ∧ (dg (L + L)).length ≤ 1000 ∧ (dg (L + L + 1)).length ≤ 1000) := Lib.hid fun L h => len_twice h hy
  clear sa sb h1 d1 hn hao hca hcb hy hy0 hly
  go_enter Tryd.func63, Tryd.ntmps63
  go_wp2_with fail
  go_loopw [7, 8] (fun lv ii wr => ∃ (j L : Nat) (O : List Nat), j ≤ 16 * n ∧ ii = .int .i64 ((j : Int) - 1) ∧ Hid (DivRel x y n j O L) ∧ Hid (DivMem w O L lv wr)) (fun _ ii _ => (intOf ii + 1).toNat)
  case atStart => exact ⟨16 * n, 0, _, Nat.le_refl _, by first | rfl | (congr 1; omega), S0, M0⟩
  case round =>
    obtain ⟨j, L, O, hj, rfl, HR, HM⟩ := hrel
    clear S0 M0 k1
    obtain ⟨wo, rfl⟩ : ∃ wo : World, wo = wr := ⟨_, rfl⟩
    rcases j with _ | i
    · have hDone' : Low O ∧ O.length = (dg x).length ∧ dval O = x / y ∧ L = x % y := DivRel.done (show DivRel x y (dg x).length 0 O L by rw [← HN.out]; exact HR.out)
      rw [show (((0 : Nat) : Int) - 1) = -1 by omega]
      have hOl : O.length = n := hDone'.2.1.trans HN.out.symm
      have T1 := Lib.hid (trim_any (B := wo.heap.size) (some ⟨w.heap.size, 0, none⟩) n O wo hDone'.1 (by omega) (by omega) (HM.out.row.sat HM.out.siz))
      rw [hOl] at T1
      have HOL := Lib.hid hOl
      have HD := Lib.hid hDone'
      clear hOl hDone'
      go_wp2_with fail
      refine T1.out.mono ?_
      rintro e w1 ht
      obtain ⟨hw1, k, rfl, hm⟩ := ht.mag (HM.out.row.sat HM.out.siz) (by rw [HOL.out]; exact Nat.le_refl _)
      subst hw1
      have HMG := Lib.hid hm
      clear ht hm T1
      go_wp2_with fail
      go_ret2
      refine ⟨_, _, rfl, ?_, ?_, HM.out.bel, (fun a m c e => by cases e; exact Nat.le_refl _), HM.out.far.mono (Nat.le_succ _)⟩
      · have := HMG.out
        rwa [HD.out.2.2.1] at this
      · have := HM.out.rest
        rwa [HD.out.2.2.2] at this
    · have hi0 : (((i + 1 : Nat) : Int) - 1) = (i : Int) := by omega
      rw [hi0]
      clear hi0
      have hbd := HR.out.bound HY0.out
      have HL := Lib.hid (LEN.out L hbd.1)
      have HOL := Lib.hid hbd.2.2
      have C1 := Lib.hid (add_any L L _ _ wo HL.out.1 HL.out.1 HM.out.rest HM.out.rest)
      obtain ⟨t, ht⟩ : ∃ t, t = i / 16 := ⟨_, rfl⟩
      obtain ⟨r, hr⟩ : ∃ r, r = i % 16 := ⟨_, rfl⟩
      have tn : t < n := by omega
      have r16 : r < 16 := by omega
      obtain ⟨rfl, hb1⟩ : ao = some ⟨b1, o1, none⟩ ∧ b1 < w.heap.size := HAO.out.resolve_right (by omega)
      have cd := D1.out t (by rw [← HN.out]; exact tn)
      have bd := low_getD (dg_low x) t
      have hbit := bit_at x i
      rw [← ht, ← hr, ← dg_getD] at hbit
      obtain ⟨d, hd⟩ : ∃ d, d = (dg x).getD t 0 := ⟨_, rfl⟩
      rw [← hd] at cd bd hbit
      obtain ⟨q, hq⟩ : ∃ q, q = d / 2 ^ r := ⟨_, rfl⟩
      rw [← hq] at hbit
      have x1 : (i : Int) / 16 = (t : Int) := by omega
      have x2 : (i : Int).tdiv 16 = (t : Int) := by rw [Int.tdiv_eq_ediv_of_nonneg (by omega)]; exact x1
      have x3 : (i : Int) % 16 = (r : Int) := by omega
      have x4 : (i : Int).tmod 16 = (r : Int) := by rw [Int.tmod_eq_emod_of_nonneg (by omega)]; exact x3
      have x5 : (d : Int) / 2 ^ r = (q : Int) := by rw [hq, Int.natCast_ediv, Int.natCast_pow]; rfl
      have i0' : (0 : Int) ≤ (i : Int) := by omega
      have tI : (t : Int) < (n : Int) := by omega
      have t0 : (0 : Int) ≤ (t : Int) := by omega
      have r0 : (0 : Int) ≤ (r : Int) := by omega
      have rI : (r : Int) < 64 := by omega
      have iI : (i : Int) < 1600 := by omega
      have HBIT := Lib.hid hbit
      have CD := Lib.hid cd
      have HT := Lib.hid ht
      have HRR := Lib.hid hr
      clear hbit cd hbd ht hr hd hq
      go_wp2_with fail
      refine C1.out.mono ?_
      rintro e w1 ⟨v1, rfl, hm1, hB1, hf1⟩
      have M1 := Lib.hid (HM.out.next hB1 hm1 hf1)
      clear hm1 hB1 hf1 C1
      have cd : w1.cell? ⟨b1, o1 + t, none⟩ = some (.int .u64 (d : Int)) := (M1.out.bel.cell (p := ⟨b1, o1 + t, none⟩) hb1).trans CD.out
      have HYL : Hid ((dg y).length ≤ 1000) := Lib.hid (by have := HY.out; omega)
      have hP : 2 ^ r ≤ 32768 := Nat.pow_le_pow_right (n := 2) (i := r) (j := 15) (by omega) (by omega)
      obtain ⟨P, hPP⟩ : ∃ P, P = 2 ^ r := ⟨_, rfl⟩
      rw [← hPP] at hP
      have p1 : (2 : Int) ^ r = (P : Int) := by rw [hPP, Int.natCast_pow]; rfl
      have p2 : IntKind.u64.wrap (P : Int) = (P : Int) := by rw [IntKind.wrap_u64]; omega
      have HPP := Lib.hid hPP
      have P1 := Lib.hid p1
      clear hPP p1
      by_cases hq1 : q % 2 = 1
      · have y1 : (q : Int) % 2 = 1 := by omega
        have HMM : Hid (L + L + 1 = 2 * L + x / 2 ^ i % 2) := Lib.hid (by rw [HBIT.out, hq1]; omega)
        obtain ⟨M, hM⟩ : ∃ M, M = L + L + 1 := ⟨_, rfl⟩
        rw [← hM] at HMM
        have HLM : Hid ((dg M).length ≤ 1000) := Lib.hid (by rw [hM]; exact HL.out.2.2)
        have HK : Hid (L + L + 1 = M) := Lib.hid hM.symm
        clear hM hq1
        go_wp2_with fail
        have hk1 : Below w1.heap.size w1 (w1.alloc (.cells #[.int .u64 1] 62)) := (Below.refl _ _).alloc (Nat.le_refl _) _
        have C2 := Lib.hid (add_any (L + L) 1 _ _ _ HL.out.2.1 (by rw [dg_one]; decide) (M1.out.rest.next hk1) (mag_one w1))
        clear hk1
        refine C2.out.mono ?_
        rintro e w2 ⟨v2, rfl, hm2, hB2, hf2⟩
        have M2 : Hid (DivMem w O M v2 w2) := Lib.hid (by
          rw [← HK.out]
          exact M1.out.next (((Below.refl _ _).alloc (Nat.le_refl _) _).trans (hB2.mono (by simp))) hm2 (hf2.mono (by simp)))
        clear hm2 hB2 hf2 C2 M1 cd y1
        by_cases hle : y ≤ M
        · have hc0 := cmpI_ge hle
          have C3 := Lib.hid (cmp_any M y _ _ w2 HLM.out HYL.out M2.out.rest (HB.out.next M2.out.bel))
          obtain ⟨c, hc⟩ : ∃ c, c = cmpI M y := ⟨_, rfl⟩
          rw [← hc] at C3 hc0
          have HS := HR.out.more (i := i) HY0.out (by rw [← HT.out]; exact tn) HMM.out hle
          rw [← HT.out, ← HRR.out, ← HPP.out] at HS
          have hg := HS.2
          have HS1 := Lib.hid HS.1
          obtain ⟨g, hgg⟩ : ∃ g, g = O.getD t 0 := ⟨_, rfl⟩
          rw [← hgg] at hg HS1
          have HGG := Lib.hid hgg
          have HLE := Lib.hid hle
          clear hc HS hgg hle
          go_wp2_with fail
          refine C3.out.mono ?_
          rintro e w3 ⟨rfl, hB3⟩
          have M3 := Lib.hid (M2.out.next' hB3)
          clear hB3 C3 M2
          go_wp2_with fail
          refine (sub_any M y _ _ _ HLE.out HLM.out HYL.out M3.out.rest (HB.out.next M3.out.bel)).mono ?_
          rintro e w4 ⟨v4, rfl, hm4, hB4, hf4⟩
          have M4 := Lib.hid (M3.out.next hB4 hm4 hf4)
          clear hm4 hB4 hf4 M3
          have hpO : t < O.length := by rw [HOL.out]; exact tn
          obtain ⟨kO, fO⟩ := M4.out.row t hpO
          rw [← HGG.out] at kO
          obtain ⟨s, hs⟩ : ∃ s, s = g + P := ⟨_, rfl⟩
          have s1 : (g : Int) + (P : Int) = (s : Int) := by omega
          have s2 : IntKind.u64.wrap (s : Int) = (s : Int) := by rw [IntKind.wrap_u64]; omega
          have s3 : IntKind.u64.wrap ((g : Int) + (P : Int)) = (s : Int) := by rw [s1, s2]
          have HSS := Lib.hid hs
          have p1 := P1.out
          have HPO := Lib.hid hpO
          clear hs hpO hg
          go_wp2_with fail
          go_region
          all_goals (go_wp2_with fail)
          all_goals go_roundw
          all_goals (first
            | (case rel => exact ⟨i, M - y, O.set t s, by omega, rfl, by rw [HSS.out]; exact HS1, Lib.hid (M4.out.put' HPO.out s)⟩)
            | (case measure => simp [intOf]))
        · have hc0 : cmpI M y = -1 := cmpI_lt (by omega)
          have C3 := Lib.hid (cmp_any M y _ _ w2 HLM.out HYL.out M2.out.rest (HB.out.next M2.out.bel))
          rw [hc0] at C3
          have HS1 := Lib.hid (HR.out.less HY0.out HMM.out (by omega))
          clear hc0 hle
          go_wp2_with fail
          refine C3.out.mono ?_
          rintro e w3 ⟨rfl, hB3⟩
          have M3 := Lib.hid (M2.out.next' hB3)
          clear hB3 C3 M2
          go_wp2_with fail
          go_roundw
          case rel => exact ⟨i, M, O, by omega, rfl, HS1, M3⟩
          case measure => simp [intOf]
      · have y1 : (q : Int) % 2 = 0 := by omega
        have HMM : Hid (L + L = 2 * L + x / 2 ^ i % 2) := Lib.hid (by rw [HBIT.out]; omega)
        obtain ⟨M, hM⟩ : ∃ M, M = L + L := ⟨_, rfl⟩
        rw [← hM] at HMM
        have HLM : Hid ((dg M).length ≤ 1000) := Lib.hid (by rw [hM]; exact HL.out.2.1)
        have M2 : Hid (DivMem w O M v1 w1) := Lib.hid (by rw [hM]; exact M1.out)
        clear hM hq1
        obtain ⟨w2, hw2⟩ : ∃ w2, w2 = w1 := ⟨_, rfl⟩
        obtain ⟨v2, hv2⟩ : ∃ v2, v2 = v1 := ⟨_, rfl⟩
        subst hw2 hv2
        clear M1
        by_cases hle : y ≤ M
        · have hc0 := cmpI_ge hle
          have C3 := Lib.hid (cmp_any M y _ _ w2 HLM.out HYL.out M2.out.rest (HB.out.next M2.out.bel))
          obtain ⟨c, hc⟩ : ∃ c, c = cmpI M y := ⟨_, rfl⟩
          rw [← hc] at C3 hc0
          have HS := HR.out.more (i := i) HY0.out (by rw [← HT.out]; exact tn) HMM.out hle
          rw [← HT.out, ← HRR.out, ← HPP.out] at HS
          have hg := HS.2
          have HS1 := Lib.hid HS.1
          obtain ⟨g, hgg⟩ : ∃ g, g = O.getD t 0 := ⟨_, rfl⟩
          rw [← hgg] at hg HS1
          have HGG := Lib.hid hgg
          have HLE := Lib.hid hle
          clear hc HS hgg hle
          go_wp2_with fail
          refine C3.out.mono ?_
          rintro e w3 ⟨rfl, hB3⟩
          have M3 := Lib.hid (M2.out.next' hB3)
          clear hB3 C3 M2
          go_wp2_with fail
          refine (sub_any M y _ _ _ HLE.out HLM.out HYL.out M3.out.rest (HB.out.next M3.out.bel)).mono ?_
          rintro e w4 ⟨v4, rfl, hm4, hB4, hf4⟩
          have M4 := Lib.hid (M3.out.next hB4 hm4 hf4)
          clear hm4 hB4 hf4 M3
          have hpO : t < O.length := by rw [HOL.out]; exact tn
          obtain ⟨kO, fO⟩ := M4.out.row t hpO
          rw [← HGG.out] at kO
          obtain ⟨s, hs⟩ : ∃ s, s = g + P := ⟨_, rfl⟩
          have s1 : (g : Int) + (P : Int) = (s : Int) := by omega
          have s2 : IntKind.u64.wrap (s : Int) = (s : Int) := by rw [IntKind.wrap_u64]; omega
          have s3 : IntKind.u64.wrap ((g : Int) + (P : Int)) = (s : Int) := by rw [s1, s2]
          have HSS := Lib.hid hs
          have p1 := P1.out
          have HPO := Lib.hid hpO
          clear hs hpO hg
          go_wp2_with fail
          go_region
          all_goals (go_wp2_with fail)
          all_goals go_roundw
          all_goals (first
            | (case rel => exact ⟨i, M - y, O.set t s, by omega, rfl, by rw [HSS.out]; exact HS1, Lib.hid (M4.out.put' HPO.out s)⟩)
            | (case measure => simp [intOf]))
        · have hc0 : cmpI M y = -1 := cmpI_lt (by omega)
          have C3 := Lib.hid (cmp_any M y _ _ w2 HLM.out HYL.out M2.out.rest (HB.out.next M2.out.bel))
          rw [hc0] at C3
          have HS1 := Lib.hid (HR.out.less HY0.out HMM.out (by omega))
          clear hc0 hle
          go_wp2_with fail
          refine C3.out.mono ?_
          rintro e w3 ⟨rfl, hB3⟩
          have M3 := Lib.hid (M2.out.next' hB3)
          clear hB3 C3 M2
          go_wp2_with fail
          go_roundw
          case rel => exact ⟨i, M, O, by omega, rfl, HS1, M3⟩
          case measure => simp [intOf]
end Go.Proofs.YtknahehmkjaelaaDoor
