/- Trees: the document's BuiltExpr. Conditions: those written at each theorem. -/
import Derived.Test.YthhimllddgfddaaTrL
namespace Go.Proofs.Ythhimllddgfddaa
open Go.RowKit Go.PlainAid
set_option linter.unusedVariables false
set_option linter.unusedSimpArgs false
set_option maxRecDepth 100000 in
set_option maxHeartbeats 8000000 in
theorem rbuiltX_any {S : Nat → Prop} {B : Nat} (hS : ∀ b, S b → b < B) (x : Xp) : ∀ (bo : Option Addr) (k : Nat) (w : World), B ≤ w.heap.size → x.fit → x.cnt < 1000 → x.args.length ≤ k → ExL S w x.args bo →
    Calls Try.prog 62 #[exV x bo k] w fun e w' => e = .returned (.bool x.blt) ∧ Below w.heap.size w w' := by
  induction x using Xp.ind with
  | h x IH =>
  intro bo k w hB hf hn hk hx
  have hc := x.cnt_eq
  have hbe := x.blt_eq
  have hfe := (x.fit_eq).1 hf
  obtain ⟨z, hz⟩ : ∃ z, z = w.heap.size := ⟨_, rfl⟩
  obtain ⟨l, hl⟩ : ∃ l, l = x.args := ⟨_, rfl⟩
  rw [← hl] at IH hk hx hc hbe hfe
  obtain ⟨m, hm⟩ : ∃ m, m = l.length := ⟨_, rfl⟩
  obtain ⟨xo, hxo⟩ : ∃ v, v = x.op := ⟨_, rfl⟩
  obtain ⟨xn, hxn⟩ : ∃ v, v = x.n := ⟨_, rfl⟩
  obtain ⟨xs, hxs⟩ : ∃ v, v = x.nm := ⟨_, rfl⟩
  rw [show exV x bo k = .agg #[.int .i64 xo, .int .i64 xn, .string xs, .slice bo m k] from by rw [hm, hl, hxo, hxn, hxs]]
  have GA : Hid (∀ W, w.alloc (.cells #[.int .i64 xo, .int .i64 xn, .string xs, .slice bo m k] 53) = W → W.heap[z]? = some (.cells #[.int .i64 xo, .int .i64 xn, .string xs, .slice bo m k] 53 (0, 0)) ∧ Below w.heap.size w W) := Lib.hid (by
    rintro W rfl
    exact ⟨by rw [hz]; exact heap_alloc_new w _, (Below.refl w.heap.size w).alloc (Nat.le_refl _) _⟩)
  have HX : Hid (∀ W, Below w.heap.size w W → ExL S W l bo) := Lib.hid fun W hW => hx.stay (fun _ h => h) fun b hb => hW.block b (by have := hS b hb; omega)
  have HI : Hid (∀ y ∈ l, ∀ (co : Option Addr) (ck : Nat) W, Below w.heap.size w W → y.args.length ≤ ck → ExL S W y.args co → Calls Try.prog 62 #[exV y co ck] W fun e w' => e = .returned (.bool y.blt) ∧ Below W.heap.size W w') := Lib.hid fun y hy co ck W hW h1 h2 => by
    obtain ⟨j, hj⟩ := List.mem_iff_getElem?.1 hy
    have := cnts_in hj
    exact IH y hy co ck W (by have := hW.size; omega) ((xfits_all l).1 hfe.2 y hy) (by omega) h1 h2
  have CN := Lib.hid (free_any xs (by rw [hxs]; exact hfe.1))
  have CO : Hid (∀ W, Calls Try.prog 72 #[.int .i64 xo] W fun e w' => e = .returned (.int .i64 (kidsX xo)) ∧ w' = W) := Lib.hid fun W => (kids_any xo W).mono fun e w' h => ⟨h.1, h.2.symm⟩
  obtain ⟨fr, hfr⟩ : ∃ v, v = fre xs := ⟨_, rfl⟩
  rw [← hfr] at CN
  have HFR := Lib.hid hfr
  have HBE : Hid (x.blt = (okX xo xn xs m && l.all Xp.blt)) := Lib.hid (by rw [hbe, blts_all, hxo, hxn, hxs, hm])
  obtain ⟨bt, hbt⟩ : ∃ v, v = x.blt := ⟨_, rfl⟩
  rw [← hbt] at HBE ⊢
  have HM := Lib.hid hm
  have hm6 : m < 1000 := by
    have := len_cnts l
    omega
  obtain ⟨kd, hkd⟩ : ∃ v, v = kidsX xo := ⟨_, rfl⟩
  rw [← hkd] at CO
  have HKD := Lib.hid hkd
  clear hx IH hf hn hk hc hbe hfe hl hm hxo hxn hxs hfr hbt hkd
  go_enter Try.func62, Try.ntmps62
  go_upto_region 1 with fail
  obtain ⟨W, hW⟩ : ∃ X, w.alloc (.cells #[.int .i64 xo, .int .i64 xn, .string xs, .slice bo m k] 53) = X := ⟨_, rfl⟩
  rw [hW, ← hz]
  obtain ⟨b1, g1⟩ := GA.out W hW
  have HG := Lib.hid g1
  have HBX := Lib.hid b1
  obtain ⟨c0, c1, c2, c3⟩ := quad b1
  clear hW b1 g1 GA hz
  have HBD : Hid (∀ n, W.drewN n = W.drewN n ∧ Below w.heap.size w (W.drewN n) ∧ (W.drewN n).heap[z]? = some (.cells #[.int .i64 xo, .int .i64 xn, .string xs, .slice bo m k] 53 (0, 0))) := Lib.hid fun n => ⟨rfl, below_drewN HG.out n, by have := ((Below.refl W.heap.size W)); exact ((below_drewN this n).block z (lt_of_heap HBX.out)).trans HBX.out⟩
  by_cases hkm : (m : Int) = kd
  · have e0 : ((m : Int) == kd) = true := by simp [hkm]
    go_quiet ((go_at_call 72; (with_reducible exact Calls.quiet_of_same (CO.out _))))
    go_upto_block 0 with fail
    clear c0 c1 c2 c3
    refine wp_letter (fun X => Below w.heap.size w X ∧ Below W.heap.size W X) ⟨by first | exact HG.out | exact below_drewN HG.out _, by first | exact Below.refl _ _ | exact below_drewN (Below.refl _ _) _⟩ ?_
    rintro W2 ⟨g2, g3⟩
    have HG2 := Lib.hid (And.intro g2 g3)
    obtain ⟨c0, c1, c2, c3⟩ := quad ((g3.block z (lt_of_heap HBX.out)).trans HBX.out)
    have HF : Hid (okX xo xn xs m = false → bt = false) := Lib.hid fun h => by rw [HBE.out, h]; rfl
    have HKM : Hid ((m : Int) = kidsX xo) := Lib.hid (by rw [hkm, HKD.out])
    clear g2 g3 HG HBD
    go_cut [] (fun wx => okX xo xn xs m = true ∧ Below w.heap.size w wx ∧ Below W.heap.size W wx)
    case first =>
      clear hkm e0 CO HX HI HM
      by_cases q1 : xo = 1
      · subst q1
        by_cases e2 : 0 ≤ xn
        · have f2 : (xn < 0) = False := by simp; omega
          have f2c : decide (xn < 0) = false := by simp; omega
          by_cases e1 : xs.toList = []
          · have f1 : (xs.toList == []) = true := by simp [e1]
            (go_wp2_with (go_at_call 61; (with_reducible refine (CN.out _).mono ?_); rintro e w5 ⟨rfl, hb5⟩; have HB5 := Lib.hid hb5; clear hb5); go_meet; exact ⟨by simp [okX, ← HKM.out, e2, e1] <;> omega, HG2.out⟩)
          · have f1 : (xs.toList == []) = false := by simp [e1]
            (go_wp2_with (go_at_call 61; (with_reducible refine (CN.out _).mono ?_); rintro e w5 ⟨rfl, hb5⟩; have HB5 := Lib.hid hb5; clear hb5); go_ret; exact ⟨by rw [HF.out (by simp [okX, ← HKM.out, e2, e1] <;> omega)]; rfl, HG2.out.1⟩)
        · have f2 : xn < 0 := by omega
          (go_wp2_with (go_at_call 61; (with_reducible refine (CN.out _).mono ?_); rintro e w5 ⟨rfl, hb5⟩; have HB5 := Lib.hid hb5; clear hb5); go_ret; exact ⟨by rw [HF.out (by simp [okX, ← HKM.out, e2] <;> omega)]; rfl, HG2.out.1⟩)
      · have g1 : (xo == 1) = false := by simp [q1]
        by_cases q2 : xo = 2
        · subst q2
          by_cases e2 : 0 ≤ xn
          · have f2 : (xn < 0) = False := by simp; omega
            have f2c : decide (xn < 0) = false := by simp; omega
            by_cases e3 : xn ≤ 2932896
            · have f3 : (2932896 < xn) = False := by simp; omega
              by_cases e1 : xs.toList = []
              · have f1 : (xs.toList == []) = true := by simp [e1]
                (go_wp2_with (go_at_call 61; (with_reducible refine (CN.out _).mono ?_); rintro e w5 ⟨rfl, hb5⟩; have HB5 := Lib.hid hb5; clear hb5); go_meet; exact ⟨by simp [okX, ← HKM.out, e2, e3, e1] <;> omega, HG2.out⟩)
              · have f1 : (xs.toList == []) = false := by simp [e1]
                (go_wp2_with (go_at_call 61; (with_reducible refine (CN.out _).mono ?_); rintro e w5 ⟨rfl, hb5⟩; have HB5 := Lib.hid hb5; clear hb5); go_ret; exact ⟨by rw [HF.out (by simp [okX, ← HKM.out, e2, e3, e1] <;> omega)]; rfl, HG2.out.1⟩)
            · have f3 : 2932896 < xn := by omega
              (go_wp2_with (go_at_call 61; (with_reducible refine (CN.out _).mono ?_); rintro e w5 ⟨rfl, hb5⟩; have HB5 := Lib.hid hb5; clear hb5); go_ret; exact ⟨by rw [HF.out (by simp [okX, ← HKM.out, e2, e3] <;> omega)]; rfl, HG2.out.1⟩)
          · have f2 : xn < 0 := by omega
            (go_wp2_with (go_at_call 61; (with_reducible refine (CN.out _).mono ?_); rintro e w5 ⟨rfl, hb5⟩; have HB5 := Lib.hid hb5; clear hb5); go_ret; exact ⟨by rw [HF.out (by simp [okX, ← HKM.out, e2] <;> omega)]; rfl, HG2.out.1⟩)
        · have g2 : (xo == 2) = false := by simp [q2]
          by_cases q3 : xo = 3
          · subst q3
            by_cases e4 : xn = 0
            · subst e4
              cases fr with
              | true => (go_wp2_with (go_at_call 61; (with_reducible refine (CN.out _).mono ?_); rintro e w5 ⟨rfl, hb5⟩; have HB5 := Lib.hid hb5; clear hb5); go_meet; exact ⟨by simp [okX, ← HKM.out, HFR.out.symm] <;> omega, ⟨below_mono HG2.out.1 HB5.out (Nat.le_refl _), below_mono HG2.out.2 HB5.out (Nat.le_refl _)⟩⟩)
              | false => (go_wp2_with (go_at_call 61; (with_reducible refine (CN.out _).mono ?_); rintro e w5 ⟨rfl, hb5⟩; have HB5 := Lib.hid hb5; clear hb5); go_ret; exact ⟨by rw [HF.out (by simp [okX, ← HKM.out, HFR.out.symm] <;> omega)]; rfl, below_mono HG2.out.1 HB5.out (Nat.le_refl _)⟩)
            · have f4 : (xn == 0) = false := by simp [e4]
              (go_wp2_with (go_at_call 61; (with_reducible refine (CN.out _).mono ?_); rintro e w5 ⟨rfl, hb5⟩; have HB5 := Lib.hid hb5; clear hb5); go_ret; exact ⟨by rw [HF.out (by simp [okX, ← HKM.out, e4] <;> omega)]; rfl, HG2.out.1⟩)
          · have g3 : (xo == 3) = false := by simp [q3]
            by_cases e4 : xn = 0
            · have f4 : (xn == 0) = true := by simp [e4]
              by_cases e1 : xs.toList = []
              · have f1 : (xs.toList == []) = true := by simp [e1]
                (go_wp2_with (go_at_call 61; (with_reducible refine (CN.out _).mono ?_); rintro e w5 ⟨rfl, hb5⟩; have HB5 := Lib.hid hb5; clear hb5); go_meet; exact ⟨by simp [okX, ← HKM.out, q1, q2, q3, e4, e1] <;> omega, HG2.out⟩)
              · have f1 : (xs.toList == []) = false := by simp [e1]
                (go_wp2_with (go_at_call 61; (with_reducible refine (CN.out _).mono ?_); rintro e w5 ⟨rfl, hb5⟩; have HB5 := Lib.hid hb5; clear hb5); go_ret; exact ⟨by rw [HF.out (by simp [okX, ← HKM.out, q1, q2, q3, e4, e1] <;> omega)]; rfl, HG2.out.1⟩)
            · have f4 : (xn == 0) = false := by simp [e4]
              (go_wp2_with (go_at_call 61; (with_reducible refine (CN.out _).mono ?_); rintro e w5 ⟨rfl, hb5⟩; have HB5 := Lib.hid hb5; clear hb5); go_ret; exact ⟨by rw [HF.out (by simp [okX, ← HKM.out, q1, q2, q3, e4] <;> omega)]; rfl, HG2.out.1⟩)
    case rest =>
      obtain ⟨hok, hw1, hw2⟩ := hcut
      have HOK : Hid (bt = l.all Xp.blt) := Lib.hid (by rw [HBE.out, hok]; simp)
      have HW := Lib.hid (And.intro hw1 hw2)
      clear hok hw1 hw2 c0 c1 c2 c3 hkm e0 CO CN HF HKM HG2
      obtain ⟨wk, hwk⟩ : ∃ X, X = wc := ⟨_, rfl⟩
      rw [← hwk] at HW ⊢
      clear hwk
      go_upto_region 16 with fail
      go_loopw [3] (fun v wr => ∃ j : Nat, j ≤ m ∧ v = .int .i64 j ∧ Hid ((l.take j).all Xp.blt = true ∧ Below w.heap.size w wr ∧ Below W.heap.size W wr)) (fun v _ => m - (intOf v).toNat)
      case atStart => exact ⟨0, by omega, rfl, Lib.hid ⟨by simp, HW.out⟩⟩
      case round =>
        obtain ⟨j, hj, rfl, HR⟩ := hrel
        have c3 : wr.cell? ⟨z, 3, none⟩ = some (.slice bo m k) := cell_blk ((HR.out.2.2.block z (lt_of_heap HBX.out)).trans HBX.out) 3
        by_cases hlt : j < m
        · obtain ⟨y, hy⟩ : ∃ y, l[j]? = some y := ⟨_, List.getElem?_eq_getElem (by rw [← HM.out]; exact hlt)⟩
          obtain ⟨a, co, ck, rfl, hsa, hck, ⟨y0, y1, y2, y3⟩, hyl⟩ := (HX.out wr HR.out.2.1).get hy
          have IHy := HI.out y (List.mem_of_getElem? hy)
          have hat := all_take (p := Xp.blt) hy
          have hym := List.mem_of_getElem? hy
          obtain ⟨yb, hyb⟩ : ∃ v, v = y.blt := ⟨_, rfl⟩
          have CY : Hid (Calls Try.prog 62 #[exV y co ck] wr fun e w' => e = .returned (.bool yb) ∧ Below wr.heap.size wr w') := Lib.hid (by
            rw [hyb]
            exact IHy co ck wr HR.out.2.1 hck hyl)
          have HAT : Hid ((l.take (j + 1)).all Xp.blt = yb) := Lib.hid (by rw [hat, HR.out.1, hyb]; simp)
          have HNO : Hid (yb = false → bt = false) := Lib.hid fun h => by
            rw [HOK.out, List.all_eq_false]
            exact ⟨y, hym, by rw [← hyb, h]; simp⟩
          obtain ⟨cm, hcm⟩ : ∃ c, c = y.args.length := ⟨_, rfl⟩
          obtain ⟨yo, hyo⟩ : ∃ v, v = y.op := ⟨_, rfl⟩
          obtain ⟨yn, hyn⟩ : ∃ v, v = y.n := ⟨_, rfl⟩
          obtain ⟨ys, hys⟩ : ∃ v, v = y.nm := ⟨_, rfl⟩
          rw [← hcm] at y3
          rw [← hyo] at y0
          rw [← hyn] at y1
          rw [← hys] at y2
          rw [show exV y co ck = .agg #[.int .i64 yo, .int .i64 yn, .string ys, .slice co cm ck] from by rw [hcm, hyo, hyn, hys]] at CY
          have j0 : (0 : Int) ≤ (j : Int) := by omega
          have j1 : (j : Int) < (m : Int) := by omega
          clear hcm hyo hyn hys hsa hck hyl hy IHy hat hym hyb
          cases yb with
          | true =>
            go_wp2_with (go_at_call 62; (with_reducible refine CY.out.mono ?_); rintro e w4 ⟨rfl, h1⟩; have HZ4 := Lib.hid h1; clear h1)
            go_roundw
            case rel => exact ⟨j + 1, by omega, by go_num, Lib.hid ⟨HAT.out, below_mono HR.out.2.1 HZ4.out (Nat.le_refl _), below_mono HR.out.2.2 HZ4.out (Nat.le_refl _)⟩⟩
            case measure => simp [intOf]; omega
          | false =>
            go_wp2_with (go_at_call 62; (with_reducible refine CY.out.mono ?_); rintro e w4 ⟨rfl, h1⟩; have HZ4 := Lib.hid h1; clear h1)
            go_ret
            exact ⟨by rw [HNO.out (by simp)]; rfl, below_mono HR.out.2.1 HZ4.out (Nat.le_refl _)⟩
        · obtain rfl : j = m := by omega
          have hall : l.all Xp.blt = true := by
            have := HR.out.1
            rwa [List.take_of_length_le (by rw [HM.out]; exact Nat.le_refl _)] at this
          have HT : Hid (bt = true) := Lib.hid (by rw [HOK.out, hall])
          clear hall
          go_wp2_with fail
          go_ret
          exact ⟨by rw [HT.out]; rfl, HR.out.2.1⟩
  · have e0 : ((m : Int) == kd) = false := by simp [hkm]
    have HNO : Hid (bt = false) := Lib.hid (by rw [HBE.out]; unfold okX; rw [← HKD.out]; simp [hkm])
    go_quiet ((go_at_call 72; (with_reducible exact Calls.quiet_of_same (CO.out _))))
    go_wp2_with fail
    go_ret
    exact ⟨by rw [HNO.out]; rfl, by first | exact HG.out | exact (HBD.out _).2.1⟩
end Go.Proofs.Ythhimllddgfddaa
