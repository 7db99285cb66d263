/- Trees: the program's builtExpr. Conditions: those written at each theorem. -/
import Derived.Test.YthhimllddgfddaaTrE
namespace Go.Proofs.Ythhimllddgfddaa
open Go.RowKit Go.PlainAid
set_option linter.unusedVariables false
set_option linter.unusedSimpArgs false
theorem all_take {α : Type} {l : List α} {p : α → Bool} {j : Nat} {y : α} (h : l[j]? = some y) : (l.take (j + 1)).all p = ((l.take j).all p && p y) := by
  rw [List.take_add_one, h]
  simp
set_option maxRecDepth 100000 in
set_option maxHeartbeats 8000000 in
theorem builtExpr_any {S : Nat → Prop} {B : Nat} (hS : ∀ b, S b → b < B) (x : Xp) : ∀ (bo : Option Addr) (k : Nat) (w : World), B ≤ w.heap.size → x.fit → x.cnt < 1000 → x.args.length ≤ k → ExL S w x.args bo →
    Calls Try.prog 45 #[exV x bo k] w fun e w' => e = .returned (.bool x.blt) ∧ Below w.heap.size w w' := by
  induction x using Xp.ind with
  | h x IH =>
  intro bo k w hB hf hn hk hx
  have hc := x.cnt_eq
  have hbe := x.blt_eq
  have hfe := (x.fit_eq).1 hf
  obtain ⟨z, hz⟩ : ∃ z, z = w.heap.size := ⟨_, rfl⟩
  obtain ⟨l, hl⟩ : ∃ l, l = x.args := ⟨_, rfl⟩
  rw [← hl] at IH hk hx hc hbe hfe
  obtain ⟨m, hm⟩ : ∃ m, m = l.length := ⟨_, rfl⟩
  obtain ⟨xo, hxo⟩ : ∃ v, v = x.op := ⟨_, rfl⟩
  obtain ⟨xn, hxn⟩ : ∃ v, v = x.n := ⟨_, rfl⟩
  obtain ⟨xs, hxs⟩ : ∃ v, v = x.nm := ⟨_, rfl⟩
  rw [show exV x bo k = .agg #[.int .i64 xo, .int .i64 xn, .string xs, .slice bo m k] from by rw [hm, hl, hxo, hxn, hxs]]
  have GA : Hid (∀ W, w.alloc (.cells #[.int .i64 xo, .int .i64 xn, .string xs, .slice bo m k] 53) = W → W.heap[z]? = some (.cells #[.int .i64 xo, .int .i64 xn, .string xs, .slice bo m k] 53 (0, 0)) ∧ Below w.heap.size w W) := Lib.hid (by
    rintro W rfl
    exact ⟨by rw [hz]; exact heap_alloc_new w _, (Below.refl w.heap.size w).alloc (Nat.le_refl _) _⟩)
  have HX : Hid (∀ W, Below w.heap.size w W → ExL S W l bo) := Lib.hid fun W hW => hx.stay (fun _ h => h) fun b hb => hW.block b (by have := hS b hb; omega)
  have HI : Hid (∀ y ∈ l, ∀ (co : Option Addr) (ck : Nat) W, Below w.heap.size w W → y.args.length ≤ ck → ExL S W y.args co → Calls Try.prog 45 #[exV y co ck] W fun e w' => e = .returned (.bool y.blt) ∧ Below W.heap.size W w') := Lib.hid fun y hy co ck W hW h1 h2 => by
    obtain ⟨j, hj⟩ := List.mem_iff_getElem?.1 hy
    have := cnts_in hj
    exact IH y hy co ck W (by have := hW.size; omega) ((xfits_all l).1 hfe.2 y hy) (by omega) h1 h2
  have CN := Lib.hid (tnamed_any xs (by rw [hxs]; exact hfe.1))
  have CO := Lib.hid (operands_any xo)
  obtain ⟨fr, hfr⟩ : ∃ v, v = fre xs := ⟨_, rfl⟩
  rw [← hfr] at CN
  have HFR := Lib.hid hfr
  have HBE : Hid (x.blt = (okX xo xn xs m && l.all Xp.blt)) := Lib.hid (by rw [hbe, blts_all, hxo, hxn, hxs, hm])
  obtain ⟨bt, hbt⟩ : ∃ v, v = x.blt := ⟨_, rfl⟩
  rw [← hbt] at HBE ⊢
  have HM := Lib.hid hm
  have hm6 : m < 1000 := by
    have := len_cnts l
    omega
  clear hx IH hf hn hk hc hbe hfe hl hm hxo hxn hxs hfr hbt
  go_enter Try.func45, Try.ntmps45
  go_upto_region 1 with fail
  obtain ⟨W, hW⟩ : ∃ X, w.alloc (.cells #[.int .i64 xo, .int .i64 xn, .string xs, .slice bo m k] 53) = X := ⟨_, rfl⟩
  rw [hW, ← hz]
  obtain ⟨b1, g1⟩ := GA.out W hW
  have HG := Lib.hid g1
  have HBX := Lib.hid b1
  obtain ⟨c0, c1, c2, c3⟩ := quad b1
  clear hW b1 g1 GA hz
  go_upto_region 2 with fail
  clear c0 c1 c2 c3
  go_loopw [9] (fun v wr => ∃ j : Nat, j ≤ m ∧ v = .int .i64 j ∧ Hid ((l.take j).all Xp.blt = true ∧ Below w.heap.size w wr ∧ Below W.heap.size W wr)) (fun v _ => m - (intOf v).toNat)
  case atStart => exact ⟨0, by omega, rfl, Lib.hid ⟨by simp, HG.out, Below.refl _ _⟩⟩
  case round =>
    obtain ⟨j, hj, rfl, HR⟩ := hrel
    by_cases hlt : j < m
    · obtain ⟨y, hy⟩ : ∃ y, l[j]? = some y := ⟨_, List.getElem?_eq_getElem (by rw [← HM.out]; exact hlt)⟩
      obtain ⟨a, co, ck, rfl, hsa, hck, ⟨y0, y1, y2, y3⟩, hyl⟩ := (HX.out wr HR.out.2.1).get hy
      have IHy := HI.out y (List.mem_of_getElem? hy)
      have hat := all_take (p := Xp.blt) hy
      have hym := List.mem_of_getElem? hy
      obtain ⟨yb, hyb⟩ : ∃ v, v = y.blt := ⟨_, rfl⟩
      have CY : Hid (∀ W, Below wr.heap.size wr W → Calls Try.prog 45 #[exV y co ck] W fun e w' => e = .returned (.bool yb) ∧ Below W.heap.size W w') := Lib.hid fun W hW => by
        rw [hyb]
        exact IHy co ck W (below_mono HR.out.2.1 hW (Nat.le_refl _)) hck (hyl.stay (fun _ h => h) fun b hb => hW.block b (by have := hS b hb; have := HR.out.2.1.size; omega))
      have HAT : Hid ((l.take (j + 1)).all Xp.blt = yb) := Lib.hid (by rw [hat, HR.out.1, hyb]; simp)
      have HNO : Hid (yb = false → bt = false) := Lib.hid fun h => by
        rw [HBE.out]
        have : l.all Xp.blt = false := by
          rw [List.all_eq_false]
          exact ⟨y, hym, by rw [← hyb, h]; simp⟩
        rw [this]; simp
      obtain ⟨cm, hcm⟩ : ∃ c, c = y.args.length := ⟨_, rfl⟩
      obtain ⟨yo, hyo⟩ : ∃ v, v = y.op := ⟨_, rfl⟩
      obtain ⟨yn, hyn⟩ : ∃ v, v = y.n := ⟨_, rfl⟩
      obtain ⟨ys, hys⟩ : ∃ v, v = y.nm := ⟨_, rfl⟩
      rw [← hcm] at y3
      rw [← hyo] at y0
      rw [← hyn] at y1
      rw [← hys] at y2
      have CY2 : Hid (∀ W, Below wr.heap.size wr W → Calls Try.prog 45 #[.agg #[.int .i64 yo, .int .i64 yn, .string ys, .slice co cm ck]] W fun e w' => e = .returned (.bool yb) ∧ Below W.heap.size W w') := by
        rw [hcm, hyo, hyn, hys]; exact CY
      obtain ⟨⟨r0, r1, r2, r3⟩, p0, p1, p2, p3⟩ := new_zero wr (.int .i64 0) (.int .i64 0) (.string ⟨#[]⟩) (.slice none 0 0) 53
      obtain ⟨u, hu⟩ : ∃ u, u = wr.heap.size := ⟨_, rfl⟩
      have j0 : (0 : Int) ≤ (j : Int) := by omega
      have j1 : (j : Int) < (m : Int) := by omega
      clear hcm hyo hyn hys hsa hck hyl hy CY IHy hat hym hyb
      go_upto_region 4 with fail
      clear r0 r1 r2 r3 p0 p1 p2 p3 y0 y1 y2 y3
      obtain ⟨W3, hW3⟩ : ∃ X, wr.alloc (.cells #[.int .i64 yo, .int .i64 yn, .string ys, .slice co cm ck] 53) = X := ⟨_, rfl⟩
      have HB3 := Lib.hid (made_box wr _ W3 hW3)
      have hb3 : W3.heap[wr.heap.size]? = some (.cells #[.int .i64 yo, .int .i64 yn, .string ys, .slice co cm ck] 53 (0, 0)) := by rw [← hW3]; exact heap_alloc_new _ _
      rw [hW3]
      obtain ⟨y0, y1, y2, y3⟩ := quad hb3
      rw [← hu] at y0 y1 y2 y3 ⊢
      clear hb3 hW3 hu
      cases yb with
      | true =>
        go_wp2_with (go_at_call 45; (with_reducible refine (CY2.out _ HB3.out.1.2).mono ?_); rintro e w4 ⟨rfl, h1⟩; have HZ4 := Lib.hid (below_mono HB3.out.1.2 h1 (Nat.le_refl _)); clear h1)
        go_roundw
        case rel => exact ⟨j + 1, by omega, by go_num, Lib.hid ⟨HAT.out, below_mono HR.out.2.1 HZ4.out (Nat.le_refl _), below_mono HR.out.2.2 HZ4.out (Nat.le_refl _)⟩⟩
        case measure => simp [intOf]; omega
      | false =>
        go_wp2_with (go_at_call 45; (with_reducible refine (CY2.out _ HB3.out.1.2).mono ?_); rintro e w4 ⟨rfl, h1⟩; have HZ4 := Lib.hid (below_mono HB3.out.1.2 h1 (Nat.le_refl _)); clear h1)
        go_ret
        exact ⟨by rw [HNO.out (by simp)]; rfl, below_mono HR.out.2.1 HZ4.out (Nat.le_refl _)⟩
    · obtain rfl : j = m := by omega
      have hall : l.all Xp.blt = true := by
        have := HR.out.1
        rwa [List.take_of_length_le (by rw [HM.out]; exact Nat.le_refl _)] at this
      have HOK : Hid (bt = okX xo xn xs j) := Lib.hid (by rw [HBE.out, hall]; simp)
      have HBW := Lib.hid HR.out.2.1
      obtain ⟨c0, c1, c2, c3⟩ := quad ((HR.out.2.2.block z (lt_of_heap HBX.out)).trans HBX.out)
      clear hall HR HBE HX HI HG HBX HM
      obtain ⟨M, hM⟩ : ∃ M : Int, M = (j : Int) := ⟨_, rfl⟩
      have HMM := Lib.hid hM
      by_cases hj0 : j = 0
      · subst hj0
        by_cases q1 : xo = 1
        · subst q1
          by_cases e1 : xs.toList = []
          · have f1 : (xs.toList == []) = true := by simp [e1]
            by_cases e2 : 0 ≤ xn
            · skip
              (go_wp2_with (first | (go_at_call 46; (with_reducible refine (CN.out _).mono ?_); rintro e w5 ⟨rfl, rfl⟩) | (go_at_call 58; (with_reducible refine (CO.out _).mono ?_); rintro e w6 ⟨rfl, rfl⟩)); go_ret; exact ⟨by rw [HOK.out]; simp [okX, kidsX, e1, e2] <;> omega, HBW.out⟩)
            · have f2 : (0 ≤ xn) = False := by simpa using e2
              have f2b : decide (0 ≤ xn) = false := by simpa using e2
              (go_wp2_with (first | (go_at_call 46; (with_reducible refine (CN.out _).mono ?_); rintro e w5 ⟨rfl, rfl⟩) | (go_at_call 58; (with_reducible refine (CO.out _).mono ?_); rintro e w6 ⟨rfl, rfl⟩)); go_ret; exact ⟨by rw [HOK.out]; simp [okX, kidsX, e1, e2] <;> omega, HBW.out⟩)
          · have f1 : (xs.toList == []) = false := by simp [e1]
            (go_wp2_with (first | (go_at_call 46; (with_reducible refine (CN.out _).mono ?_); rintro e w5 ⟨rfl, rfl⟩) | (go_at_call 58; (with_reducible refine (CO.out _).mono ?_); rintro e w6 ⟨rfl, rfl⟩)); go_ret; exact ⟨by rw [HOK.out]; simp [okX, kidsX, e1] <;> omega, HBW.out⟩)
        · have g1 : (xo == 1) = false := by simp [q1]
          by_cases q2 : xo = 2
          · subst q2
            by_cases e1 : xs.toList = []
            · have f1 : (xs.toList == []) = true := by simp [e1]
              by_cases e2 : 0 ≤ xn
              · skip
                by_cases e3 : xn ≤ 2932896
                · skip
                  (go_wp2_with (first | (go_at_call 46; (with_reducible refine (CN.out _).mono ?_); rintro e w5 ⟨rfl, rfl⟩) | (go_at_call 58; (with_reducible refine (CO.out _).mono ?_); rintro e w6 ⟨rfl, rfl⟩)); go_ret; exact ⟨by rw [HOK.out]; simp [okX, kidsX, e1, e2, e3] <;> omega, HBW.out⟩)
                · have f3 : (xn ≤ 2932896) = False := by simpa using e3
                  have f3b : decide (xn ≤ 2932896) = false := by simpa using e3
                  (go_wp2_with (first | (go_at_call 46; (with_reducible refine (CN.out _).mono ?_); rintro e w5 ⟨rfl, rfl⟩) | (go_at_call 58; (with_reducible refine (CO.out _).mono ?_); rintro e w6 ⟨rfl, rfl⟩)); go_ret; exact ⟨by rw [HOK.out]; simp [okX, kidsX, e1, e2, e3] <;> omega, HBW.out⟩)
              · have f2 : (0 ≤ xn) = False := by simpa using e2
                have f2b : decide (0 ≤ xn) = false := by simpa using e2
                (go_wp2_with (first | (go_at_call 46; (with_reducible refine (CN.out _).mono ?_); rintro e w5 ⟨rfl, rfl⟩) | (go_at_call 58; (with_reducible refine (CO.out _).mono ?_); rintro e w6 ⟨rfl, rfl⟩)); go_ret; exact ⟨by rw [HOK.out]; simp [okX, kidsX, e1, e2] <;> omega, HBW.out⟩)
            · have f1 : (xs.toList == []) = false := by simp [e1]
              (go_wp2_with (first | (go_at_call 46; (with_reducible refine (CN.out _).mono ?_); rintro e w5 ⟨rfl, rfl⟩) | (go_at_call 58; (with_reducible refine (CO.out _).mono ?_); rintro e w6 ⟨rfl, rfl⟩)); go_ret; exact ⟨by rw [HOK.out]; simp [okX, kidsX, e1] <;> omega, HBW.out⟩)
          · have g2 : (xo == 2) = false := by simp [q2]
            by_cases q3 : xo = 3
            · subst q3
              cases fr with
              | true =>
                by_cases e4 : xn = 0
                · have f4 : (xn == 0) = true := by simp [e4]
                  (go_wp2_with (first | (go_at_call 46; (with_reducible refine (CN.out _).mono ?_); rintro e w5 ⟨rfl, rfl⟩) | (go_at_call 58; (with_reducible refine (CO.out _).mono ?_); rintro e w6 ⟨rfl, rfl⟩)); go_ret; exact ⟨by rw [HOK.out]; simp [okX, kidsX, HFR.out.symm, e4] <;> omega, HBW.out⟩)
                · have f4 : (xn == 0) = false := by simp [e4]
                  (go_wp2_with (first | (go_at_call 46; (with_reducible refine (CN.out _).mono ?_); rintro e w5 ⟨rfl, rfl⟩) | (go_at_call 58; (with_reducible refine (CO.out _).mono ?_); rintro e w6 ⟨rfl, rfl⟩)); go_ret; exact ⟨by rw [HOK.out]; simp [okX, kidsX, HFR.out.symm, e4] <;> omega, HBW.out⟩)
              | false =>
                (go_wp2_with (first | (go_at_call 46; (with_reducible refine (CN.out _).mono ?_); rintro e w5 ⟨rfl, rfl⟩) | (go_at_call 58; (with_reducible refine (CO.out _).mono ?_); rintro e w6 ⟨rfl, rfl⟩)); go_ret; exact ⟨by rw [HOK.out]; simp [okX, kidsX, HFR.out.symm] <;> omega, HBW.out⟩)
            · have g3 : (xo == 3) = false := by simp [q3]
              obtain ⟨opn, hopn⟩ : ∃ v : Int, v = (if xo = 4 then 0 else if xo = 19 ∨ xo = 20 then 1 else if 5 ≤ xo ∧ xo ≤ 18 then 2 else if xo = 21 then 3 else -1) := ⟨_, rfl⟩
              have HKX : Hid (kidsX xo = opn) := Lib.hid (by rw [hopn]; unfold kidsX; (repeat' split) <;> omega)
              rw [← hopn] at CO
              clear hopn
              by_cases e5 : opn = 0
              · subst e5
                by_cases e4 : xn = 0
                · have f4 : (xn == 0) = true := by simp [e4]
                  by_cases e1 : xs.toList = []
                  · have f1 : (xs.toList == []) = true := by simp [e1]
                    (go_wp2_with (first | (go_at_call 46; (with_reducible refine (CN.out _).mono ?_); rintro e w5 ⟨rfl, rfl⟩) | (go_at_call 58; (with_reducible refine (CO.out _).mono ?_); rintro e w6 ⟨rfl, rfl⟩)); go_ret; exact ⟨by rw [HOK.out]; simp [okX, q1, q2, q3, HKX.out, e4, e1] <;> omega, HBW.out⟩)
                  · have f1 : (xs.toList == []) = false := by simp [e1]
                    (go_wp2_with (first | (go_at_call 46; (with_reducible refine (CN.out _).mono ?_); rintro e w5 ⟨rfl, rfl⟩) | (go_at_call 58; (with_reducible refine (CO.out _).mono ?_); rintro e w6 ⟨rfl, rfl⟩)); go_ret; exact ⟨by rw [HOK.out]; simp [okX, q1, q2, q3, HKX.out, e4, e1] <;> omega, HBW.out⟩)
                · have f4 : (xn == 0) = false := by simp [e4]
                  (go_wp2_with (first | (go_at_call 46; (with_reducible refine (CN.out _).mono ?_); rintro e w5 ⟨rfl, rfl⟩) | (go_at_call 58; (with_reducible refine (CO.out _).mono ?_); rintro e w6 ⟨rfl, rfl⟩)); go_ret; exact ⟨by rw [HOK.out]; simp [okX, q1, q2, q3, HKX.out, e4] <;> omega, HBW.out⟩)
              · have f5 : (0 == opn) = false := by simp; omega
                have f6 : (opn == 0) = false := by simp [e5]
                by_cases e4 : xn = 0
                · have f4 : (xn == 0) = true := by simp [e4]
                  by_cases e1 : xs.toList = []
                  · have f1 : (xs.toList == []) = true := by simp [e1]
                    (go_wp2_with (first | (go_at_call 46; (with_reducible refine (CN.out _).mono ?_); rintro e w5 ⟨rfl, rfl⟩) | (go_at_call 58; (with_reducible refine (CO.out _).mono ?_); rintro e w6 ⟨rfl, rfl⟩)); go_ret; exact ⟨by rw [HOK.out]; simp [okX, q1, q2, q3, HKX.out, f5, e4, e1] <;> omega, HBW.out⟩)
                  · have f1 : (xs.toList == []) = false := by simp [e1]
                    (go_wp2_with (first | (go_at_call 46; (with_reducible refine (CN.out _).mono ?_); rintro e w5 ⟨rfl, rfl⟩) | (go_at_call 58; (with_reducible refine (CO.out _).mono ?_); rintro e w6 ⟨rfl, rfl⟩)); go_ret; exact ⟨by rw [HOK.out]; simp [okX, q1, q2, q3, HKX.out, f5, e4, e1] <;> omega, HBW.out⟩)
                · have f4 : (xn == 0) = false := by simp [e4]
                  (go_wp2_with (first | (go_at_call 46; (with_reducible refine (CN.out _).mono ?_); rintro e w5 ⟨rfl, rfl⟩) | (go_at_call 58; (with_reducible refine (CO.out _).mono ?_); rintro e w6 ⟨rfl, rfl⟩)); go_ret; exact ⟨by rw [HOK.out]; simp [okX, q1, q2, q3, HKX.out, f5, e4] <;> omega, HBW.out⟩)
      · have ej : ((j : Int) == 0) = false := by simp; omega
        by_cases q1 : xo = 1
        · subst q1
          (go_wp2_with (first | (go_at_call 46; (with_reducible refine (CN.out _).mono ?_); rintro e w5 ⟨rfl, rfl⟩) | (go_at_call 58; (with_reducible refine (CO.out _).mono ?_); rintro e w6 ⟨rfl, rfl⟩)); go_ret; exact ⟨by rw [HOK.out]; simp [okX, kidsX, hj0] <;> omega, HBW.out⟩)
        · have g1 : (xo == 1) = false := by simp [q1]
          by_cases q2 : xo = 2
          · subst q2
            (go_wp2_with (first | (go_at_call 46; (with_reducible refine (CN.out _).mono ?_); rintro e w5 ⟨rfl, rfl⟩) | (go_at_call 58; (with_reducible refine (CO.out _).mono ?_); rintro e w6 ⟨rfl, rfl⟩)); go_ret; exact ⟨by rw [HOK.out]; simp [okX, kidsX, hj0] <;> omega, HBW.out⟩)
          · have g2 : (xo == 2) = false := by simp [q2]
            by_cases q3 : xo = 3
            · subst q3
              (go_wp2_with (first | (go_at_call 46; (with_reducible refine (CN.out _).mono ?_); rintro e w5 ⟨rfl, rfl⟩) | (go_at_call 58; (with_reducible refine (CO.out _).mono ?_); rintro e w6 ⟨rfl, rfl⟩)); go_ret; exact ⟨by rw [HOK.out]; simp [okX, kidsX, hj0] <;> omega, HBW.out⟩)
            · have g3 : (xo == 3) = false := by simp [q3]
              obtain ⟨opn, hopn⟩ : ∃ v : Int, v = (if xo = 4 then 0 else if xo = 19 ∨ xo = 20 then 1 else if 5 ≤ xo ∧ xo ≤ 18 then 2 else if xo = 21 then 3 else -1) := ⟨_, rfl⟩
              have HKX : Hid (kidsX xo = opn) := Lib.hid (by rw [hopn]; unfold kidsX; (repeat' split) <;> omega)
              rw [← hopn] at CO
              clear hopn
              by_cases e5 : (j : Int) = opn
              · have f5 : ((j : Int) == opn) = true := by simp [e5]
                by_cases e4 : xn = 0
                · have f4 : (xn == 0) = true := by simp [e4]
                  by_cases e1 : xs.toList = []
                  · have f1 : (xs.toList == []) = true := by simp [e1]
                    (go_wp2_with (first | (go_at_call 46; (with_reducible refine (CN.out _).mono ?_); rintro e w5 ⟨rfl, rfl⟩) | (go_at_call 58; (with_reducible refine (CO.out _).mono ?_); rintro e w6 ⟨rfl, rfl⟩)); go_ret; exact ⟨by rw [HOK.out]; simp [okX, q1, q2, q3, HKX.out, e5, e4, e1] <;> omega, HBW.out⟩)
                  · have f1 : (xs.toList == []) = false := by simp [e1]
                    (go_wp2_with (first | (go_at_call 46; (with_reducible refine (CN.out _).mono ?_); rintro e w5 ⟨rfl, rfl⟩) | (go_at_call 58; (with_reducible refine (CO.out _).mono ?_); rintro e w6 ⟨rfl, rfl⟩)); go_ret; exact ⟨by rw [HOK.out]; simp [okX, q1, q2, q3, HKX.out, e5, e4, e1] <;> omega, HBW.out⟩)
                · have f4 : (xn == 0) = false := by simp [e4]
                  (go_wp2_with (first | (go_at_call 46; (with_reducible refine (CN.out _).mono ?_); rintro e w5 ⟨rfl, rfl⟩) | (go_at_call 58; (with_reducible refine (CO.out _).mono ?_); rintro e w6 ⟨rfl, rfl⟩)); go_ret; exact ⟨by rw [HOK.out]; simp [okX, q1, q2, q3, HKX.out, e5, e4] <;> omega, HBW.out⟩)
              · have f5 : ((j : Int) == opn) = false := by simp [e5]
                by_cases e4 : xn = 0
                · have f4 : (xn == 0) = true := by simp [e4]
                  by_cases e1 : xs.toList = []
                  · have f1 : (xs.toList == []) = true := by simp [e1]
                    (go_wp2_with (first | (go_at_call 46; (with_reducible refine (CN.out _).mono ?_); rintro e w5 ⟨rfl, rfl⟩) | (go_at_call 58; (with_reducible refine (CO.out _).mono ?_); rintro e w6 ⟨rfl, rfl⟩)); go_ret; exact ⟨by rw [HOK.out]; simp [okX, q1, q2, q3, HKX.out, e5, e4, e1] <;> omega, HBW.out⟩)
                  · have f1 : (xs.toList == []) = false := by simp [e1]
                    (go_wp2_with (first | (go_at_call 46; (with_reducible refine (CN.out _).mono ?_); rintro e w5 ⟨rfl, rfl⟩) | (go_at_call 58; (with_reducible refine (CO.out _).mono ?_); rintro e w6 ⟨rfl, rfl⟩)); go_ret; exact ⟨by rw [HOK.out]; simp [okX, q1, q2, q3, HKX.out, e5, e4, e1] <;> omega, HBW.out⟩)
                · have f4 : (xn == 0) = false := by simp [e4]
                  (go_wp2_with (first | (go_at_call 46; (with_reducible refine (CN.out _).mono ?_); rintro e w5 ⟨rfl, rfl⟩) | (go_at_call 58; (with_reducible refine (CO.out _).mono ?_); rintro e w6 ⟨rfl, rfl⟩)); go_ret; exact ⟨by rw [HOK.out]; simp [okX, q1, q2, q3, HKX.out, e5, e4] <;> omega, HBW.out⟩)
end Go.Proofs.Ythhimllddgfddaa
