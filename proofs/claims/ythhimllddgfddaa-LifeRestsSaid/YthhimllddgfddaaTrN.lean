/- Trees: the document's Built. Conditions: those written at each theorem. -/
import Derived.Test.YthhimllddgfddaaTrM
namespace Go.Proofs.Ythhimllddgfddaa
open Go.RowKit Go.PlainAid
set_option linter.unusedVariables false
set_option linter.unusedSimpArgs false
set_option maxRecDepth 100000 in
set_option maxHeartbeats 8000000 in
theorem rbuiltT_any {S : Nat → Prop} {B : Nat} (hS : ∀ b, S b → b < B) (x : Tr) : ∀ (eo' : Option Addr) (ek' : Nat) (tb' : Option Addr) (tk' : Nat) (w : World), B ≤ w.heap.size → x.fit → x.cnt < 1000 → x.exprs.length ≤ ek' → x.terms.length ≤ tk' → ExL S w x.exprs eo' → TrL S w x.terms tb' →
    Calls Try.prog 48 #[trV x eo' ek' tb' tk'] w fun e w' => e = .returned (.bool x.blt) ∧ Below w.heap.size w w' := by
  induction x using Tr.ind with
  | h x IH =>
  intro eo' ek' tb' tk' w hB hf hn hk hk2 hx hx2
  have hc := x.cnt_eq
  have hbe := x.blt_eq
  have hfe := (x.fit_eq).1 hf
  obtain ⟨z, hz⟩ : ∃ z, z = w.heap.size := ⟨_, rfl⟩
  obtain ⟨l, hl⟩ : ∃ l, l = x.exprs := ⟨_, rfl⟩
  obtain ⟨l2, hl2⟩ : ∃ l, l = x.terms := ⟨_, rfl⟩
  rw [← hl] at hk hx hc hbe hfe
  rw [← hl2] at IH hk2 hx2 hc hbe hfe
  obtain ⟨m, hm⟩ : ∃ m, m = l.length := ⟨_, rfl⟩
  obtain ⟨m2, hm2⟩ : ∃ m, m = l2.length := ⟨_, rfl⟩
  obtain ⟨xo, hxo⟩ : ∃ v, v = x.op := ⟨_, rfl⟩
  obtain ⟨xs, hxs⟩ : ∃ v, v = x.nm := ⟨_, rfl⟩
  rw [show trV x eo' ek' tb' tk' = .agg #[.int .i64 xo, .string xs, .slice eo' m ek', .slice tb' m2 tk'] from by rw [hm, hm2, hl, hl2, hxo, hxs]]
  have GA : Hid (∀ W, w.alloc (.cells #[.int .i64 xo, .string xs, .slice eo' m ek', .slice tb' m2 tk'] 32) = W → W.heap[z]? = some (.cells #[.int .i64 xo, .string xs, .slice eo' m ek', .slice tb' m2 tk'] 32 (0, 0)) ∧ Below w.heap.size w W) := Lib.hid (by
    rintro W rfl
    exact ⟨by rw [hz]; exact heap_alloc_new w _, (Below.refl w.heap.size w).alloc (Nat.le_refl _) _⟩)
  have HST : Hid (∀ W, Below w.heap.size w W → ∀ b, S b → W.heap[b]? = w.heap[b]?) := Lib.hid fun W hW b hb => hW.block b (by have := hS b hb; omega)
  have HX : Hid (∀ W, Below w.heap.size w W → ExL S W l eo') := Lib.hid fun W hW => hx.stay (fun _ h => h) (HST.out W hW)
  have HY : Hid (∀ W, Below w.heap.size w W → TrL S W l2 tb') := Lib.hid fun W hW => hx2.stay (fun _ h => h) (HST.out W hW)
  have HJ : Hid (∀ y ∈ l, ∀ (co : Option Addr) (ck : Nat) W, Below w.heap.size w W → y.args.length ≤ ck → ExL S W y.args co → Calls Try.prog 62 #[exV y co ck] W fun e w' => e = .returned (.bool y.blt) ∧ Below W.heap.size W w') := Lib.hid fun y hy co ck W hW h1 h2 => by
    obtain ⟨j, hj⟩ := List.mem_iff_getElem?.1 hy
    have := cnts_in hj
    exact rbuiltX_any hS y co ck W (by have := hW.size; omega) (hfe.2.1 y hy) (by omega) h1 h2
  have HI : Hid (∀ y ∈ l2, ∀ (eo : Option Addr) (ek : Nat) (tb : Option Addr) (tk : Nat) W, Below w.heap.size w W → y.exprs.length ≤ ek → y.terms.length ≤ tk → ExL S W y.exprs eo → TrL S W y.terms tb → Calls Try.prog 48 #[trV y eo ek tb tk] W fun e w' => e = .returned (.bool y.blt) ∧ Below W.heap.size W w') := Lib.hid fun y hy eo ek tb tk W hW h1 h2 h3 h4 => by
    obtain ⟨j, hj⟩ := List.mem_iff_getElem?.1 hy
    have := tcnts_in hj
    exact IH y hy eo ek tb tk W (by have := hW.size; omega) ((tfits_all l2).1 hfe.2.2 y hy) (by omega) h1 h2 h3 h4
  have CN := Lib.hid (free_any xs (by rw [hxs]; exact hfe.1))
  obtain ⟨fr, hfr⟩ : ∃ v, v = fre xs := ⟨_, rfl⟩
  rw [← hfr] at CN
  have HFR := Lib.hid hfr
  have HBE : Hid (x.blt = (okT xo xs m m2 && l.all Xp.blt && l2.all Tr.blt)) := Lib.hid (by rw [hbe, tblts_all, hxo, hxs, hm, hm2])
  obtain ⟨bt, hbt⟩ : ∃ v, v = x.blt := ⟨_, rfl⟩
  rw [← hbt] at HBE ⊢
  have HM := Lib.hid hm
  have HM2 := Lib.hid hm2
  have hm6 : m < 1000 ∧ m2 < 1000 := by
    have := len_cnts l
    have := len_tcnts l2
    omega
  obtain ⟨hm6, hm7⟩ := hm6
  clear hx hx2 IH hf hn hk hk2 hc hbe hfe hl hl2 hm hm2 hxo hxs hfr hbt
  go_enter Try.func48, Try.ntmps48
  go_upto_region 1 with fail
  obtain ⟨W, hW⟩ : ∃ X, w.alloc (.cells #[.int .i64 xo, .string xs, .slice eo' m ek', .slice tb' m2 tk'] 32) = X := ⟨_, rfl⟩
  rw [hW, ← hz]
  obtain ⟨b1, g1⟩ := GA.out W hW
  have HG := Lib.hid g1
  have HBX := Lib.hid b1
  obtain ⟨c0, c1, c2, c3⟩ := quad b1
  clear hW b1 g1 GA hz
  go_upto_block 0 with fail
  go_cut [3, 4] (fun e t wx => e = .int .i64 (if 6 ≤ xo ∧ xo ≤ 9 then 1 else 0) ∧ t = .int .i64 (if xo = 3 then 1 else if xo = 4 ∨ xo = 5 then 2 else if 6 ≤ xo ∧ xo ≤ 9 then 1 else 0) ∧ W = wx)
  case first =>
    by_cases q3 : xo = 3
    · subst q3
      go_wp2_with fail
      go_meet
      exact ⟨by simp, by simp, rfl⟩
    · have g3 : (xo == 3) = false := by simp [q3]
      by_cases q4 : xo = 4
      · subst q4
        go_wp2_with fail
        go_meet
        exact ⟨by simp, by simp, rfl⟩
      · have g4 : (xo == 4) = false := by simp [q4]
        by_cases q5 : xo = 5
        · subst q5
          go_wp2_with fail
          go_meet
          exact ⟨by simp, by simp, rfl⟩
        · have g5 : (xo == 5) = false := by simp [q5]
          by_cases q6 : 6 ≤ xo
          · by_cases q9 : xo ≤ 9
            · go_wp2_with fail
              go_meet
              exact ⟨by simp [q6, q9], by simp [q3, q4, q5, q6, q9], rfl⟩
            · have f9 : (xo ≤ 9) = False := by simp; omega
              go_wp2_with fail
              go_meet
              exact ⟨by rw [if_neg (by omega)], by rw [if_neg q3, if_neg (by omega), if_neg (by omega)], rfl⟩
          · have f6 : (6 ≤ xo) = False := by simp; omega
            have f6b : decide (6 ≤ xo) = false := by simp; omega
            go_wp2_with fail
            go_meet
            exact ⟨by rw [if_neg (by omega)], by rw [if_neg q3, if_neg (by omega), if_neg (by omega)], rfl⟩
  case rest =>
    obtain ⟨rfl, rfl, rfl⟩ := hcut
    obtain ⟨E, hE⟩ : ∃ v : Int, v = (if 6 ≤ xo ∧ xo ≤ 9 then 1 else 0) := ⟨_, rfl⟩
    obtain ⟨T, hT⟩ : ∃ v : Int, v = (if xo = 3 then 1 else if xo = 4 ∨ xo = 5 then 2 else if 6 ≤ xo ∧ xo ≤ 9 then 1 else 0) := ⟨_, rfl⟩
    rw [← hT, ← hE]
    have HK : Hid (1 ≤ xo → xo ≤ 9 → kidE xo = E ∧ kidT xo = T) := Lib.hid (by intro h1 h2; rw [hE, hT]; unfold kidE kidT; constructor <;> (repeat' split) <;> omega)
    have HKN : Hid (¬ (1 ≤ xo ∧ xo ≤ 9) → kidE xo = -1) := Lib.hid (by intro h; unfold kidE; (repeat' split) <;> omega)
    clear hE hT
    obtain ⟨ok, hok⟩ : ∃ v, v = okT xo xs m m2 := ⟨_, rfl⟩
    have HOK := Lib.hid hok
    rw [← hok] at HBE
    obtain ⟨nk, hnk⟩ : ∃ v, v = !ok := ⟨_, rfl⟩
    have HNK := Lib.hid hnk
    clear hok hnk
    go_upto_region 9 with fail
    go_cut [2, 71] (fun s v wx => s = .bool false ∧ v = .bool nk ∧ Below w.heap.size w wx ∧ Below W.heap.size W wx)
    case first =>
      clear HX HY HI HJ HM HM2
      by_cases h1 : 1 ≤ xo
      · have f1 : (xo < 1) = False := by simp; omega
        have f1b : decide (xo < 1) = false := by simp; omega
        by_cases h9 : xo ≤ 9
        · have f9 : (9 < xo) = False := by simp; omega
          have f9b : decide (9 < xo) = false := by simp; omega
          have HKE := Lib.hid (HK.out h1 h9)
          by_cases hm1 : (m : Int) = E
          · have n1 : ((m : Int) == E) = true := by simp [hm1]
            have HM1 := Lib.hid hm1
            clear hm1
            by_cases ht1 : (m2 : Int) = T
            · have n2 : ((m2 : Int) == T) = true := by simp [ht1]
              have HT1 := Lib.hid ht1
              clear ht1
              by_cases q2 : xo = 2
              · subst q2
                clear f1 f1b f9 f9b
                cases fr with
                | true => (go_wp2_with (go_at_call 61; (with_reducible refine (CN.out _).mono ?_); rintro e w5 ⟨rfl, hb5⟩; have HB5 := Lib.hid hb5; have hz5 := (hb5.block z (lt_of_heap HBX.out)).trans HBX.out; clear hb5 c0 c1 c2 c3; obtain ⟨c0, c1, c2, c3⟩ := quad hz5; clear hz5); go_meet; exact ⟨rfl, by rw [HNK.out, show ok = true from by rw [HOK.out]; simp [okT, HKE.out.1, HKE.out.2, HM1.out, HT1.out, HFR.out.symm] <;> omega]; rfl, below_mono HG.out HB5.out (Nat.le_refl _), HB5.out⟩)
                | false => (go_wp2_with (go_at_call 61; (with_reducible refine (CN.out _).mono ?_); rintro e w5 ⟨rfl, hb5⟩; have HB5 := Lib.hid hb5; have hz5 := (hb5.block z (lt_of_heap HBX.out)).trans HBX.out; clear hb5 c0 c1 c2 c3; obtain ⟨c0, c1, c2, c3⟩ := quad hz5; clear hz5); go_meet; exact ⟨rfl, by rw [HNK.out, show ok = false from by rw [HOK.out]; simp [okT, HKE.out.1, HKE.out.2, HM1.out, HT1.out, HFR.out.symm] <;> omega]; rfl, below_mono HG.out HB5.out (Nat.le_refl _), HB5.out⟩)
              · have g2 : (xo == 2) = false := by simp [q2]
                have g2b : (xo != 2) = true := by simp [q2]
                by_cases e1 : xs.toList = []
                · have n3 : (xs.toList == []) = true := by simp [e1]
                  (go_wp2_with (go_at_call 61; (with_reducible refine (CN.out _).mono ?_); rintro e w5 ⟨rfl, hb5⟩; have HB5 := Lib.hid hb5; have hz5 := (hb5.block z (lt_of_heap HBX.out)).trans HBX.out; clear hb5 c0 c1 c2 c3; obtain ⟨c0, c1, c2, c3⟩ := quad hz5; clear hz5); go_meet; exact ⟨rfl, by rw [HNK.out, show ok = true from by rw [HOK.out]; simp [okT, HKE.out.1, HKE.out.2, HM1.out, HT1.out, q2, e1] <;> omega]; rfl, HG.out, Below.refl _ _⟩)
                · have n3 : (xs.toList == []) = false := by simp [e1]
                  (go_wp2_with (go_at_call 61; (with_reducible refine (CN.out _).mono ?_); rintro e w5 ⟨rfl, hb5⟩; have HB5 := Lib.hid hb5; have hz5 := (hb5.block z (lt_of_heap HBX.out)).trans HBX.out; clear hb5 c0 c1 c2 c3; obtain ⟨c0, c1, c2, c3⟩ := quad hz5; clear hz5); go_meet; exact ⟨rfl, by rw [HNK.out, show ok = false from by rw [HOK.out]; simp [okT, HKE.out.1, HKE.out.2, HM1.out, HT1.out, q2, e1] <;> omega]; rfl, HG.out, Below.refl _ _⟩)
            · have n2 : ((m2 : Int) == T) = false := by simp [ht1]
              (go_wp2_with (go_at_call 61; (with_reducible refine (CN.out _).mono ?_); rintro e w5 ⟨rfl, hb5⟩; have HB5 := Lib.hid hb5; have hz5 := (hb5.block z (lt_of_heap HBX.out)).trans HBX.out; clear hb5 c0 c1 c2 c3; obtain ⟨c0, c1, c2, c3⟩ := quad hz5; clear hz5); go_meet; exact ⟨rfl, by rw [HNK.out, show ok = false from by rw [HOK.out]; simp [okT, HKE.out.1, HKE.out.2, ht1] <;> omega]; rfl, HG.out, Below.refl _ _⟩)
          · have n1 : ((m : Int) == E) = false := by simp [hm1]
            (go_wp2_with (go_at_call 61; (with_reducible refine (CN.out _).mono ?_); rintro e w5 ⟨rfl, hb5⟩; have HB5 := Lib.hid hb5; have hz5 := (hb5.block z (lt_of_heap HBX.out)).trans HBX.out; clear hb5 c0 c1 c2 c3; obtain ⟨c0, c1, c2, c3⟩ := quad hz5; clear hz5); go_meet; exact ⟨rfl, by rw [HNK.out, show ok = false from by rw [HOK.out]; simp [okT, HKE.out.1, HKE.out.2, hm1] <;> omega]; rfl, HG.out, Below.refl _ _⟩)
        · have f9 : 9 < xo := by omega
          have HKE := Lib.hid (HKN.out (by omega))
          have hmn : ¬ (m : Int) = -1 := by omega
          (go_wp2_with (go_at_call 61; (with_reducible refine (CN.out _).mono ?_); rintro e w5 ⟨rfl, hb5⟩; have HB5 := Lib.hid hb5; have hz5 := (hb5.block z (lt_of_heap HBX.out)).trans HBX.out; clear hb5 c0 c1 c2 c3; obtain ⟨c0, c1, c2, c3⟩ := quad hz5; clear hz5); go_meet; exact ⟨rfl, by rw [HNK.out, show ok = false from by rw [HOK.out]; simp [okT, HKE.out, hmn] <;> omega]; rfl, HG.out, Below.refl _ _⟩)
      · have f1 : xo < 1 := by omega
        have HKE := Lib.hid (HKN.out (by omega))
        have hmn : ¬ (m : Int) = -1 := by omega
        (go_wp2_with (go_at_call 61; (with_reducible refine (CN.out _).mono ?_); rintro e w5 ⟨rfl, hb5⟩; have HB5 := Lib.hid hb5; have hz5 := (hb5.block z (lt_of_heap HBX.out)).trans HBX.out; clear hb5 c0 c1 c2 c3; obtain ⟨c0, c1, c2, c3⟩ := quad hz5; clear hz5); go_meet; exact ⟨rfl, by rw [HNK.out, show ok = false from by rw [HOK.out]; simp [okT, HKE.out, hmn] <;> omega]; rfl, HG.out, Below.refl _ _⟩)
    case rest =>
      obtain ⟨rfl, rfl, hw1, hw2⟩ := hcut
      have HW := Lib.hid (And.intro hw1 hw2)
      clear hw1 hw2 c0 c1 c2 c3 CN
      cases nk with
      | true =>
        have HF : Hid (bt = false) := Lib.hid (by rw [HBE.out]; have := HNK.out; cases ok; rfl; cases this)
        go_wp2_with fail
        go_ret
        exact ⟨by rw [HF.out]; rfl, HW.out.1⟩
      | false =>
        obtain rfl : ok = true := by have := HNK.out; cases ok; cases this; rfl
        have hk0 : (m : Int) = E ∧ (m2 : Int) = T := by
          have h := HOK.out
          unfold okT at h
          have h2 := (Bool.and_eq_true_iff.1 (Bool.and_eq_true_iff.1 h.symm).1)
          have h3 : (m : Int) = kidE xo := by simpa using h2.1
          have h4 : (m2 : Int) = kidT xo := by simpa using h2.2
          by_cases hin : 1 ≤ xo ∧ xo ≤ 9
          · have := HK.out hin.1 hin.2
            omega
          · have := HKN.out hin
            omega
        obtain ⟨rfl, rfl⟩ := hk0
        have HOB : Hid (bt = (l.all Xp.blt && l2.all Tr.blt)) := Lib.hid (by rw [HBE.out]; simp)
        clear HBE HK HKN HOK
        obtain ⟨wk, hwk⟩ : ∃ X, X = wc := ⟨_, rfl⟩
        rw [← hwk] at HW ⊢
        clear hwk
        go_upto_region 12 with fail
        go_loopw [5] (fun v wr => ∃ j : Nat, j ≤ m ∧ v = .int .i64 j ∧ Hid ((l.take j).all Xp.blt = true ∧ Below w.heap.size w wr ∧ Below W.heap.size W wr)) (fun v _ => m - (intOf v).toNat)
        case atStart => exact ⟨0, by omega, rfl, Lib.hid ⟨by simp, HW.out⟩⟩
        case round =>
          obtain ⟨j, hj, rfl, HR⟩ := hrel
          by_cases hlt : j < m
          · have cc : wr.cell? ⟨z, 2, none⟩ = some (.slice eo' m ek') := cell_blk ((HR.out.2.2.block z (lt_of_heap HBX.out)).trans HBX.out) 2
            obtain ⟨y, hy⟩ : ∃ y, l[j]? = some y := ⟨_, List.getElem?_eq_getElem (by rw [← HM.out]; exact hlt)⟩
            obtain ⟨a, co, ck, rfl, hsa, hck, ⟨y0, y1, y2, y3⟩, hyl⟩ := (HX.out wr HR.out.2.1).get hy
            have IHy := HJ.out y (List.mem_of_getElem? hy)
            have hat := all_take (p := Xp.blt) hy
            have hym := List.mem_of_getElem? hy
            obtain ⟨yb, hyb⟩ : ∃ v, v = y.blt := ⟨_, rfl⟩
            have CY : Hid (Calls Try.prog 62 #[exV y co ck] wr fun e w' => e = .returned (.bool yb) ∧ Below wr.heap.size wr w') := Lib.hid (by
              rw [hyb]
              exact IHy co ck wr HR.out.2.1 hck hyl)
            have HAT : Hid ((l.take (j + 1)).all Xp.blt = yb) := Lib.hid (by rw [hat, HR.out.1, hyb]; simp)
            have HNO : Hid (yb = false → bt = false) := Lib.hid fun h => by
              rw [HOB.out]
              have : l.all Xp.blt = false := by
                rw [List.all_eq_false]
                exact ⟨y, hym, by rw [← hyb, h]; simp⟩
              rw [this]; simp
            obtain ⟨cm, hcm⟩ : ∃ c, c = y.args.length := ⟨_, rfl⟩
            obtain ⟨yo, hyo⟩ : ∃ v, v = y.op := ⟨_, rfl⟩
            obtain ⟨yn, hyn⟩ : ∃ v, v = y.n := ⟨_, rfl⟩
            obtain ⟨ys, hys⟩ : ∃ v, v = y.nm := ⟨_, rfl⟩
            rw [← hcm] at y3
            rw [← hyo] at y0
            rw [← hyn] at y1
            rw [← hys] at y2
            rw [show exV y co ck = .agg #[.int .i64 yo, .int .i64 yn, .string ys, .slice co cm ck] from by rw [hcm, hyo, hyn, hys]] at CY
            have j0 : (0 : Int) ≤ (j : Int) := by omega
            have j1 : (j : Int) < (m : Int) := by omega
            clear hcm hyo hyn hys hsa hck hyl hy IHy hat hym hyb
            cases yb with
            | true =>
              go_wp2_with (go_at_call 62; (with_reducible refine CY.out.mono ?_); rintro e w4 ⟨rfl, h1⟩; have HZ4 := Lib.hid h1; clear h1)
              go_roundw
              case rel => exact ⟨j + 1, by omega, by go_num, Lib.hid ⟨HAT.out, below_mono HR.out.2.1 HZ4.out (Nat.le_refl _), below_mono HR.out.2.2 HZ4.out (Nat.le_refl _)⟩⟩
              case measure => simp [intOf]; omega
            | false =>
              go_wp2_with (go_at_call 62; (with_reducible refine CY.out.mono ?_); rintro e w4 ⟨rfl, h1⟩; have HZ4 := Lib.hid h1; clear h1)
              go_ret
              exact ⟨by rw [HNO.out (by simp)]; rfl, below_mono HR.out.2.1 HZ4.out (Nat.le_refl _)⟩
          · obtain rfl : j = m := by omega
            have HALL : Hid (l.all Xp.blt = true) := Lib.hid (by
              have := HR.out.1
              rwa [List.take_of_length_le (by rw [HM.out]; exact Nat.le_refl _)] at this)
            have HW3 := Lib.hid HR.out.2
            go_upto_region 17 with fail
            obtain ⟨wk, hwk⟩ : ∃ X, X = wr := ⟨_, rfl⟩
            rw [← hwk] at HW3 ⊢
            clear hwk HR
            go_loopw [6] (fun v wr => ∃ j : Nat, j ≤ m2 ∧ v = .int .i64 j ∧ Hid ((l2.take j).all Tr.blt = true ∧ Below w.heap.size w wr ∧ Below W.heap.size W wr)) (fun v _ => m2 - (intOf v).toNat)
            case atStart => exact ⟨0, by omega, rfl, Lib.hid ⟨by simp, HW3.out⟩⟩
            case round =>
              obtain ⟨j2, hj2, rfl, HR⟩ := hrel
              by_cases hlt2 : j2 < m2
              · have cc : wr.cell? ⟨z, 3, none⟩ = some (.slice tb' m2 tk') := cell_blk ((HR.out.2.2.block z (lt_of_heap HBX.out)).trans HBX.out) 3
                obtain ⟨y, hy⟩ : ∃ y, l2[j2]? = some y := ⟨_, List.getElem?_eq_getElem (by rw [← HM2.out]; exact hlt2)⟩
                obtain ⟨a, eo, ek, tb, tk, rfl, hsa, hek, htk, ⟨y0, y1, y2, y3⟩, hel, htl⟩ := (HY.out wr HR.out.2.1).get hy
                have IHy := HI.out y (List.mem_of_getElem? hy)
                have hat := all_take (p := Tr.blt) hy
                have hym := List.mem_of_getElem? hy
                obtain ⟨yb, hyb⟩ : ∃ v, v = y.blt := ⟨_, rfl⟩
                have CY : Hid (Calls Try.prog 48 #[trV y eo ek tb tk] wr fun e w' => e = .returned (.bool yb) ∧ Below wr.heap.size wr w') := Lib.hid (by
                  rw [hyb]
                  exact IHy eo ek tb tk wr HR.out.2.1 hek htk hel htl)
                have HAT : Hid ((l2.take (j2 + 1)).all Tr.blt = yb) := Lib.hid (by rw [hat, HR.out.1, hyb]; simp)
                have HNO : Hid (yb = false → bt = false) := Lib.hid fun h => by
                  rw [HOB.out]
                  have : l2.all Tr.blt = false := by
                    rw [List.all_eq_false]
                    exact ⟨y, hym, by rw [← hyb, h]; simp⟩
                  rw [this]; simp
                obtain ⟨em, hem⟩ : ∃ c, c = y.exprs.length := ⟨_, rfl⟩
                obtain ⟨tm, htm⟩ : ∃ c, c = y.terms.length := ⟨_, rfl⟩
                obtain ⟨yo, hyo⟩ : ∃ v, v = y.op := ⟨_, rfl⟩
                obtain ⟨ys, hys⟩ : ∃ v, v = y.nm := ⟨_, rfl⟩
                rw [← hem] at y2
                rw [← htm] at y3
                rw [← hyo] at y0
                rw [← hys] at y1
                rw [show trV y eo ek tb tk = .agg #[.int .i64 yo, .string ys, .slice eo em ek, .slice tb tm tk] from by rw [hem, htm, hyo, hys]] at CY
                have j0 : (0 : Int) ≤ (j2 : Int) := by omega
                have j1 : (j2 : Int) < (m2 : Int) := by omega
                clear hem htm hyo hys hsa hek htk hel htl hy IHy hat hym hyb
                cases yb with
                | true =>
                  go_wp2_with (go_at_call 48; (with_reducible refine CY.out.mono ?_); rintro e w4 ⟨rfl, h1⟩; have HZ4 := Lib.hid h1; clear h1)
                  go_roundw
                  case rel => exact ⟨j2 + 1, by omega, by go_num, Lib.hid ⟨HAT.out, below_mono HR.out.2.1 HZ4.out (Nat.le_refl _), below_mono HR.out.2.2 HZ4.out (Nat.le_refl _)⟩⟩
                  case measure => simp [intOf]; omega
                | false =>
                  go_wp2_with (go_at_call 48; (with_reducible refine CY.out.mono ?_); rintro e w4 ⟨rfl, h1⟩; have HZ4 := Lib.hid h1; clear h1)
                  go_ret
                  exact ⟨by rw [HNO.out (by simp)]; rfl, below_mono HR.out.2.1 HZ4.out (Nat.le_refl _)⟩
              · obtain rfl : j2 = m2 := by omega
                have hall : l2.all Tr.blt = true := by
                  have := HR.out.1
                  rwa [List.take_of_length_le (by rw [HM2.out]; exact Nat.le_refl _)] at this
                have HT : Hid (bt = true) := Lib.hid (by rw [HOB.out, HALL.out, hall]; rfl)
                clear hall
                go_wp2_with fail
                go_ret
                exact ⟨by rw [HT.out]; rfl, HR.out.2.1⟩
end Go.Proofs.Ythhimllddgfddaa
