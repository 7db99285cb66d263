/- Trees: the program's built and Right. Conditions: those written at each theorem. -/
import Derived.Test.YthhimllddgfddaaTrF
namespace Go.Proofs.Ythhimllddgfddaa
open Go.RowKit Go.PlainAid
set_option linter.unusedVariables false
set_option linter.unusedSimpArgs false
def kidE (op : Int) : Int := if 1 ≤ op ∧ op ≤ 5 then 0 else if 6 ≤ op ∧ op ≤ 9 then 1 else -1
def kidT (op : Int) : Int := if op = 1 ∨ op = 2 then 0 else if op = 3 then 1 else if op = 4 ∨ op = 5 then 2 else if 6 ≤ op ∧ op ≤ 9 then 1 else -1
/-- Is one node of a term built as it must be? -/
def okT (op : Int) (s : ByteArray) (e t : Nat) : Bool :=
  decide ((e : Int) = kidE op) && decide ((t : Int) = kidT op) && (if op = 2 then fre s else decide (s.toList = []))
def Tr.blt : Tr → Bool
  | .mk o s e l => okT o s e.length l.length && Xp.blt.blts e && blts l
where blts : List Tr → Bool
  | [] => true
  | x :: t => x.blt && blts t
theorem Tr.blt_eq (x : Tr) : x.blt = (okT x.op x.nm x.exprs.length x.terms.length && x.exprs.all Xp.blt && Tr.blt.blts x.terms) := by cases x; simp [Tr.blt, Tr.op, Tr.nm, Tr.exprs, Tr.terms, blts_all]
theorem tblts_all (l : List Tr) : Tr.blt.blts l = l.all Tr.blt := by
  induction l with
  | nil => rfl
  | cons x t ih => simp [Tr.blt.blts, ih]
def Tr.fit : Tr → Prop
  | .mk _ s e l => s.size ≤ maxLen ∧ (∀ y ∈ e, y.fit) ∧ fits l
where fits : List Tr → Prop
  | [] => True
  | x :: t => x.fit ∧ fits t
theorem Tr.fit_eq (x : Tr) : x.fit ↔ x.nm.size ≤ maxLen ∧ (∀ y ∈ x.exprs, y.fit) ∧ Tr.fit.fits x.terms := by cases x; exact Iff.rfl
theorem tfits_all (l : List Tr) : Tr.fit.fits l ↔ ∀ y ∈ l, y.fit := by
  induction l with
  | nil => simp [Tr.fit.fits]
  | cons x t ih => simp [Tr.fit.fits, ih]
set_option maxRecDepth 100000 in
set_option maxHeartbeats 8000000 in
theorem built_any {S : Nat → Prop} {B : Nat} (hS : ∀ b, S b → b < B) (x : Tr) : ∀ (eo' : Option Addr) (ek' : Nat) (tb' : Option Addr) (tk' : Nat) (w : World), B ≤ w.heap.size → x.fit → x.cnt < 1000 → x.exprs.length ≤ ek' → x.terms.length ≤ tk' → ExL S w x.exprs eo' → TrL S w x.terms tb' →
    Calls Try.prog 27 #[trV x eo' ek' tb' tk'] w fun e w' => e = .returned (.bool x.blt) ∧ Below w.heap.size w w' := by
  induction x using Tr.ind with
  | h x IH =>
  intro eo' ek' tb' tk' w hB hf hn hk hk2 hx hx2
  have hc := x.cnt_eq
  have hbe := x.blt_eq
  have hfe := (x.fit_eq).1 hf
  obtain ⟨z, hz⟩ : ∃ z, z = w.heap.size := ⟨_, rfl⟩
  obtain ⟨l, hl⟩ : ∃ l, l = x.exprs := ⟨_, rfl⟩
  obtain ⟨l2, hl2⟩ : ∃ l, l = x.terms := ⟨_, rfl⟩
  rw [← hl] at hk hx hc hbe hfe
  rw [← hl2] at IH hk2 hx2 hc hbe hfe
  obtain ⟨m, hm⟩ : ∃ m, m = l.length := ⟨_, rfl⟩
  obtain ⟨m2, hm2⟩ : ∃ m, m = l2.length := ⟨_, rfl⟩
  obtain ⟨xo, hxo⟩ : ∃ v, v = x.op := ⟨_, rfl⟩
  obtain ⟨xs, hxs⟩ : ∃ v, v = x.nm := ⟨_, rfl⟩
  rw [show trV x eo' ek' tb' tk' = .agg #[.int .i64 xo, .string xs, .slice eo' m ek', .slice tb' m2 tk'] from by rw [hm, hm2, hl, hl2, hxo, hxs]]
  have GA : Hid (∀ W, w.alloc (.cells #[.int .i64 xo, .string xs, .slice eo' m ek', .slice tb' m2 tk'] 32) = W → W.heap[z]? = some (.cells #[.int .i64 xo, .string xs, .slice eo' m ek', .slice tb' m2 tk'] 32 (0, 0)) ∧ Below w.heap.size w W) := Lib.hid (by
    rintro W rfl
    exact ⟨by rw [hz]; exact heap_alloc_new w _, (Below.refl w.heap.size w).alloc (Nat.le_refl _) _⟩)
  have HST : Hid (∀ W, Below w.heap.size w W → ∀ b, S b → W.heap[b]? = w.heap[b]?) := Lib.hid fun W hW b hb => hW.block b (by have := hS b hb; omega)
  have HX : Hid (∀ W, Below w.heap.size w W → ExL S W l eo') := Lib.hid fun W hW => hx.stay (fun _ h => h) (HST.out W hW)
  have HY : Hid (∀ W, Below w.heap.size w W → TrL S W l2 tb') := Lib.hid fun W hW => hx2.stay (fun _ h => h) (HST.out W hW)
  have HJ : Hid (∀ y ∈ l, ∀ (co : Option Addr) (ck : Nat) W, Below w.heap.size w W → y.args.length ≤ ck → ExL S W y.args co → Calls Try.prog 45 #[exV y co ck] W fun e w' => e = .returned (.bool y.blt) ∧ Below W.heap.size W w') := Lib.hid fun y hy co ck W hW h1 h2 => by
    obtain ⟨j, hj⟩ := List.mem_iff_getElem?.1 hy
    have := cnts_in hj
    exact builtExpr_any hS y co ck W (by have := hW.size; omega) (hfe.2.1 y hy) (by omega) h1 h2
  have HI : Hid (∀ y ∈ l2, ∀ (eo : Option Addr) (ek : Nat) (tb : Option Addr) (tk : Nat) W, Below w.heap.size w W → y.exprs.length ≤ ek → y.terms.length ≤ tk → ExL S W y.exprs eo → TrL S W y.terms tb → Calls Try.prog 27 #[trV y eo ek tb tk] W fun e w' => e = .returned (.bool y.blt) ∧ Below W.heap.size W w') := Lib.hid fun y hy eo ek tb tk W hW h1 h2 h3 h4 => by
    obtain ⟨j, hj⟩ := List.mem_iff_getElem?.1 hy
    have := tcnts_in hj
    exact IH y hy eo ek tb tk W (by have := hW.size; omega) ((tfits_all l2).1 hfe.2.2 y hy) (by omega) h1 h2 h3 h4
  have CN := Lib.hid (tnamed_any xs (by rw [hxs]; exact hfe.1))
  obtain ⟨fr, hfr⟩ : ∃ v, v = fre xs := ⟨_, rfl⟩
  rw [← hfr] at CN
  have HFR := Lib.hid hfr
  have HBE : Hid (x.blt = (okT xo xs m m2 && l.all Xp.blt && l2.all Tr.blt)) := Lib.hid (by rw [hbe, tblts_all, hxo, hxs, hm, hm2])
  obtain ⟨bt, hbt⟩ : ∃ v, v = x.blt := ⟨_, rfl⟩
  rw [← hbt] at HBE ⊢
  have HM := Lib.hid hm
  have HM2 := Lib.hid hm2
  have hm6 : m < 1000 ∧ m2 < 1000 := by
    have := len_cnts l
    have := len_tcnts l2
    omega
  obtain ⟨hm6, hm7⟩ := hm6
  clear hx hx2 IH hf hn hk hk2 hc hbe hfe hl hl2 hm hm2 hxo hxs hfr hbt
  go_enter Try.func27, Try.ntmps27
  go_upto_region 1 with fail
  obtain ⟨W, hW⟩ : ∃ X, w.alloc (.cells #[.int .i64 xo, .string xs, .slice eo' m ek', .slice tb' m2 tk'] 32) = X := ⟨_, rfl⟩
  rw [hW, ← hz]
  obtain ⟨b1, g1⟩ := GA.out W hW
  have HG := Lib.hid g1
  have HBX := Lib.hid b1
  obtain ⟨c0, c1, c2, c3⟩ := quad b1
  clear hW b1 g1 GA hz
  go_upto_region 2 with fail
  clear c0 c1 c2 c3
  go_loopw [12] (fun v wr => ∃ j : Nat, j ≤ m ∧ v = .int .i64 j ∧ Hid ((l.take j).all Xp.blt = true ∧ Below w.heap.size w wr ∧ Below W.heap.size W wr)) (fun v _ => m - (intOf v).toNat)
  case atStart => exact ⟨0, by omega, rfl, Lib.hid ⟨by simp, HG.out, Below.refl _ _⟩⟩
  case round =>
    obtain ⟨j, hj, rfl, HR⟩ := hrel
    by_cases hlt : j < m
    · obtain ⟨y, hy⟩ : ∃ y, l[j]? = some y := ⟨_, List.getElem?_eq_getElem (by rw [← HM.out]; exact hlt)⟩
      obtain ⟨a, co, ck, rfl, hsa, hck, ⟨y0, y1, y2, y3⟩, hyl⟩ := (HX.out wr HR.out.2.1).get hy
      have IHy := HJ.out y (List.mem_of_getElem? hy)
      have hat := all_take (p := Xp.blt) hy
      have hym := List.mem_of_getElem? hy
      obtain ⟨yb, hyb⟩ : ∃ v, v = y.blt := ⟨_, rfl⟩
      have CY : Hid (∀ W, Below wr.heap.size wr W → Calls Try.prog 45 #[exV y co ck] W fun e w' => e = .returned (.bool yb) ∧ Below W.heap.size W w') := Lib.hid fun W hW => by
        rw [hyb]
        have hst : ∀ b, S b → W.heap[b]? = wr.heap[b]? := fun b hb => hW.block b (by have := hS b hb; have := HR.out.2.1.size; omega)
        exact IHy co ck W (below_mono HR.out.2.1 hW (Nat.le_refl _)) hck (hyl.stay (fun _ h => h) hst)
      have HAT : Hid ((l.take (j + 1)).all Xp.blt = yb) := Lib.hid (by rw [hat, HR.out.1, hyb]; simp)
      have HNO : Hid (yb = false → bt = false) := Lib.hid fun h => by
        rw [HBE.out]
        have : l.all Xp.blt = false := by
          rw [List.all_eq_false]
          exact ⟨y, hym, by rw [← hyb, h]; simp⟩
        rw [this]; simp
      obtain ⟨cm, hcm⟩ : ∃ c, c = y.args.length := ⟨_, rfl⟩
      obtain ⟨yo, hyo⟩ : ∃ v, v = y.op := ⟨_, rfl⟩
      obtain ⟨yn, hyn⟩ : ∃ v, v = y.n := ⟨_, rfl⟩
      obtain ⟨ys, hys⟩ : ∃ v, v = y.nm := ⟨_, rfl⟩
      rw [← hcm] at y3
      rw [← hyo] at y0
      rw [← hyn] at y1
      rw [← hys] at y2
      have CY2 : Hid (∀ W, Below wr.heap.size wr W → Calls Try.prog 45 #[.agg #[.int .i64 yo, .int .i64 yn, .string ys, .slice co cm ck]] W fun e w' => e = .returned (.bool yb) ∧ Below W.heap.size W w') := by
        rw [hcm, hyo, hyn, hys]; exact CY
      obtain ⟨⟨r0, r1, r2, r3⟩, p0, p1, p2, p3⟩ := new_zero wr (.int .i64 0) (.int .i64 0) (.string ⟨#[]⟩) (.slice none 0 0) 53
      obtain ⟨u, hu⟩ : ∃ u, u = wr.heap.size := ⟨_, rfl⟩
      have j0 : (0 : Int) ≤ (j : Int) := by omega
      have j1 : (j : Int) < (m : Int) := by omega
      clear hcm hyo hyn hys hsa hck hyl hy CY IHy hat hym hyb
      go_upto_region 4 with fail
      clear r0 r1 r2 r3 p0 p1 p2 p3 y0 y1 y2 y3
      obtain ⟨W3, hW3⟩ : ∃ X, wr.alloc (.cells #[.int .i64 yo, .int .i64 yn, .string ys, .slice co cm ck] 53) = X := ⟨_, rfl⟩
      have HB3 := Lib.hid (made_box wr _ W3 hW3)
      have hb3 : W3.heap[wr.heap.size]? = some (.cells #[.int .i64 yo, .int .i64 yn, .string ys, .slice co cm ck] 53 (0, 0)) := by rw [← hW3]; exact heap_alloc_new _ _
      rw [hW3]
      obtain ⟨y0, y1, y2, y3⟩ := quad hb3
      rw [← hu] at y0 y1 y2 y3 ⊢
      clear hb3 hW3 hu
      cases yb with
      | true =>
        go_wp2_with (go_at_call 45; (with_reducible refine (CY2.out _ HB3.out.1.2).mono ?_); rintro e w4 ⟨rfl, h1⟩; have HZ4 := Lib.hid (below_mono HB3.out.1.2 h1 (Nat.le_refl _)); clear h1)
        go_roundw
        case rel => exact ⟨j + 1, by omega, by go_num, Lib.hid ⟨HAT.out, below_mono HR.out.2.1 HZ4.out (Nat.le_refl _), below_mono HR.out.2.2 HZ4.out (Nat.le_refl _)⟩⟩
        case measure => simp [intOf]; omega
      | false =>
        go_wp2_with (go_at_call 45; (with_reducible refine (CY2.out _ HB3.out.1.2).mono ?_); rintro e w4 ⟨rfl, h1⟩; have HZ4 := Lib.hid (below_mono HB3.out.1.2 h1 (Nat.le_refl _)); clear h1)
        go_ret
        exact ⟨by rw [HNO.out (by simp)]; rfl, below_mono HR.out.2.1 HZ4.out (Nat.le_refl _)⟩
    · obtain rfl : j = m := by omega
      have hall : l.all Xp.blt = true := by
        have := HR.out.1
        rwa [List.take_of_length_le (by rw [HM.out]; exact Nat.le_refl _)] at this
      have HALL := Lib.hid hall
      have HBW := Lib.hid HR.out.2
      obtain ⟨c0, c1, c2, c3⟩ := quad ((HR.out.2.2.block z (lt_of_heap HBX.out)).trans HBX.out)
      clear hall HR HX HJ
      go_upto_region 8 with fail
      clear c0 c1 c2 c3
      obtain ⟨wk, hwk⟩ : ∃ X, X = wr := ⟨_, rfl⟩
      rw [← hwk] at HBW ⊢
      clear hwk
      go_loopw [23] (fun v wr => ∃ j : Nat, j ≤ m2 ∧ v = .int .i64 j ∧ Hid ((l2.take j).all Tr.blt = true ∧ Below w.heap.size w wr ∧ Below W.heap.size W wr)) (fun v _ => m2 - (intOf v).toNat)
      case atStart => exact ⟨0, by omega, rfl, Lib.hid ⟨by simp, HBW.out⟩⟩
      case round =>
        obtain ⟨j2, hj2, rfl, HR⟩ := hrel
        by_cases hlt2 : j2 < m2
        · obtain ⟨y, hy⟩ : ∃ y, l2[j2]? = some y := ⟨_, List.getElem?_eq_getElem (by rw [← HM2.out]; exact hlt2)⟩
          obtain ⟨a, eo, ek, tb, tk, rfl, hsa, hek, htk, ⟨y0, y1, y2, y3⟩, hel, htl⟩ := (HY.out wr HR.out.2.1).get hy
          have IHy := HI.out y (List.mem_of_getElem? hy)
          have hat := all_take (p := Tr.blt) hy
          have hym := List.mem_of_getElem? hy
          obtain ⟨yb, hyb⟩ : ∃ v, v = y.blt := ⟨_, rfl⟩
          have CY : Hid (∀ W, Below wr.heap.size wr W → Calls Try.prog 27 #[trV y eo ek tb tk] W fun e w' => e = .returned (.bool yb) ∧ Below W.heap.size W w') := Lib.hid fun W hW => by
            rw [hyb]
            have hst : ∀ b, S b → W.heap[b]? = wr.heap[b]? := fun b hb => hW.block b (by have := hS b hb; have := HR.out.2.1.size; omega)
            exact IHy eo ek tb tk W (below_mono HR.out.2.1 hW (Nat.le_refl _)) hek htk (hel.stay (fun _ h => h) hst) (htl.stay (fun _ h => h) hst)
          have HAT : Hid ((l2.take (j2 + 1)).all Tr.blt = yb) := Lib.hid (by rw [hat, HR.out.1, hyb]; simp)
          have HNO : Hid (yb = false → bt = false) := Lib.hid fun h => by
            rw [HBE.out]
            have : l2.all Tr.blt = false := by
              rw [List.all_eq_false]
              exact ⟨y, hym, by rw [← hyb, h]; simp⟩
            rw [this]; simp
          obtain ⟨em, hem⟩ : ∃ c, c = y.exprs.length := ⟨_, rfl⟩
          obtain ⟨tm, htm⟩ : ∃ c, c = y.terms.length := ⟨_, rfl⟩
          obtain ⟨yo, hyo⟩ : ∃ v, v = y.op := ⟨_, rfl⟩
          obtain ⟨ys, hys⟩ : ∃ v, v = y.nm := ⟨_, rfl⟩
          rw [← hem] at y2
          rw [← htm] at y3
          rw [← hyo] at y0
          rw [← hys] at y1
          have CY2 : Hid (∀ W, Below wr.heap.size wr W → Calls Try.prog 27 #[.agg #[.int .i64 yo, .string ys, .slice eo em ek, .slice tb tm tk]] W fun e w' => e = .returned (.bool yb) ∧ Below W.heap.size W w') := by
            rw [hem, htm, hyo, hys]; exact CY
          obtain ⟨⟨r0, r1, r2, r3⟩, p0, p1, p2, p3⟩ := new_zero wr (.int .i64 0) (.string ⟨#[]⟩) (.slice none 0 0) (.slice none 0 0) 32
          obtain ⟨u, hu⟩ : ∃ u, u = wr.heap.size := ⟨_, rfl⟩
          have j0 : (0 : Int) ≤ (j2 : Int) := by omega
          have j1 : (j2 : Int) < (m2 : Int) := by omega
          clear hem htm hyo hys hsa hek htk hel htl hy CY IHy hat hym hyb
          go_upto_region 10 with fail
          clear r0 r1 r2 r3 p0 p1 p2 p3 y0 y1 y2 y3
          obtain ⟨W3, hW3⟩ : ∃ X, wr.alloc (.cells #[.int .i64 yo, .string ys, .slice eo em ek, .slice tb tm tk] 32) = X := ⟨_, rfl⟩
          have HB3 := Lib.hid (made_box wr _ W3 hW3)
          have hb3 : W3.heap[wr.heap.size]? = some (.cells #[.int .i64 yo, .string ys, .slice eo em ek, .slice tb tm tk] 32 (0, 0)) := by rw [← hW3]; exact heap_alloc_new _ _
          rw [hW3]
          obtain ⟨y0, y1, y2, y3⟩ := quad hb3
          rw [← hu] at y0 y1 y2 y3 ⊢
          clear hb3 hW3 hu
          cases yb with
          | true =>
            go_wp2_with (go_at_call 27; (with_reducible refine (CY2.out _ HB3.out.1.2).mono ?_); rintro e w4 ⟨rfl, h1⟩; have HZ4 := Lib.hid (below_mono HB3.out.1.2 h1 (Nat.le_refl _)); clear h1)
            go_roundw
            case rel => exact ⟨j2 + 1, by omega, by go_num, Lib.hid ⟨HAT.out, below_mono HR.out.2.1 HZ4.out (Nat.le_refl _), below_mono HR.out.2.2 HZ4.out (Nat.le_refl _)⟩⟩
            case measure => simp [intOf]; omega
          | false =>
            go_wp2_with (go_at_call 27; (with_reducible refine (CY2.out _ HB3.out.1.2).mono ?_); rintro e w4 ⟨rfl, h1⟩; have HZ4 := Lib.hid (below_mono HB3.out.1.2 h1 (Nat.le_refl _)); clear h1)
            go_ret
            exact ⟨by rw [HNO.out (by simp)]; rfl, below_mono HR.out.2.1 HZ4.out (Nat.le_refl _)⟩
        · obtain rfl : j2 = m2 := by omega
          have hall : l2.all Tr.blt = true := by
            have := HR.out.1
            rwa [List.take_of_length_le (by rw [HM2.out]; exact Nat.le_refl _)] at this
          have HOK : Hid (bt = okT xo xs j j2) := Lib.hid (by rw [HBE.out, HALL.out, hall]; simp)
          have HBW2 := Lib.hid HR.out.2.1
          obtain ⟨c0, c1, c2, c3⟩ := quad ((HR.out.2.2.block z (lt_of_heap HBX.out)).trans HBX.out)
          clear hall HALL HBW HR HBE HY HI HG HBX HM HM2
          by_cases q2 : xo = 2
          · subst q2
            cases fr with
            | true =>
              by_cases k1 : j = 0
              · subst k1
                by_cases k2 : j2 = 0
                · subst k2
                  (go_wp2_with (go_at_call 46; (with_reducible refine (CN.out _).mono ?_); rintro e w5 ⟨rfl, rfl⟩); go_ret; exact ⟨by rw [HOK.out]; simp [okT, kidE, kidT, HFR.out.symm] <;> omega, HBW2.out⟩)
                · have n2 : ((j2 : Int) == 0) = false := by simp; omega
                  (go_wp2_with (go_at_call 46; (with_reducible refine (CN.out _).mono ?_); rintro e w5 ⟨rfl, rfl⟩); go_ret; exact ⟨by rw [HOK.out]; simp [okT, kidE, kidT, HFR.out.symm, k2] <;> omega, HBW2.out⟩)
              · have n1 : ((j : Int) == 0) = false := by simp; omega
                (go_wp2_with (go_at_call 46; (with_reducible refine (CN.out _).mono ?_); rintro e w5 ⟨rfl, rfl⟩); go_ret; exact ⟨by rw [HOK.out]; simp [okT, kidE, kidT, HFR.out.symm, k1] <;> omega, HBW2.out⟩)
            | false =>
              (go_wp2_with (go_at_call 46; (with_reducible refine (CN.out _).mono ?_); rintro e w5 ⟨rfl, rfl⟩); go_ret; exact ⟨by rw [HOK.out]; simp [okT, kidE, kidT, HFR.out.symm] <;> omega, HBW2.out⟩)
          · have g2 : (xo == 2) = false := by simp [q2]
            by_cases q1 : xo = 1
            · subst q1
              by_cases e1 : xs.toList = []
              · have f1 : (xs.toList == []) = true := by simp [e1]
                by_cases k1 : j = 0
                · subst k1
                  by_cases k2 : j2 = 0
                  · subst k2
                    (go_wp2_with (go_at_call 46; (with_reducible refine (CN.out _).mono ?_); rintro e w5 ⟨rfl, rfl⟩); go_ret; exact ⟨by rw [HOK.out]; simp [okT, kidE, kidT, e1] <;> omega, HBW2.out⟩)
                  · have n2 : ((j2 : Int) == 0) = false := by simp; omega
                    (go_wp2_with (go_at_call 46; (with_reducible refine (CN.out _).mono ?_); rintro e w5 ⟨rfl, rfl⟩); go_ret; exact ⟨by rw [HOK.out]; simp [okT, kidE, kidT, e1, k2] <;> omega, HBW2.out⟩)
                · have n1 : ((j : Int) == 0) = false := by simp; omega
                  (go_wp2_with (go_at_call 46; (with_reducible refine (CN.out _).mono ?_); rintro e w5 ⟨rfl, rfl⟩); go_ret; exact ⟨by rw [HOK.out]; simp [okT, kidE, kidT, e1, k1] <;> omega, HBW2.out⟩)
              · have f1 : (xs.toList == []) = false := by simp [e1]
                (go_wp2_with (go_at_call 46; (with_reducible refine (CN.out _).mono ?_); rintro e w5 ⟨rfl, rfl⟩); go_ret; exact ⟨by rw [HOK.out]; simp [okT, kidE, kidT, e1] <;> omega, HBW2.out⟩)
            · have g1 : (xo == 1) = false := by simp [q1]
              by_cases q3 : xo = 3
              · subst q3
                by_cases e1 : xs.toList = []
                · have f1 : (xs.toList == []) = true := by simp [e1]
                  by_cases k1 : j = 0
                  · subst k1
                    by_cases k2 : j2 = 1
                    · subst k2
                      (go_wp2_with (go_at_call 46; (with_reducible refine (CN.out _).mono ?_); rintro e w5 ⟨rfl, rfl⟩); go_ret; exact ⟨by rw [HOK.out]; simp [okT, kidE, kidT, e1] <;> omega, HBW2.out⟩)
                    · have n2 : ((j2 : Int) == 1) = false := by simp; omega
                      (go_wp2_with (go_at_call 46; (with_reducible refine (CN.out _).mono ?_); rintro e w5 ⟨rfl, rfl⟩); go_ret; exact ⟨by rw [HOK.out]; simp [okT, kidE, kidT, e1, k2] <;> omega, HBW2.out⟩)
                  · have n1 : ((j : Int) == 0) = false := by simp; omega
                    (go_wp2_with (go_at_call 46; (with_reducible refine (CN.out _).mono ?_); rintro e w5 ⟨rfl, rfl⟩); go_ret; exact ⟨by rw [HOK.out]; simp [okT, kidE, kidT, e1, k1] <;> omega, HBW2.out⟩)
                · have f1 : (xs.toList == []) = false := by simp [e1]
                  (go_wp2_with (go_at_call 46; (with_reducible refine (CN.out _).mono ?_); rintro e w5 ⟨rfl, rfl⟩); go_ret; exact ⟨by rw [HOK.out]; simp [okT, kidE, kidT, e1] <;> omega, HBW2.out⟩)
              · have g3 : (xo == 3) = false := by simp [q3]
                by_cases q4 : xo = 4
                · subst q4
                  by_cases e1 : xs.toList = []
                  · have f1 : (xs.toList == []) = true := by simp [e1]
                    by_cases k1 : j = 0
                    · subst k1
                      by_cases k2 : j2 = 2
                      · subst k2
                        (go_wp2_with (go_at_call 46; (with_reducible refine (CN.out _).mono ?_); rintro e w5 ⟨rfl, rfl⟩); go_ret; exact ⟨by rw [HOK.out]; simp [okT, kidE, kidT, e1] <;> omega, HBW2.out⟩)
                      · have n2 : ((j2 : Int) == 2) = false := by simp; omega
                        (go_wp2_with (go_at_call 46; (with_reducible refine (CN.out _).mono ?_); rintro e w5 ⟨rfl, rfl⟩); go_ret; exact ⟨by rw [HOK.out]; simp [okT, kidE, kidT, e1, k2] <;> omega, HBW2.out⟩)
                    · have n1 : ((j : Int) == 0) = false := by simp; omega
                      (go_wp2_with (go_at_call 46; (with_reducible refine (CN.out _).mono ?_); rintro e w5 ⟨rfl, rfl⟩); go_ret; exact ⟨by rw [HOK.out]; simp [okT, kidE, kidT, e1, k1] <;> omega, HBW2.out⟩)
                  · have f1 : (xs.toList == []) = false := by simp [e1]
                    (go_wp2_with (go_at_call 46; (with_reducible refine (CN.out _).mono ?_); rintro e w5 ⟨rfl, rfl⟩); go_ret; exact ⟨by rw [HOK.out]; simp [okT, kidE, kidT, e1] <;> omega, HBW2.out⟩)
                · have g4 : (xo == 4) = false := by simp [q4]
                  by_cases q5 : xo = 5
                  · subst q5
                    by_cases e1 : xs.toList = []
                    · have f1 : (xs.toList == []) = true := by simp [e1]
                      by_cases k1 : j = 0
                      · subst k1
                        by_cases k2 : j2 = 2
                        · subst k2
                          (go_wp2_with (go_at_call 46; (with_reducible refine (CN.out _).mono ?_); rintro e w5 ⟨rfl, rfl⟩); go_ret; exact ⟨by rw [HOK.out]; simp [okT, kidE, kidT, e1] <;> omega, HBW2.out⟩)
                        · have n2 : ((j2 : Int) == 2) = false := by simp; omega
                          (go_wp2_with (go_at_call 46; (with_reducible refine (CN.out _).mono ?_); rintro e w5 ⟨rfl, rfl⟩); go_ret; exact ⟨by rw [HOK.out]; simp [okT, kidE, kidT, e1, k2] <;> omega, HBW2.out⟩)
                      · have n1 : ((j : Int) == 0) = false := by simp; omega
                        (go_wp2_with (go_at_call 46; (with_reducible refine (CN.out _).mono ?_); rintro e w5 ⟨rfl, rfl⟩); go_ret; exact ⟨by rw [HOK.out]; simp [okT, kidE, kidT, e1, k1] <;> omega, HBW2.out⟩)
                    · have f1 : (xs.toList == []) = false := by simp [e1]
                      (go_wp2_with (go_at_call 46; (with_reducible refine (CN.out _).mono ?_); rintro e w5 ⟨rfl, rfl⟩); go_ret; exact ⟨by rw [HOK.out]; simp [okT, kidE, kidT, e1] <;> omega, HBW2.out⟩)
                  · have g5 : (xo == 5) = false := by simp [q5]
                    by_cases q6 : xo = 6
                    · subst q6
                      by_cases e1 : xs.toList = []
                      · have f1 : (xs.toList == []) = true := by simp [e1]
                        by_cases k1 : j = 1
                        · subst k1
                          by_cases k2 : j2 = 1
                          · subst k2
                            (go_wp2_with (go_at_call 46; (with_reducible refine (CN.out _).mono ?_); rintro e w5 ⟨rfl, rfl⟩); go_ret; exact ⟨by rw [HOK.out]; simp [okT, kidE, kidT, e1] <;> omega, HBW2.out⟩)
                          · have n2 : ((j2 : Int) == 1) = false := by simp; omega
                            (go_wp2_with (go_at_call 46; (with_reducible refine (CN.out _).mono ?_); rintro e w5 ⟨rfl, rfl⟩); go_ret; exact ⟨by rw [HOK.out]; simp [okT, kidE, kidT, e1, k2] <;> omega, HBW2.out⟩)
                        · have n1 : ((j : Int) == 1) = false := by simp; omega
                          (go_wp2_with (go_at_call 46; (with_reducible refine (CN.out _).mono ?_); rintro e w5 ⟨rfl, rfl⟩); go_ret; exact ⟨by rw [HOK.out]; simp [okT, kidE, kidT, e1, k1] <;> omega, HBW2.out⟩)
                      · have f1 : (xs.toList == []) = false := by simp [e1]
                        (go_wp2_with (go_at_call 46; (with_reducible refine (CN.out _).mono ?_); rintro e w5 ⟨rfl, rfl⟩); go_ret; exact ⟨by rw [HOK.out]; simp [okT, kidE, kidT, e1] <;> omega, HBW2.out⟩)
                    · have g6 : (xo == 6) = false := by simp [q6]
                      by_cases q7 : xo = 7
                      · subst q7
                        by_cases e1 : xs.toList = []
                        · have f1 : (xs.toList == []) = true := by simp [e1]
                          by_cases k1 : j = 1
                          · subst k1
                            by_cases k2 : j2 = 1
                            · subst k2
                              (go_wp2_with (go_at_call 46; (with_reducible refine (CN.out _).mono ?_); rintro e w5 ⟨rfl, rfl⟩); go_ret; exact ⟨by rw [HOK.out]; simp [okT, kidE, kidT, e1] <;> omega, HBW2.out⟩)
                            · have n2 : ((j2 : Int) == 1) = false := by simp; omega
                              (go_wp2_with (go_at_call 46; (with_reducible refine (CN.out _).mono ?_); rintro e w5 ⟨rfl, rfl⟩); go_ret; exact ⟨by rw [HOK.out]; simp [okT, kidE, kidT, e1, k2] <;> omega, HBW2.out⟩)
                          · have n1 : ((j : Int) == 1) = false := by simp; omega
                            (go_wp2_with (go_at_call 46; (with_reducible refine (CN.out _).mono ?_); rintro e w5 ⟨rfl, rfl⟩); go_ret; exact ⟨by rw [HOK.out]; simp [okT, kidE, kidT, e1, k1] <;> omega, HBW2.out⟩)
                        · have f1 : (xs.toList == []) = false := by simp [e1]
                          (go_wp2_with (go_at_call 46; (with_reducible refine (CN.out _).mono ?_); rintro e w5 ⟨rfl, rfl⟩); go_ret; exact ⟨by rw [HOK.out]; simp [okT, kidE, kidT, e1] <;> omega, HBW2.out⟩)
                      · have g7 : (xo == 7) = false := by simp [q7]
                        by_cases q8 : xo = 8
                        · subst q8
                          by_cases e1 : xs.toList = []
                          · have f1 : (xs.toList == []) = true := by simp [e1]
                            by_cases k1 : j = 1
                            · subst k1
                              by_cases k2 : j2 = 1
                              · subst k2
                                (go_wp2_with (go_at_call 46; (with_reducible refine (CN.out _).mono ?_); rintro e w5 ⟨rfl, rfl⟩); go_ret; exact ⟨by rw [HOK.out]; simp [okT, kidE, kidT, e1] <;> omega, HBW2.out⟩)
                              · have n2 : ((j2 : Int) == 1) = false := by simp; omega
                                (go_wp2_with (go_at_call 46; (with_reducible refine (CN.out _).mono ?_); rintro e w5 ⟨rfl, rfl⟩); go_ret; exact ⟨by rw [HOK.out]; simp [okT, kidE, kidT, e1, k2] <;> omega, HBW2.out⟩)
                            · have n1 : ((j : Int) == 1) = false := by simp; omega
                              (go_wp2_with (go_at_call 46; (with_reducible refine (CN.out _).mono ?_); rintro e w5 ⟨rfl, rfl⟩); go_ret; exact ⟨by rw [HOK.out]; simp [okT, kidE, kidT, e1, k1] <;> omega, HBW2.out⟩)
                          · have f1 : (xs.toList == []) = false := by simp [e1]
                            (go_wp2_with (go_at_call 46; (with_reducible refine (CN.out _).mono ?_); rintro e w5 ⟨rfl, rfl⟩); go_ret; exact ⟨by rw [HOK.out]; simp [okT, kidE, kidT, e1] <;> omega, HBW2.out⟩)
                        · have g8 : (xo == 8) = false := by simp [q8]
                          by_cases q9 : xo = 9
                          · subst q9
                            by_cases e1 : xs.toList = []
                            · have f1 : (xs.toList == []) = true := by simp [e1]
                              by_cases k1 : j = 1
                              · subst k1
                                by_cases k2 : j2 = 1
                                · subst k2
                                  (go_wp2_with (go_at_call 46; (with_reducible refine (CN.out _).mono ?_); rintro e w5 ⟨rfl, rfl⟩); go_ret; exact ⟨by rw [HOK.out]; simp [okT, kidE, kidT, e1] <;> omega, HBW2.out⟩)
                                · have n2 : ((j2 : Int) == 1) = false := by simp; omega
                                  (go_wp2_with (go_at_call 46; (with_reducible refine (CN.out _).mono ?_); rintro e w5 ⟨rfl, rfl⟩); go_ret; exact ⟨by rw [HOK.out]; simp [okT, kidE, kidT, e1, k2] <;> omega, HBW2.out⟩)
                              · have n1 : ((j : Int) == 1) = false := by simp; omega
                                (go_wp2_with (go_at_call 46; (with_reducible refine (CN.out _).mono ?_); rintro e w5 ⟨rfl, rfl⟩); go_ret; exact ⟨by rw [HOK.out]; simp [okT, kidE, kidT, e1, k1] <;> omega, HBW2.out⟩)
                            · have f1 : (xs.toList == []) = false := by simp [e1]
                              (go_wp2_with (go_at_call 46; (with_reducible refine (CN.out _).mono ?_); rintro e w5 ⟨rfl, rfl⟩); go_ret; exact ⟨by rw [HOK.out]; simp [okT, kidE, kidT, e1] <;> omega, HBW2.out⟩)
                          · have g9 : (xo == 9) = false := by simp [q9]
                            have HKE : Hid (kidE xo = -1 ∧ kidT xo = -1) := Lib.hid (by unfold kidE kidT; constructor <;> (repeat' split) <;> omega)
                            have p1 : ((j : Int) == -1) = false := by simp <;> omega
                            have p2 : ((j2 : Int) == -1) = false := by simp <;> omega
                            have p3 : ¬ (j : Int) = -1 := by omega
                            by_cases e1 : xs.toList = []
                            · have f1 : (xs.toList == []) = true := by simp [e1]
                              (go_wp2_with (go_at_call 46; (with_reducible refine (CN.out _).mono ?_); rintro e w5 ⟨rfl, rfl⟩); go_ret; exact ⟨by rw [HOK.out]; simp [okT, HKE.out.1, HKE.out.2, p3] <;> omega, HBW2.out⟩)
                            · have f1 : (xs.toList == []) = false := by simp [e1]
                              (go_wp2_with (go_at_call 46; (with_reducible refine (CN.out _).mono ?_); rintro e w5 ⟨rfl, rfl⟩); go_ret; exact ⟨by rw [HOK.out]; simp [okT, HKE.out.1, HKE.out.2, p3] <;> omega, HBW2.out⟩)
end Go.Proofs.Ythhimllddgfddaa
