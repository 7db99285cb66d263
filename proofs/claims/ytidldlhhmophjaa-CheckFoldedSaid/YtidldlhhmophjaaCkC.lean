/- Kinds: what an expression is, by the program. Conditions: those written at each theorem. -/
import Derived.Test.YtidldlhhmophjaaCkA
import Derived.Test.YtidldlhhmophjaaTrK
namespace Go.Proofs.Ytidldlhhmophjaa
open Go.RowKit Go.PlainAid
set_option linter.unusedVariables false
set_option linter.unusedSimpArgs false
/-- The kind of a node whose operands have these kinds: 1 a number, 2 a truth, 0 none. -/
def kndN (o : Int) (ks : List Nat) : Nat :=
  if o ≤ 4 then 1
  else if o ≤ 10 ∨ o = 20 then (if ks.all (· == 1) then 1 else 0)
  else if o ≤ 16 then (if ks.all (· == 1) then 2 else 0)
  else if o ≤ 19 then (if ks.all (· == 2) then 2 else 0)
  else match ks with
    | a :: b :: t => if a = 2 then (if t.all (· == b) then b else 0) else 0
    | _ => 0
def Xp.knd : Xp → Nat
  | .mk o _ _ l => kndN o (knds l)
where knds : List Xp → List Nat
  | [] => []
  | x :: t => x.knd :: knds t
theorem knds_map (l : List Xp) : Xp.knd.knds l = l.map Xp.knd := by
  induction l with
  | nil => rfl
  | cons x t ih => simp [Xp.knd.knds, ih]
theorem Xp.knd_eq (x : Xp) : x.knd = kndN x.op (x.args.map Xp.knd) := by cases x; simp [Xp.knd, knds_map, Xp.op, Xp.args]
/-- What among gives. -/
def amV (ks : List Nat) (q s : Nat) : Nat := if ks.all (· == q) = true then s else 0
theorem kndN_le (o : Int) (ks : List Nat) (h : ∀ k ∈ ks, k ≤ 2) : kndN o ks ≤ 2 := by
  unfold kndN
  repeat' split
  all_goals first
    | omega
    | (apply h; simp; done)
theorem knd_le (x : Xp) : x.knd ≤ 2 := by
  induction x using Xp.ind with
  | h x ih =>
    rw [x.knd_eq]
    refine kndN_le _ _ fun k hk => ?_
    obtain ⟨y, hy, rfl⟩ := List.mem_map.1 hk
    exact ih y hy
/-- How many stand within a built expression. -/
def kidX (o : Int) : Int := if o = 21 then 3 else if o = 19 ∨ o = 20 then 1 else if o ≤ 4 then 0 else 2
theorem xblt_len {x : Xp} (h : x.blt = true) : (x.args.length : Int) = kidX x.op ∧ (1 ≤ x.op ∧ x.op ≤ 21) ∧ (∀ y ∈ x.args, y.blt = true) := by
  rw [x.blt_eq, blts_all] at h
  simp only [Bool.and_eq_true, List.all_eq_true] at h
  have hk := h.1
  unfold okX at hk
  simp only [Bool.and_eq_true, decide_eq_true_eq] at hk
  have h1 := hk.1
  unfold kidsX at h1
  unfold kidX
  refine ⟨?_, ?_, h.2⟩
  · (repeat' split at h1) <;> (repeat' split) <;> omega
  · (repeat' split at h1) <;> omega
set_option maxRecDepth 100000 in
set_option maxHeartbeats 8000000 in
theorem among_any {S : Nat → Prop} {B : Nat} (hS : ∀ b, S b → b < B) (l : List Xp) (q s : Nat) (bo : Option Addr) (k : Nat) (w : World) (hB : B ≤ w.heap.size) (hx : ExL S w l bo) (hl : l.length ≤ 10)
    (hI : ∀ y ∈ l, ∀ (co : Option Addr) (ck : Nat) W, B ≤ W.heap.size → y.args.length ≤ ck → ExL S W y.args co → Calls Try.prog 48 #[exV y co ck] W fun e w' => e = .returned (.int .i64 (y.knd : Nat)) ∧ Below W.heap.size W w') :
    Calls Try.prog 71 #[.slice bo l.length k, .int .i64 (q : Nat), .int .i64 (s : Nat)] w fun e w' => e = .returned (.int .i64 (amV (l.map Xp.knd) q s : Nat)) ∧ Below w.heap.size w w' := by
  obtain ⟨m, hm⟩ : ∃ m, m = l.length := ⟨_, rfl⟩
  rw [← hm]
  have HM := Lib.hid hm
  have HX : Hid (∀ W, Below w.heap.size w W → ExL S W l bo) := Lib.hid fun W hW => hx.stay (fun _ h => h) fun b hb => hW.block b (by have := hS b hb; omega)
  have HI := Lib.hid hI
  have HB := Lib.hid hB
  have HS := Lib.hid hS
  have hm6 : m < 1000 := by omega
  obtain ⟨Q, hQ⟩ : ∃ Q : Int, Q = (q : Int) := ⟨_, rfl⟩
  obtain ⟨A, hA⟩ : ∃ A : Int, A = (s : Int) := ⟨_, rfl⟩
  rw [← hQ, ← hA]
  have HQ := Lib.hid hQ
  have HAS := Lib.hid hA
  clear hm hx hI hB hl hS hQ hA
  go_enter Try.func71, Try.ntmps71
  go_upto_region 2 with fail
  go_loopw [11] (fun v wr => ∃ j : Nat, j ≤ m ∧ v = .int .i64 j ∧ Hid (Below w.heap.size w wr ∧ ((l.take j).map Xp.knd).all (· == q) = true)) (fun v _ => m - (intOf v).toNat)
  case atStart => exact ⟨0, by omega, rfl, Lib.hid ⟨Below.refl _ _, by simp⟩⟩
  case round =>
    obtain ⟨j, hj, rfl, HR⟩ := hrel
    by_cases hlt : j < m
    · obtain ⟨y, hy⟩ : ∃ y, l[j]? = some y := ⟨_, List.getElem?_eq_getElem (by rw [← HM.out]; exact hlt)⟩
      obtain ⟨a, co, ck, rfl, hsa, hck, ⟨y0, y1, y2, y3⟩, hyl⟩ := (HX.out wr HR.out.1).get hy
      have CY : Hid (∀ W, Below wr.heap.size wr W → Calls Try.prog 48 #[exV y co ck] W fun e w' => e = .returned (.int .i64 (y.knd : Nat)) ∧ Below W.heap.size W w') := Lib.hid fun W hg => by
        have hst : ∀ b, S b → W.heap[b]? = wr.heap[b]? := fun b hb => hg.block b (by have := HS.out b hb; have := HR.out.1.size; have := HB.out; omega)
        exact HI.out y (List.mem_of_getElem? hy) co ck W (by have := HR.out.1.size; have := hg.size; have := HB.out; omega) hck (hyl.stay (fun _ h => h) hst)
      have htk : l.take (j + 1) = l.take j ++ [y] := by rw [List.take_add_one, hy]; rfl
      have HTK := Lib.hid htk
      have hmem := List.mem_of_getElem? hy
      have HMEM := Lib.hid hmem
      obtain ⟨Y, hY⟩ : ∃ Y : Int, Y = ((y.knd : Nat) : Int) := ⟨_, rfl⟩
      rw [← hY] at CY
      have HYK := Lib.hid hY
      obtain ⟨cm, hcm⟩ : ∃ c, c = y.args.length := ⟨_, rfl⟩
      obtain ⟨yo, hyo⟩ : ∃ v, v = y.op := ⟨_, rfl⟩
      obtain ⟨yn, hyn⟩ : ∃ v, v = y.n := ⟨_, rfl⟩
      obtain ⟨ys, hys⟩ : ∃ v, v = y.nm := ⟨_, rfl⟩
      rw [← hcm] at y3
      rw [← hyo] at y0
      rw [← hyn] at y1
      rw [← hys] at y2
      have CY2 : Hid (∀ W, Below wr.heap.size wr W → Calls Try.prog 48 #[.agg #[.int .i64 yo, .int .i64 yn, .string ys, .slice co cm ck]] W fun e w' => e = .returned (.int .i64 Y) ∧ Below W.heap.size W w') := by
        rw [hcm, hyo, hyn, hys]; exact CY
      clear hY htk hmem
      obtain ⟨⟨r0, r1, r2, r3⟩, p0, p1, p2, p3⟩ := new_zero wr (.int .i64 0) (.int .i64 0) (.string ⟨#[]⟩) (.slice none 0 0) 34
      obtain ⟨u, hu⟩ : ∃ u, u = wr.heap.size := ⟨_, rfl⟩
      have j0 : (0 : Int) ≤ (j : Int) := by omega
      have j1 : (j : Int) < (m : Int) := by omega
      clear hcm hyo hyn hys hsa hck hyl hy CY
      go_upto_region 4 with fail
      clear r0 r1 r2 r3 p0 p1 p2 p3 y0 y1 y2 y3
      obtain ⟨W3, hW3⟩ : ∃ X, wr.alloc (.cells #[.int .i64 yo, .int .i64 yn, .string ys, .slice co cm ck] 34) = X := ⟨_, rfl⟩
      have HB3 := Lib.hid (made_box wr _ W3 hW3)
      have hb3 : W3.heap[wr.heap.size]? = some (.cells #[.int .i64 yo, .int .i64 yn, .string ys, .slice co cm ck] 34 (0, 0)) := by rw [← hW3]; exact heap_alloc_new _ _
      rw [hW3]
      obtain ⟨y0, y1, y2, y3⟩ := quad hb3
      rw [← hu] at y0 y1 y2 y3 ⊢
      clear hb3 hW3 hu
      by_cases hYQ : Y = Q
      · have f1 : (Y == Q) = true := by simp [hYQ]
        have HE : Hid (y.knd = q) := Lib.hid (by have h1 := HYK.out; have h2 := HQ.out; omega)
        clear hYQ
        go_wp2_with (go_at_call 48; (with_reducible refine (CY2.out _ HB3.out.1.2).mono ?_); rintro e w4 ⟨rfl, h1⟩; have HZ4 := Lib.hid (below_mono HR.out.1 (below_mono HB3.out.1.2 h1 (Nat.le_refl _)) (Nat.le_refl _)); clear h1)
        go_roundw
        case rel => exact ⟨j + 1, by omega, by go_num, Lib.hid ⟨HZ4.out, by rw [HTK.out, List.map_append, List.all_append, HR.out.2]; simp [HE.out]⟩⟩
        case measure => simp [intOf]; omega
      · have f1 : (Y == Q) = false := by simp [hYQ]
        have HE : Hid (¬ y.knd = q) := Lib.hid (by have h1 := HYK.out; have h2 := HQ.out; omega)
        clear hYQ
        go_wp2_with (go_at_call 48; (with_reducible refine (CY2.out _ HB3.out.1.2).mono ?_); rintro e w4 ⟨rfl, h1⟩; have HZ4 := Lib.hid (below_mono HR.out.1 (below_mono HB3.out.1.2 h1 (Nat.le_refl _)) (Nat.le_refl _)); clear h1)
        go_ret
        refine ⟨?_, HZ4.out⟩
        unfold amV
        rw [if_neg (fun h => HE.out (by
          rw [List.all_eq_true] at h
          have := h y.knd (List.mem_map.2 ⟨y, HMEM.out, rfl⟩)
          simpa using this))]
        rfl
    · obtain rfl : j = m := by omega
      have HF := HR.out.2
      rw [List.take_of_length_le (by rw [HM.out]; exact Nat.le_refl _)] at HF
      have HF2 := Lib.hid HF
      clear HF
      go_wp2_with fail
      go_ret
      refine ⟨?_, HR.out.1⟩
      unfold amV
      rw [if_pos HF2.out, HAS.out]
      rfl
set_option maxRecDepth 100000 in
set_option maxHeartbeats 8000000 in
theorem kind_any {S : Nat → Prop} {B : Nat} (hS : ∀ b, S b → b < B) (x : Xp) : ∀ (bo : Option Addr) (k : Nat) (w : World), B ≤ w.heap.size → x.blt = true → x.args.length ≤ k → ExL S w x.args bo →
    Calls Try.prog 48 #[exV x bo k] w fun e w' => e = .returned (.int .i64 (x.knd : Nat)) ∧ Below w.heap.size w w' := by
  induction x using Xp.ind with
  | h x IH =>
  intro bo k w hB hb hk hx
  obtain ⟨hlen, ⟨hp1, hp2⟩, hbl⟩ := xblt_len hb
  have hke := x.knd_eq
  obtain ⟨l, hl⟩ : ∃ l, l = x.args := ⟨_, rfl⟩
  rw [← hl] at IH hk hx hlen hke hbl
  have hl3 : l.length ≤ 3 := by unfold kidX at hlen; (repeat' split at hlen) <;> omega
  have HX : Hid (∀ W, Below w.heap.size w W → ExL S W l bo) := Lib.hid fun W hW => hx.stay (fun _ h => h) fun b hb => hW.block b (by have := hS b hb; omega)
  have HI : Hid (∀ y ∈ l, ∀ (co : Option Addr) (ck : Nat) W, B ≤ W.heap.size → y.args.length ≤ ck → ExL S W y.args co → Calls Try.prog 48 #[exV y co ck] W fun e w' => e = .returned (.int .i64 (y.knd : Nat)) ∧ Below W.heap.size W w') := Lib.hid fun y hy co ck W h1 h2 h3 => IH y hy co ck W h1 (hbl y hy) h2 h3
  obtain ⟨m, hm⟩ : ∃ m, m = l.length := ⟨_, rfl⟩
  have CA : Hid (∀ (q s : Nat) (qi si : Int), qi = (q : Int) → si = (s : Int) → ∀ W, Below w.heap.size w W → Calls Try.prog 71 #[.slice bo m k, .int .i64 qi, .int .i64 si] W fun e w' => e = .returned (.int .i64 (amV (l.map Xp.knd) q s : Nat)) ∧ Below W.heap.size W w') := Lib.hid fun q s qi si hqi hsi W hW => by
    subst hqi hsi
    rw [hm]
    exact among_any hS l q s bo k W (by have := hW.size; omega) (HX.out W hW) (by omega) HI.out
  have HKE := Lib.hid hke
  have HB := Lib.hid hB
  have HS := Lib.hid hS
  have HKL := Lib.hid (show l.length ≤ k from hk)
  obtain ⟨xo, hxo⟩ : ∃ v, v = x.op := ⟨_, rfl⟩
  obtain ⟨xn, hxn⟩ : ∃ v, v = x.n := ⟨_, rfl⟩
  obtain ⟨xs, hxs⟩ : ∃ v, v = x.nm := ⟨_, rfl⟩
  rw [show exV x bo k = .agg #[.int .i64 xo, .int .i64 xn, .string xs, .slice bo m k] from by rw [hm, hl, hxo, hxn, hxs]]
  rw [← hxo] at hlen hp1 hp2 HKE
  have HM := Lib.hid hm
  rw [← hm] at hlen
  obtain ⟨z, hz⟩ : ∃ z, z = w.heap.size := ⟨_, rfl⟩
  have GA : Hid (∀ W, w.alloc (.cells #[.int .i64 xo, .int .i64 xn, .string xs, .slice bo m k] 34) = W → W.heap[z]? = some (.cells #[.int .i64 xo, .int .i64 xn, .string xs, .slice bo m k] 34 (0, 0)) ∧ Below w.heap.size w W) := Lib.hid (by
    rintro W rfl
    exact ⟨by rw [hz]; exact heap_alloc_new w _, (Below.refl w.heap.size w).alloc (Nat.le_refl _) _⟩)
  clear IH hb hk hx hke hl hxo hxn hxs hm hbl hl3 hB
  go_enter Try.func48, Try.ntmps48
  go_upto_region 1 with fail
  obtain ⟨W, hW⟩ : ∃ X, w.alloc (.cells #[.int .i64 xo, .int .i64 xn, .string xs, .slice bo m k] 34) = X := ⟨_, rfl⟩
  rw [hW, ← hz]
  obtain ⟨b1, g1⟩ := GA.out W hW
  have HG := Lib.hid g1
  have HB1 := Lib.hid b1
  obtain ⟨c0, c1, c2, c3⟩ := quad b1
  clear hW b1 g1 GA hz
  by_cases q1 : xo = 1
  · subst q1
    go_wp2_with fail
    go_ret
    exact ⟨by rw [HKE.out]; rfl, HG.out⟩
  · have e1 : (xo == 1) = false := by simp [q1]
    by_cases q2 : xo = 2
    · subst q2
      go_wp2_with fail
      go_ret
      exact ⟨by rw [HKE.out]; rfl, HG.out⟩
    · have e2 : (xo == 2) = false := by simp [q2]
      by_cases q3 : xo = 3
      · subst q3
        go_wp2_with fail
        go_ret
        exact ⟨by rw [HKE.out]; rfl, HG.out⟩
      · have e3 : (xo == 3) = false := by simp [q3]
        by_cases q4 : xo = 4
        · subst q4
          go_wp2_with fail
          go_ret
          exact ⟨by rw [HKE.out]; rfl, HG.out⟩
        · have e4 : (xo == 4) = false := by simp [q4]
          by_cases q20 : xo = 20
          · subst q20
            have CA1 := Lib.hid (CA.out 1 1 1 1 rfl rfl W HG.out)
            go_wp2_with (go_at_call 71; (with_reducible refine CA1.out.mono ?_); rintro e w2 ⟨rfl, hb⟩; have HB2 := Lib.hid hb; clear hb)
            go_ret
            exact ⟨by rw [HKE.out, show kndN 20 (l.map Xp.knd) = amV (l.map Xp.knd) 1 1 from rfl]; rfl, below_mono HG.out HB2.out (Nat.le_refl _)⟩
          · have e20 : (xo == 20) = false := by simp [q20]
            by_cases q10 : xo ≤ 10
            · have e5 : (5 ≤ xo) = True := by simp; omega
              have e10 : (xo ≤ 10) = True := by simp; omega
              have CA1 := Lib.hid (CA.out 1 1 1 1 rfl rfl W HG.out)
              go_wp2_with (go_at_call 71; (with_reducible refine CA1.out.mono ?_); rintro e w2 ⟨rfl, hb⟩; have HB2 := Lib.hid hb; clear hb)
              go_ret
              exact ⟨by rw [HKE.out, show kndN xo (l.map Xp.knd) = amV (l.map Xp.knd) 1 1 from by unfold kndN amV; rw [if_neg (by omega), if_pos (by omega)]]; rfl, below_mono HG.out HB2.out (Nat.le_refl _)⟩
            · have e10 : (xo ≤ 10) = False := by simp; omega
              have e5 : (5 ≤ xo) = True := by simp; omega
              by_cases q16 : xo ≤ 16
              · have e11 : (11 ≤ xo) = True := by simp; omega
                have e16 : (xo ≤ 16) = True := by simp; omega
                have CA1 := Lib.hid (CA.out 1 2 1 2 rfl rfl W HG.out)
                go_wp2_with (go_at_call 71; (with_reducible refine CA1.out.mono ?_); rintro e w2 ⟨rfl, hb⟩; have HB2 := Lib.hid hb; clear hb)
                go_ret
                exact ⟨by rw [HKE.out, show kndN xo (l.map Xp.knd) = amV (l.map Xp.knd) 1 2 from by unfold kndN amV; rw [if_neg (by omega), if_neg (by omega), if_pos (by omega)]]; rfl, below_mono HG.out HB2.out (Nat.le_refl _)⟩
              · have e16 : (xo ≤ 16) = False := by simp; omega
                have e11 : (11 ≤ xo) = True := by simp; omega
                by_cases q17 : xo = 17
                · subst q17
                  have CA1 := Lib.hid (CA.out 2 2 2 2 rfl rfl W HG.out)
                  go_wp2_with (go_at_call 71; (with_reducible refine CA1.out.mono ?_); rintro e w2 ⟨rfl, hb⟩; have HB2 := Lib.hid hb; clear hb)
                  go_ret
                  exact ⟨by rw [HKE.out, show kndN 17 (l.map Xp.knd) = amV (l.map Xp.knd) 2 2 from rfl]; rfl, below_mono HG.out HB2.out (Nat.le_refl _)⟩
                · have e17 : (xo == 17) = false := by simp [q17]
                  by_cases q18 : xo = 18
                  · subst q18
                    have CA1 := Lib.hid (CA.out 2 2 2 2 rfl rfl W HG.out)
                    go_wp2_with (go_at_call 71; (with_reducible refine CA1.out.mono ?_); rintro e w2 ⟨rfl, hb⟩; have HB2 := Lib.hid hb; clear hb)
                    go_ret
                    exact ⟨by rw [HKE.out, show kndN 18 (l.map Xp.knd) = amV (l.map Xp.knd) 2 2 from rfl]; rfl, below_mono HG.out HB2.out (Nat.le_refl _)⟩
                  · have e18 : (xo == 18) = false := by simp [q18]
                    by_cases q19 : xo = 19
                    · subst q19
                      have CA1 := Lib.hid (CA.out 2 2 2 2 rfl rfl W HG.out)
                      go_wp2_with (go_at_call 71; (with_reducible refine CA1.out.mono ?_); rintro e w2 ⟨rfl, hb⟩; have HB2 := Lib.hid hb; clear hb)
                      go_ret
                      exact ⟨by rw [HKE.out, show kndN 19 (l.map Xp.knd) = amV (l.map Xp.knd) 2 2 from rfl]; rfl, below_mono HG.out HB2.out (Nat.le_refl _)⟩
                    · have e19 : (xo == 19) = false := by simp [q19]
                      obtain rfl : xo = 21 := by omega
                      clear hp1 hp2 e1 e2 e3 e4 e5 e10 e11 e16 e17 e18 e19 e20 q1 q2 q3 q4 q10 q16 q17 q18 q19 q20
                      have hm3 : m = 3 := by
                        have : kidX 21 = 3 := rfl
                        omega
                      subst hm3
                      clear hlen
                      obtain ⟨u0, u1, u2, hu⟩ : ∃ a b c, l = [a, b, c] := by
                        have h3 := HM.out
                        match l, h3 with
                        | [a, b, c], _ => exact ⟨a, b, c, rfl⟩
                      subst hu
                      obtain ⟨a, co, ck, rfl, hsa, hck, ⟨y0, y1, y2, y3⟩, hyl⟩ := (HX.out W HG.out).get (i := 0) (x := u0) rfl
                      obtain ⟨a', co1, ck1, ha', hsa1, hck1, ⟨n0, n1, n2, n3⟩, hyl1⟩ := (HX.out W HG.out).get (i := 1) (x := u1) rfl
                      cases ha'
                      obtain ⟨a', co2, ck2, ha', hsa2, hck2, hfx2, hyl2⟩ := (HX.out W HG.out).get (i := 2) (x := u2) rfl
                      cases ha'
                      rw [Nat.zero_mul, addr_zero] at y0 y1 y2 y3
                      have hk3 : 3 ≤ k := HKL.out
                      have hst : ∀ V, Below W.heap.size W V → ∀ b, S b → V.heap[b]? = W.heap[b]? := fun V hV b hb => hV.block b (by have := HS.out b hb; have := HB.out; have := HG.out.size; omega)
                      have hBW : ∀ V, Below W.heap.size W V → B ≤ V.heap.size := fun V hV => by have := HB.out; have := HG.out.size; have := hV.size; omega
                      have C0 : Hid (∀ V, Below W.heap.size W V → Calls Try.prog 48 #[exV u0 co ck] V fun e w' => e = .returned (.int .i64 (u0.knd : Nat)) ∧ Below V.heap.size V w') := Lib.hid fun V hV => HI.out u0 (by simp) co ck V (hBW V hV) hck (hyl.stay (fun _ h => h) (hst V hV))
                      have C1 : Hid (∀ V, Below W.heap.size W V → Calls Try.prog 48 #[exV u1 co1 ck1] V fun e w' => e = .returned (.int .i64 (u1.knd : Nat)) ∧ Below V.heap.size V w') := Lib.hid fun V hV => HI.out u1 (by simp) co1 ck1 V (hBW V hV) hck1 (hyl1.stay (fun _ h => h) (hst V hV))
                      have C2 : Hid (∀ (q : Nat) V, Below W.heap.size W V → Calls Try.prog 71 #[.slice (some (a.add 8)) 1 (k - 2), .int .i64 (q : Nat), .int .i64 (q : Nat)] V fun e w' => e = .returned (.int .i64 (amV [u2.knd] q q : Nat)) ∧ Below V.heap.size V w') := Lib.hid fun q V hV => by
                        refine among_any hS [u2] q q (some (a.add 8)) (k - 2) V (hBW V hV) (fun _ => ⟨_, rfl, by rw [add_block]; exact hsa, ?_⟩) (by simp) (fun y hy co ck V2 h1 h2 h3 => HI.out y (by simp at hy; simp [hy]) co ck V2 h1 h2 h3)
                        refine ExR.mk fun i y hy => ?_
                        match i, hy with
                        | 0, hy =>
                          simp at hy
                          subst hy
                          rw [Nat.zero_add, Nat.zero_mul, addr_zero]
                          exact ⟨co2, ck2, hck2, hfx2.stay (by rw [add_block]; exact hst V hV _ hsa), hyl2.stay (fun _ h => h) (hst V hV)⟩
                      obtain ⟨K0, hK0⟩ : ∃ K, K = u0.knd := ⟨_, rfl⟩
                      obtain ⟨K1, hK1⟩ : ∃ K, K = u1.knd := ⟨_, rfl⟩
                      obtain ⟨K2, hK2⟩ : ∃ K, K = u2.knd := ⟨_, rfl⟩
                      have HK3 : Hid (x.knd = if K0 = 2 then amV [K2] K1 K1 else 0) := Lib.hid (by rw [HKE.out, hK0, hK1, hK2]; rfl)
                      rw [← hK0] at C0
                      rw [← hK1] at C1
                      rw [← hK2] at C2
                      have C22 := Lib.hid (C2.out K1)
                      obtain ⟨yo, hyo⟩ : ∃ v, v = u0.op := ⟨_, rfl⟩
                      obtain ⟨yn, hyn⟩ : ∃ v, v = u0.n := ⟨_, rfl⟩
                      obtain ⟨ys, hys⟩ : ∃ v, v = u0.nm := ⟨_, rfl⟩
                      obtain ⟨cm, hcm⟩ : ∃ v, v = u0.args.length := ⟨_, rfl⟩
                      obtain ⟨zo, hzo⟩ : ∃ v, v = u1.op := ⟨_, rfl⟩
                      obtain ⟨zn, hzn⟩ : ∃ v, v = u1.n := ⟨_, rfl⟩
                      obtain ⟨zs, hzs⟩ : ∃ v, v = u1.nm := ⟨_, rfl⟩
                      obtain ⟨dm, hdm⟩ : ∃ v, v = u1.args.length := ⟨_, rfl⟩
                      rw [show exV u0 co ck = .agg #[.int .i64 yo, .int .i64 yn, .string ys, .slice co cm ck] from by rw [hyo, hyn, hys, hcm]] at C0
                      rw [show exV u1 co1 ck1 = .agg #[.int .i64 zo, .int .i64 zn, .string zs, .slice co1 dm ck1] from by rw [hzo, hzn, hzs, hdm]] at C1
                      rw [← hyo] at y0
                      rw [← hyn] at y1
                      rw [← hys] at y2
                      rw [← hcm] at y3
                      rw [← hzo] at n0
                      rw [← hzn] at n1
                      rw [← hzs] at n2
                      rw [← hdm] at n3
                      have ha4 : a.block < W.heap.size := by have := HS.out _ hsa; have := HB.out; have := HG.out.size; omega
                      have HZB := Lib.hid HB1.out
                      have hadd4 : a.add (1 * 4) = ⟨a.block, a.off + 4, none⟩ := rfl
                      have hadd8 : a.add 8 = ⟨a.block, a.off + 8, none⟩ := rfl
                      rw [hadd4] at n0 n1 n2 n3
                      rw [hadd8] at C22
                      have HC1 : Hid (∀ V, Below W.heap.size W V → (V.cell? ⟨a.block, a.off + 4, none⟩ = some (.int .i64 zo) ∧ V.cell? ⟨a.block, a.off + 4 + 1, none⟩ = some (.int .i64 zn) ∧ V.cell? ⟨a.block, a.off + 4 + 2, none⟩ = some (.string zs) ∧ V.cell? ⟨a.block, a.off + 4 + 3, none⟩ = some (.slice co1 dm ck1)) ∧ V.cell? ⟨z, 3, none⟩ = some (.slice (some a) 3 k)) := Lib.hid fun V hV => by
                        exact ⟨⟨(hV.cell (p := ⟨a.block, a.off + 4, none⟩) ha4).trans n0, (hV.cell (p := ⟨a.block, a.off + 4 + 1, none⟩) ha4).trans n1, (hV.cell (p := ⟨a.block, a.off + 4 + 2, none⟩) ha4).trans n2, (hV.cell (p := ⟨a.block, a.off + 4 + 3, none⟩) ha4).trans n3⟩, cell_blk ((hV.block z (lt_of_heap HB1.out)).trans HB1.out) 3⟩
                      clear hyo hyn hys hcm hzo hzn hzs hdm hK0 hK1 hK2 hck hck1 hck2 hfx2 hyl hyl1 hyl2 hsa hsa1 hsa2 hst hBW n0 n1 n2 n3 ha4 C2 hadd4 hadd8
                      by_cases hq : K0 = 2
                      · subst hq
                        have HK4 : Hid (x.knd = amV [K2] K1 K1) := Lib.hid (by rw [HK3.out]; rfl)
                        go_upto_region 12 with (go_at_call 48; (with_reducible refine (C0.out _ (Below.refl _ _)).mono ?_); rintro e w2 ⟨rfl, hb⟩; have HB2 := Lib.hid hb; clear hb)
                        clear y0 y1 y2 y3 c0 c1 c2 c3
                        obtain ⟨⟨y0, y1, y2, y3⟩, c3⟩ := HC1.out w2 HB2.out
                        go_upto_region 13 with (go_at_call 48; (with_reducible refine (C1.out _ HB2.out).mono ?_); rintro e w3 ⟨rfl, hb⟩; have HB3 := Lib.hid (below_mono HB2.out hb (Nat.le_refl _)); clear hb)
                        clear y0 y1 y2 y3 c3
                        obtain ⟨_, c3⟩ := HC1.out w3 HB3.out
                        go_wp2_with (go_at_call 71; (with_reducible refine (C22.out _ HB3.out).mono ?_); rintro e w4 ⟨rfl, hb⟩; have HB4 := Lib.hid (below_mono HB3.out hb (Nat.le_refl _)); clear hb)
                        go_ret
                        exact ⟨by rw [HK4.out]; rfl, below_mono HG.out HB4.out (Nat.le_refl _)⟩
                      · have f1 : ((K0 : Int) == 2) = false := by simp; omega
                        have f2 : (K0 == 2) = false := by simp [hq]
                        have HK4 : Hid (x.knd = 0) := Lib.hid (by rw [HK3.out, if_neg hq])
                        go_wp2_with (go_at_call 48; (with_reducible refine (C0.out _ (Below.refl _ _)).mono ?_); rintro e w2 ⟨rfl, hb⟩; have HB2 := Lib.hid hb; clear hb)
                        go_ret
                        exact ⟨by rw [HK4.out]; rfl, below_mono HG.out HB2.out (Nat.le_refl _)⟩
end Go.Proofs.Ytidldlhhmophjaa
