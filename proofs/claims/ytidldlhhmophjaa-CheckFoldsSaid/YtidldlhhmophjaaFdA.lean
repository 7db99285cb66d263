/- Layer 21: the document's Fold. Conditions: those written at each theorem. -/
import Derived.Test.YtidldlhhmophjaaMdA
import Derived.Deep.RegionLaw
namespace Go.Proofs.Ytidldlhhmophjaa
open Go.RowKit Go.PlainAid Go.Sort
set_option linter.unusedVariables false
set_option linter.unusedSimpArgs false
set_option maxRecDepth 100000 in
set_option maxHeartbeats 8000000 in
theorem rvalue_any {S : Nat → Prop} (x : Xp) (bo : Option Addr) (k : Nat) (w : World) (hS : ∀ b, S b → b < w.heap.size) (hx : ExL S w x.args bo) (h20 : x.op = 20 → x.args ≠ []) (hk : x.args.length ≤ k) :
    Calls Try.prog 56 #[exV x bo k] w fun e w' => e = .returned (.tuple #[.int .i64 x.cV, .bool x.cB]) ∧ Below w.heap.size w w' := by
  obtain ⟨m, hm⟩ : ∃ m, m = x.args.length := ⟨_, rfl⟩
  obtain ⟨xo, hxo⟩ : ∃ v, v = x.op := ⟨_, rfl⟩
  obtain ⟨xn, hxn⟩ : ∃ v, v = x.n := ⟨_, rfl⟩
  obtain ⟨xs, hxs⟩ : ∃ v, v = x.nm := ⟨_, rfl⟩
  rw [show exV x bo k = .agg #[.int .i64 xo, .int .i64 xn, .string xs, .slice bo m k] from by rw [hm, hxo, hxn, hxs]]
  have HM := Lib.hid (And.intro hm (And.intro hxo hxn))
  have GA := Lib.hid (fun W (hW : w.alloc (.cells #[.int .i64 xo, .int .i64 xn, .string xs, .slice bo m k] 34) = W) => (⟨(made_box w _ W hW).1.2, by rw [← hW]; exact heap_alloc_new w _⟩ : Below w.heap.size w W ∧ W.heap[w.heap.size]? = some (.cells #[.int .i64 xo, .int .i64 xn, .string xs, .slice bo m k] 34 (0, 0))))
  have HX : Hid (∀ W, Below w.heap.size w W → ExL S W x.args bo) := Lib.hid fun W hW => hx.stay (fun _ h => h) fun b hb => hW.block b (hS b hb)
  have HK : Hid (x.op = 20 → x.args ≠ []) := Lib.hid h20
  clear hm hxo hxn hxs hx h20 hk
  go_enter Try.func56, Try.ntmps56
  go_upto_region 1 with fail
  obtain ⟨W, hW⟩ : ∃ X, w.alloc (.cells #[.int .i64 xo, .int .i64 xn, .string xs, .slice bo m k] 34) = X := ⟨_, rfl⟩
  obtain ⟨g1, b1⟩ := GA.out W hW
  obtain ⟨z, hz⟩ : ∃ z, z = w.heap.size := ⟨_, rfl⟩
  rw [hW, ← hz]
  rw [← hz] at b1
  have HG := Lib.hid g1
  obtain ⟨c0, c1, c2, c3⟩ := quad b1
  clear hW g1 b1 GA hz
  by_cases h1 : xo = 1
  · have HR : Hid (x.cV = xn ∧ x.cB = true) := Lib.hid (by obtain ⟨h5, h6, h7⟩ := HM.out; unfold Xp.cV Xp.cB; rw [← h6, ← h7]; simp [h1])
    go_wp2_with fail
    exact bodyPost_ret (v := .tuple #[.int .i64 xn, .bool true]) (by simp [results, Try.results56, go_sem]) rfl ⟨by rw [HR.out.1, HR.out.2], HG.out⟩
  · by_cases h2 : xo = 2
    · have HR : Hid (x.cV = xn ∧ x.cB = true) := Lib.hid (by obtain ⟨h5, h6, h7⟩ := HM.out; unfold Xp.cV Xp.cB; rw [← h6, ← h7]; simp [h2])
      go_wp2_with fail
      exact bodyPost_ret (v := .tuple #[.int .i64 xn, .bool true]) (by simp [results, Try.results56, go_sem]) rfl ⟨by rw [HR.out.1, HR.out.2], HG.out⟩
    · by_cases h3 : xo = 20
      · obtain ⟨y, hy⟩ : ∃ y, x.args[0]? = some y := by
          have := HK.out (by rw [← HM.out.2.1]; exact h3)
          match hl : x.args, this with
          | y :: t, _ => exact ⟨y, rfl⟩
        obtain ⟨a, co, ck, rfl, hsa, hck, ⟨y0, y1, y2, y3⟩, hyl⟩ := (HX.out W HG.out).get hy
        rw [show (0 : Nat) * 4 = 0 from rfl, addr_zero] at y0 y1 y2 y3
        have m1 : (0 : Int) < (m : Int) := by
          have h6 := (List.getElem?_eq_some_iff.1 hy).1
          rw [← HM.out.1] at h6
          omega
        have m2 : 0 < m := by omega
        obtain ⟨yo, hyo⟩ : ∃ v, v = y.op := ⟨_, rfl⟩
        obtain ⟨yn, hyn⟩ : ∃ v, v = y.n := ⟨_, rfl⟩
        rw [← hyo] at y0
        rw [← hyn] at y1
        have HY := Lib.hid (And.intro hy (And.intro hyo hyn))
        clear hy hyo hyn hsa hck hyl y2 y3
        by_cases h4 : yo = 1
        · have HR : Hid (x.cV = IntKind.i64.wrap (-yn) ∧ x.cB = true) := Lib.hid (by
            obtain ⟨h5, h6, h7⟩ := HM.out
            obtain ⟨k5, k6, k7⟩ := HY.out
            match hl : x.args, k5 with
            | y :: t, e =>
              simp at e
              subst e
              unfold Xp.cV Xp.cB
              rw [← h6, hl]
              simp [h3, ← k6, ← k7, h4])
          obtain ⟨ng, hng⟩ : ∃ v, v = IntKind.i64.wrap (-yn) := ⟨_, rfl⟩
          have HR' := HR.out
          rw [← hng] at HR'
          have HR2 := Lib.hid HR'
          have y9 : IntKind.i64.wrap (-yn) = ng := hng.symm
          clear HR HR' hng
          go_wp2_with fail
          exact bodyPost_ret (v := .tuple #[.int .i64 ng, .bool true]) (by simp [results, Try.results56, go_sem]) rfl ⟨by rw [HR2.out.1, HR2.out.2], HG.out⟩
        · have HR : Hid (x.cV = 0 ∧ x.cB = false) := Lib.hid (by
            obtain ⟨h5, h6, h7⟩ := HM.out
            obtain ⟨k5, k6, k7⟩ := HY.out
            match hl : x.args, k5 with
            | y :: t, e =>
              simp at e
              subst e
              unfold Xp.cV Xp.cB
              rw [← h6, hl]
              simp [h3, ← k6, ← k7, h4])
          go_wp2_with fail
          exact bodyPost_ret (v := .tuple #[.int .i64 0, .bool false]) (by simp [results, Try.results56, go_sem]) rfl ⟨by rw [HR.out.1, HR.out.2], HG.out⟩
      · have HR : Hid (x.cV = 0 ∧ x.cB = false) := Lib.hid (by
          obtain ⟨h5, h6, h7⟩ := HM.out
          unfold Xp.cV Xp.cB
          rw [← h6, if_neg (by omega), if_neg (by omega)]
          match x.args with
          | [] => exact ⟨rfl, rfl⟩
          | y :: t => simp [h3])
        have f1 : (xo == 1) = false := by simp [h1]
        have f2 : (xo == 2) = false := by simp [h2]
        have f3 : (xo == 20) = false := by simp [h3]
        clear h1 h2 h3
        go_wp2_with fail
        exact bodyPost_ret (v := .tuple #[.int .i64 0, .bool false]) (by simp [results, Try.results56, go_sem]) rfl ⟨by rw [HR.out.1, HR.out.2], HG.out⟩
/-- The value at a place, or nought. -/
def cvA (ls : List Xp) (i : Nat) : Int := match ls[i]? with | some y => y.cV | none => 0
theorem cvA_old (ls : List Xp) (y : Xp) (i : Nat) (h : i < ls.length) : cvA (ls ++ [y]) i = cvA ls i := by
  unfold cvA
  rw [List.getElem?_append_left h]
theorem cvA_new (ls : List Xp) (y : Xp) : cvA (ls ++ [y]) ls.length = y.cV := by
  unfold cvA
  rw [List.getElem?_append_right (Nat.le_refl _), Nat.sub_self]
  rfl
theorem cvA_far (ls : List Xp) (i : Nat) (h : ls.length ≤ i) : cvA ls i = 0 := by
  unfold cvA
  rw [List.getElem?_eq_none h]
/-- The boxes of the document's walk: the expression, the result, what comes of it, three values. -/
structure FdB (z : Nat) (ec : Array Value) (xo xn : Int) (xs : ByteArray) (row : Value) (c0 c1 c2 : Int) (w W : World) : Prop where
  bel : Below w.heap.size w W
  ez : W.heap[z]? = some (.cells ec 34 (0, 0))
  ey : W.heap[z + 1]? = some (.cells #[.int .i64 0, .int .i64 0, .string ⟨#[]⟩, .slice none 0 0] 34 (0, 0))
  eo : W.heap[z + 2]? = some (.cells #[.int .i64 xo, .int .i64 xn, .string xs, row] 34 (0, 0))
  ev : W.heap[z + 3]? = some (.cells #[.int .i64 c0, .int .i64 c1, .int .i64 c2] 2 (0, 0))
  le : w.heap.size ≤ z
theorem FdB.same {z : Nat} {ec : Array Value} {xo xn : Int} {xs : ByteArray} {row : Value} {c0 c1 c2 : Int} {w W V : World} (h : FdB z ec xo xn xs row c0 c1 c2 w W) (k : Below w.heap.size w V) (hs : ∀ b, z ≤ b → b < z + 4 → V.heap[b]? = W.heap[b]?) : FdB z ec xo xn xs row c0 c1 c2 w V :=
  ⟨k, (hs _ (by omega) (by omega)).trans h.ez, (hs _ (by omega) (by omega)).trans h.ey, (hs _ (by omega) (by omega)).trans h.eo, (hs _ (by omega) (by omega)).trans h.ev, h.le⟩
theorem FdB.next {z : Nat} {ec : Array Value} {xo xn : Int} {xs : ByteArray} {row : Value} {c0 c1 c2 : Int} {w W V : World} (h : FdB z ec xo xn xs row c0 c1 c2 w W) (k : Below W.heap.size W V) : FdB z ec xo xn xs row c0 c1 c2 w V :=
  h.same (below_mono h.bel k (Nat.le_refl _)) fun b _ hb => k.block b (by have := lt_of_heap h.ev; omega)
theorem fold_boxes (x0 x1 x2 x3 : Value) (xo xn : Int) (xs : ByteArray) (w : World) : ∀ W, (((w.alloc (.cells #[x0, x1, x2, x3] 34)).alloc (.cells #[.int .i64 0, .int .i64 0, .string ⟨#[]⟩, .slice none 0 0] 34)).alloc (.cells #[.int .i64 xo, .int .i64 xn, .string xs, .slice none 0 0] 34)).alloc (.cells #[.int .i64 0, .int .i64 0, .int .i64 0] 2) = W → FdB w.heap.size #[x0, x1, x2, x3] xo xn xs (.slice none 0 0) 0 0 0 w W ∧ W.heap.size = w.heap.size + 4 := by
  rintro W rfl
  obtain ⟨k1, b1, b2, s1⟩ := twin_box x0 x1 x2 x3 (.int .i64 0) (.int .i64 0) (.string ⟨#[]⟩) (.slice none 0 0) w _ rfl
  obtain ⟨k3, b3, s3⟩ := cells_made #[.int .i64 xo, .int .i64 xn, .string xs, .slice none 0 0] 34 ((w.alloc (.cells #[x0, x1, x2, x3] 34)).alloc (.cells #[.int .i64 0, .int .i64 0, .string ⟨#[]⟩, .slice none 0 0] 34)) _ rfl
  obtain ⟨k4, b4, s4⟩ := cells_made #[.int .i64 0, .int .i64 0, .int .i64 0] 2 (((w.alloc (.cells #[x0, x1, x2, x3] 34)).alloc (.cells #[.int .i64 0, .int .i64 0, .string ⟨#[]⟩, .slice none 0 0] 34)).alloc (.cells #[.int .i64 xo, .int .i64 xn, .string xs, .slice none 0 0] 34)) _ rfl
  rw [s1] at b3 s3
  rw [s3] at b4 s4
  refine ⟨⟨below_mono (below_mono k1 k3 (Nat.le_refl _)) k4 (Nat.le_refl _), (k4.block _ (by omega)).trans ((k3.block _ (by omega)).trans b1), (k4.block _ (by omega)).trans ((k3.block _ (by omega)).trans b2), (k4.block _ (by omega)).trans b3, b4, Nat.le_refl _⟩, s4⟩
/-- What Made is asked of constants. -/
theorem md_wk {o : Int} {ls : List Xp} (hl : (ls.length : Int) = kidX o) (hall : ls.all Xp.cB = true) (hne : ls ≠ []) : mdO o (cvA ls 0) (cvA ls 1) = wkO o (fvs ls) := by
  have hf : fvs ls = ls.map Xp.cV := by
    unfold fvs
    rw [List.filter_eq_self.2 (fun y hy => List.all_eq_true.1 hall y hy)]
  rw [hf]
  have h3 : ls.length ≤ 3 := by unfold kidX at hl; (repeat' split at hl) <;> omega
  match ls, hl, h3, hne with
  | [a], hl, _, _ =>
    show mdO o a.cV 0 = wkO o [a.cV]
    by_cases h20 : o = 20
    · subst h20; rfl
    · have h1 : wkO o [a.cV] = none := by unfold wkO; dsimp only; rw [if_neg h20]
      rw [h1]
      refine md_none ?_
      unfold kidX at hl
      (repeat' split at hl) <;> simp at hl <;> omega
  | [a, b], hl, _, _ =>
    show mdO o a.cV b.cV = wkO o [a.cV, b.cV]
    have h20 : o ≠ 20 := by
      intro h
      subst h
      simp [kidX] at hl
    unfold mdO
    rw [if_neg h20]
  | [a, b, c], hl, _, _ =>
    show mdO o a.cV b.cV = wkO o [a.cV, b.cV, c.cV]
    have h1 : wkO o [a.cV, b.cV, c.cV] = none := rfl
    rw [h1]
    refine md_none ?_
    unfold kidX at hl
    (repeat' split at hl) <;> simp at hl <;> omega
theorem cvA_in {ls : List Xp} (h : ∀ y ∈ ls, InR y.cV) (i : Nat) : InR (cvA ls i) := by
  unfold cvA
  cases hi : ls[i]? with
  | none => exact (⟨by decide, by decide⟩ : InR 0)
  | some y => exact h y (List.mem_of_getElem? hi)
set_option maxRecDepth 100000 in
set_option maxHeartbeats 32000000 in
theorem rfold_any {S : Nat → Prop} {B : Nat} (hS : ∀ b, S b → b < B) (x : Xp) : ∀ (bo : Option Addr) (k : Nat) (w : World), B ≤ w.heap.size → x.blt = true → x.rng → x.args.length ≤ k → ExL S w x.args bo →
    Calls Try.prog 24 #[exV x bo k] w (FoPost S w x.fo) := by
  induction x using Xp.ind with
  | h x IH =>
  intro bo k w hB hb hrng hk hx
  have hlen := xblt_len hb
  have hfo := x.fo_eq
  rw [Xp.rng_eq] at hrng
  obtain ⟨l, hl⟩ : ∃ l, l = x.args := ⟨_, rfl⟩
  obtain ⟨m, hm⟩ : ∃ m, m = l.length := ⟨_, rfl⟩
  obtain ⟨xo, hxo⟩ : ∃ v, v = x.op := ⟨_, rfl⟩
  obtain ⟨xn, hxn⟩ : ∃ v, v = x.n := ⟨_, rfl⟩
  obtain ⟨xs, hxs⟩ : ∃ v, v = x.nm := ⟨_, rfl⟩
  rw [show exV x bo k = .agg #[.int .i64 xo, .int .i64 xn, .string xs, .slice bo m k] from by rw [hm, hl, hxo, hxn, hxs]]
  rw [← hl] at IH hlen hfo hrng hk hx
  rw [← hxo] at hlen hfo
  rw [← hxn, ← hxs] at hfo
  rw [← hm] at hlen hk
  have hm3 : m ≤ 3 := by have := hlen.1; unfold kidX at this; (repeat' split at this) <;> omega
  have GA := Lib.hid (fold_boxes (.int .i64 xo) (.int .i64 xn) (.string xs) (.slice bo m k) xo xn xs w)
  have HX : Hid (∀ W, Below w.heap.size w W → ExL S W l bo) := Lib.hid fun W hW => hx.stay (fun _ h => h) fun b hb => hW.block b (by have := hS b hb; omega)
  have HI : Hid (∀ y ∈ l, ∀ (co : Option Addr) (ck : Nat) W, Below w.heap.size w W → y.args.length ≤ ck → ExL S W y.args co → Calls Try.prog 24 #[exV y co ck] W (FoPost S W y.fo)) := Lib.hid fun u hu co ck W hW h1 h2 => IH u hu co ck W (by have := hW.size; omega) (hlen.2.2 u hu) (hrng.2 u hu) h1 h2
  have HNEG : Hid (∀ y ∈ l, y.fo.op = 20 → y.fo.args ≠ []) := Lib.hid fun u hu h => fo_neg (hlen.2.2 u hu) h
  have HRNG : Hid (∀ y ∈ l, InR y.fo.cV) := Lib.hid fun u hu => cV_in (fo_kept u (hlen.2.2 u hu) (hrng.2 u hu)).1.rng
  have HLEN := Lib.hid hlen.1
  have HFO := Lib.hid hfo
  have HM := Lib.hid hm
  have HSB : Hid (∀ b, S b → b < w.heap.size) := Lib.hid fun b h => by have := hS b h; omega
  obtain ⟨r0, r1, r2, r3⟩ := quad (twin_box (.int .i64 xo) (.int .i64 xn) (.string xs) (.slice bo m k) (.int .i64 0) (.int .i64 0) (.string ⟨#[]⟩) (.slice none 0 0) w _ rfl).2.1
  clear r3
  clear IH hb hrng hk hx hlen hfo hl hm hxo hxn hxs
  go_enter Try.func24, Try.ntmps24
  go_upto_region 3 with fail
  clear r0 r1 r2
  obtain ⟨z, hz⟩ : ∃ z, z = w.heap.size := ⟨_, rfl⟩
  obtain ⟨W, hW⟩ : ∃ X, (((w.alloc (.cells #[.int .i64 xo, .int .i64 xn, .string xs, .slice bo m k] 34)).alloc (.cells #[.int .i64 0, .int .i64 0, .string ⟨#[]⟩, .slice none 0 0] 34)).alloc (.cells #[.int .i64 xo, .int .i64 xn, .string xs, .slice none 0 0] 34)).alloc (.cells #[.int .i64 0, .int .i64 0, .int .i64 0] 2) = X := ⟨_, rfl⟩
  obtain ⟨g1, sz1⟩ := GA.out W hW
  rw [hW, ← hz, show z + 1 + 1 + 1 = z + 3 from rfl, show z + 1 + 1 = z + 2 from rfl]
  rw [← hz] at g1 sz1
  have HE0 := Lib.hid g1
  have HZ := Lib.hid (show z = w.heap.size ∧ W.heap.size = z + 4 from ⟨hz, sz1⟩)
  have HSWB : Hid (∀ b, S b → b < W.heap.size ∧ b < z) := Lib.hid fun b h => by have := HSB.out b h; omega
  have c3 : W.cell? ⟨z, 3, none⟩ = some (.slice bo m k) := cell_blk g1.ez 3
  obtain ⟨kn, hkn⟩ : ∃ b : Bool, b = decide (0 < m) := ⟨_, rfl⟩
  obtain ⟨av, hav⟩ : ∃ a, a = (⟨z + 3, 0, none⟩ : Addr) := ⟨_, rfl⟩
  rw [← hav]
  have HKN := Lib.hid hkn
  have HAV := Lib.hid hav
  clear hW g1 GA hz sz1 hkn hav
  go_cut [5] (fun v wx => v = .bool kn ∧ W = wx)
  case first =>
    by_cases hm0 : 0 < m
    · have h0 : (0 : Int) < (m : Int) := by omega
      have hk1 : Hid (kn = true) := Lib.hid (by rw [HKN.out]; simp [hm0])
      clear hm0
      go_wp2_with fail
      go_meet
      exact ⟨by rw [hk1.out]; exact congrArg _ (by simp; omega), rfl⟩
    · have h0 : ¬ (0 : Int) < (m : Int) := by omega
      have hk1 : Hid (kn = false) := Lib.hid (by rw [HKN.out]; simp [hm0])
      clear hm0
      go_wp2_with fail
      go_meet
      exact ⟨by rw [hk1.out]; exact congrArg _ (by simp; omega), rfl⟩
  case rest =>
  obtain ⟨rfl, rfl⟩ := hcut
  clear c3
  go_upto_region 5 with fail
  go_loopw [5, 6] (fun kv iv wr => ∃ (j : Nat) (va : Option Addr) (vc : Nat) (kj : Bool) (qs : List Q4), j ≤ m ∧ kv = .bool kj ∧ iv = .int .i64 j ∧ Hid (kj = (kn && ((l.take j).map Xp.fo).all Xp.cB) ∧ FoB S W.heap.size (.slice va j vc) (.slice none 0 0) ((l.take j).map Xp.fo) [] qs wr ∧ W.heap.size ≤ wr.heap.size) ∧ Hid (FdB z #[.int .i64 xo, .int .i64 xn, .string xs, .slice bo m k] xo xn xs (.slice va j vc) (cvA ((l.take j).map Xp.fo) 0) (cvA ((l.take j).map Xp.fo) 1) (cvA ((l.take j).map Xp.fo) 2) w wr)) (fun _ iv _ => m - (intOf iv).toNat)
  case atStart => exact ⟨0, none, 0, kn, [], by omega, rfl, rfl, Lib.hid ⟨by simp, ⟨rfl, Row4.nil _ _ _, World.ownsRow_nil _ _ _ _, by simpa using Fits.nil _⟩, Nat.le_refl _⟩, Lib.hid HE0.out⟩
  case round =>
    obtain ⟨j, va, vc, kj, qs, hj, rfl, rfl, HR, HE⟩ := hrel
    have HBW := Lib.hid HE.out.bel
    have c3 : wr.cell? ⟨z, 3, none⟩ = some (.slice bo m k) := cell_blk HE.out.ez 3
    by_cases hlt : j < m
    · obtain ⟨y, hy⟩ : ∃ y, l[j]? = some y := ⟨_, List.getElem?_eq_getElem (by rw [← HM.out]; exact hlt)⟩
      obtain ⟨a, co, ck, rfl, hsa, hck, ⟨y0, y1, y2, y3⟩, hyl⟩ := (HX.out wr HBW.out).get hy
      have htk1 : (l.take (j + 1)).map Xp.fo = (l.take j).map Xp.fo ++ [y.fo] := by rw [List.take_add_one, hy]; simp
      have CY : Hid (∀ W', Below wr.heap.size wr W' → Calls Try.prog 24 #[exV y co ck] W' (FoPost S W' y.fo)) := Lib.hid fun W' hW' => HI.out y (List.mem_of_getElem? hy) co ck W' (below_mono HBW.out hW' (Nat.le_refl _)) hck (hyl.stay (fun _ h => h) fun b hb => hW'.block b (by have := HSB.out b hb; have := HBW.out.size; omega))
      have HN20 : Hid (y.fo.op = 20 → y.fo.args ≠ []) := Lib.hid (HNEG.out y (List.mem_of_getElem? hy))
      obtain ⟨sy, hsy⟩ : ∃ v, v = y.fo := ⟨_, rfl⟩
      obtain ⟨ls, hls⟩ : ∃ v, v = (l.take j).map Xp.fo := ⟨_, rfl⟩
      have HTK : Hid ((l.take (j + 1)).map Xp.fo = ls ++ [sy]) := Lib.hid (by rw [htk1, hsy, hls])
      have HLL : Hid (ls.length = j) := Lib.hid (by rw [hls, List.length_map, List.length_take, ← HM.out]; omega)
      rw [← hls] at HR HE
      rw [← hsy] at CY HN20
      obtain ⟨cm, hcm⟩ : ∃ c, c = y.args.length := ⟨_, rfl⟩
      obtain ⟨yo, hyo⟩ : ∃ v, v = y.op := ⟨_, rfl⟩
      obtain ⟨yn, hyn⟩ : ∃ v, v = y.n := ⟨_, rfl⟩
      obtain ⟨ys, hys⟩ : ∃ v, v = y.nm := ⟨_, rfl⟩
      rw [← hcm] at y3
      rw [← hyo] at y0
      rw [← hyn] at y1
      rw [← hys] at y2
      rw [show exV y co ck = .agg #[.int .i64 yo, .int .i64 yn, .string ys, .slice co cm ck] from by rw [hcm, hyo, hyn, hys]] at CY
      obtain ⟨so, hso⟩ : ∃ v, v = sy.op := ⟨_, rfl⟩
      obtain ⟨sn, hsn⟩ : ∃ v, v = sy.n := ⟨_, rfl⟩
      obtain ⟨ss, hss⟩ : ∃ v, v = sy.nm := ⟨_, rfl⟩
      obtain ⟨sm, hsm⟩ : ∃ v, v = sy.args.length := ⟨_, rfl⟩
      have HSY := Lib.hid (And.intro hso (And.intro hsn (And.intro hss hsm)))
      have hj1000 : j ≤ 1000 := by omega
      have HQL : Hid (qs.length = j) := Lib.hid (by obtain ⟨a, c, e, h⟩ := HR.out.2.1.row.form; injection e with _ e2 _; omega)
      have HLT : Hid (∀ g, (Value.slice va j vc).ownBlock = some g → g < wr.heap.size ∧ W.heap.size ≤ g) := Lib.hid fun g hg => HR.out.2.1.row.lt hg
      obtain ⟨s0, s1, s2, s3⟩ := quad HE.out.eo
      have j0 : (0 : Int) ≤ (j : Int) := by omega
      have j1 : (j : Int) < (m : Int) := by omega
      have HZC : Hid (FourX wr (a.add (j * 4)) (.int .i64 yo) (.int .i64 yn) (.string ys) (.slice co cm ck)) := Lib.hid ⟨y0, y1, y2, y3⟩
      clear hcm hyo hyn hys hsa hck hyl hy htk1 hsy hls hso hsn hss hsm s0 s1 s2
      go_upto_region 7 with fail
      go_cut [] (fun wx => ∃ (g' cap : Nat) (qs' : List Q4), Hid (FoB S W.heap.size (.slice (some ⟨g', 0, none⟩) (j + 1) cap) (.slice none 0 0) (ls ++ [sy]) [] qs' wx ∧ W.heap.size ≤ wx.heap.size ∧ FdB z #[.int .i64 xo, .int .i64 xn, .string xs, .slice (some a) m k] xo xn xs (.slice (some ⟨g', 0, none⟩) (j + 1) cap) (cvA ls 0) (cvA ls 1) (cvA ls 2) w wx))
      case first =>
        go_region_law (first | (refine step_appX rfl _ _ rfl W.heap.size (.slice va j vc) qs rfl HR4A.out w4.heap.size so sn ss eo2 sm ek2 rfl H4A.out (by rw [HQL.out]; exact hj1000) HSZ4.out ?_; rw [HQL.out]; intro g' cap w5 hown hgr hor hgl; have HR5 := Lib.hid hown; have HG5 := Lib.hid hgr; have HO5 := Lib.hid hor; have HB5 : Hid (∀ b, b < W.heap.size → w5.heap[b]? = w4.heap[b]?) := Lib.hid fun b hb => (hgr.block b (by have := HSZ4.out; omega) (fun e => by have := HLT.out b e.symm; omega)).trans (HA4.out.block b (by have := HSZ4.out; have := HE4.out.2; omega)); have HX5 : Hid (w5.heap[z + 2]? = some (.cells #[.int .i64 xo, .int .i64 xn, .string xs, .slice va j vc] 34 (0, 0))) := Lib.hid ((HB5.out _ (by have := HZ.out; omega)).trans HE4.out.1.eo); have e3 : w5.cell? ⟨z + 2, 3, none⟩ = some (.slice va j vc) := cell_blk HX5.out 3; have f3 : w5.frozen? ⟨z + 2, 3, none⟩ = false := free_blk HX5.out 3; clear hown hgr hor hgl) | (go_simp; go_wp2_with (go_at_call 24; (with_reducible refine (CY.out _ (by first | exact Below.refl _ _ | exact (Below.refl _ _).drew)).mono ?_); rintro e w4 ⟨⟨eo2, ek2, he, hek2, hok⟩, hb4⟩; obtain rfl : e = Ending.returned (.agg #[.int .i64 so, .int .i64 sn, .string ss, .slice eo2 sm ek2]) := (by rw [he, HSY.out.1, HSY.out.2.1, HSY.out.2.2.1, HSY.out.2.2.2]); have HB4 : Hid (Below wr.heap.size wr w4) := Lib.hid (by first | with_reducible exact hb4 | with_reducible exact undrawS hb4); have HOK : Hid (sy.args.length ≤ ek2 ∧ ExL (fun b => S b ∨ (wr.heap.size ≤ b ∧ b < w4.heap.size)) w4 sy.args eo2) := Lib.hid ⟨hek2, hok⟩; have HE4 := Lib.hid (And.intro (HE.out.next HB4.out) (show W.heap.size ≤ w4.heap.size from Nat.le_trans HR.out.2.2 HB4.out.size)); have s3 : w4.cell? ⟨z + 2, 3, none⟩ = some (.slice va j vc) := cell_blk HE4.out.1.eo 3; have HA4 := Lib.hid ((Below.refl w4.heap.size w4).alloc (Nat.le_refl _) (.cells #[.int .i64 so, .int .i64 sn, .string ss, .slice eo2 sm ek2] 34)); have H4A := Lib.hid (heap_alloc_new w4 (.cells #[.int .i64 so, .int .i64 sn, .string ss, .slice eo2 sm ek2] 34)); have HR4A := Lib.hid ((HR.out.2.1.row.stay (fun g hg => HB4.out.block g (HR.out.2.1.row.lt hg).1)).stay (fun g hg => HA4.out.block g (Nat.lt_of_lt_of_le (HR.out.2.1.row.lt hg).1 HB4.out.size))); have s3a : (w4.alloc (.cells #[.int .i64 so, .int .i64 sn, .string ss, .slice eo2 sm ek2] 34)).cell? ⟨z + 2, 3, none⟩ = some (.slice va j vc) := cell_blk ((HA4.out.block (z + 2) (lt_of_heap HE4.out.1.eo)).trans HE4.out.1.eo) 3; have HSZ4 : Hid (W.heap.size ≤ (w4.alloc (.cells #[.int .i64 so, .int .i64 sn, .string ss, .slice eo2 sm ek2] 34)).heap.size) := Lib.hid (by have := HE4.out.2; simp; omega); clear he hek2 hok hb4)))
        all_goals
          go_wp2_with fail
          go_meet
          have hst : ∀ b, b ≠ z + 2 → (w5.setCell ⟨z + 2, 3, none⟩ (.slice (some ⟨g', 0, none⟩) (j + 1) cap)).heap[b]? = w5.heap[b]? := fun b hb => Below.heap_setCell _ _ _ _ hb
          have hs5 : (w5.setCell ⟨z + 2, 3, none⟩ (.slice (some ⟨g', 0, none⟩) (j + 1) cap)).heap.size = w5.heap.size := by simp
          refine ⟨g', cap, qs ++ [(.int .i64 so, .int .i64 sn, .string ss, .slice eo2 sm ek2)], Lib.hid ⟨?_, ?_, ?_⟩⟩
          · have h1 : FoB S W.heap.size (.slice (some ⟨g', 0, none⟩) (j + 1) cap) (.slice none 0 0) (ls ++ [sy]) [] (qs ++ [(.int .i64 so, .int .i64 sn, .string ss, .slice eo2 sm ek2)]) w5 := by
              refine FoB.push (w := w4.alloc (.cells #[.int .i64 so, .int .i64 sn, .string ss, .slice eo2 sm ek2] 34)) (S' := fun b => S b ∨ (wr.heap.size ≤ b ∧ b < w4.heap.size)) ((HR.out.2.1.stay (fun b h => (HSWB.out b h).1) HR.out.2.2 HB4.out.size fun b hb _ => HB4.out.block b hb).stay (fun b h => (HSWB.out b h).1) HE4.out.2 HA4.out.size fun b hb _ => HA4.out.block b hb) (fun b h => (HSWB.out b h).1) HSZ4.out HR5.out HG5.out HO5.out ?_ ?_
              · exact ⟨eo2, ek2, by rw [HSY.out.1, HSY.out.2.1, HSY.out.2.2.1, HSY.out.2.2.2], HOK.out.1, HOK.out.2.stay (fun _ h => h) fun b hb => HA4.out.block b (by
                  rcases hb with hb | hb
                  · have := (HSWB.out b hb).1; have := HE4.out.2; omega
                  · exact hb.2)⟩
              · have h9 := HE4.out.2
                have h8 := HR.out.2.2
                rintro b (hb | hb)
                · exact ⟨by have := (HSWB.out b hb).1; simp; omega, .inl hb⟩
                · exact ⟨by simp; omega, .inr ⟨by omega, fun e => by have := HLT.out b e; omega, fun e => by cases e⟩⟩
            exact h1.stay (fun b h => (HSWB.out b h).1) (by have := HG5.out.size; have := HSZ4.out; omega) (by rw [hs5]; exact Nat.le_refl _) fun b hb hc => hst b (by
              have := HZ.out
              rcases hc with hc | hc
              · have := (HSWB.out b hc).2; omega
              · omega)
          · rw [hs5]
            exact Nat.le_trans HSZ4.out HG5.out.size
          · have hbel : Below w.heap.size w w5 := (below_mono HE4.out.1.bel HA4.out (Nat.le_refl _)).grown HG5.out (by have := HZ.out; have := HSZ4.out; omega) (fun g hg => by have := HLT.out g hg; have := HZ.out; omega)
            have hz := HZ.out
            exact ⟨hbel.setCell (p := ⟨z + 2, 3, none⟩) (by show w.heap.size ≤ z + 2; omega) _, (hst _ (by omega)).trans ((HB5.out _ (by omega)).trans HE4.out.1.ez), (hst _ (by omega)).trans ((HB5.out _ (by omega)).trans HE4.out.1.ey), heap_set_at (i := 3) _ HX5.out, (hst _ (by omega)).trans ((HB5.out _ (by omega)).trans HE4.out.1.ev), HE4.out.1.le⟩
      case rest =>
        obtain ⟨g', cap, qs', HK⟩ := hcut
        obtain ⟨W7, hW7⟩ : ∃ X, X = wc := ⟨_, rfl⟩
        rw [← hW7] at HK ⊢
        have HKJ := Lib.hid HR.out.1
        clear hW7 c3 s3 y0 y1 y2 y3 HR CY
        have HE7 := Lib.hid HK.out.2.2
        have HL7 : Hid (ExL (fun b => S b ∨ (W.heap.size ≤ b ∧ b < W7.heap.size)) W7 (ls ++ [sy]) (some ⟨g', 0, none⟩)) := Lib.hid HK.out.1.list
        obtain ⟨aa, haa⟩ : ∃ a', a' = (⟨g', 0, none⟩ : Addr) := ⟨_, rfl⟩
        obtain ⟨a2, co2, ck2, ha2, _, hck2, ⟨t0, t1, t2, t3⟩, hel2⟩ := HL7.out.get (i := j) (x := sy) (by rw [List.getElem?_append_right (by rw [HLL.out]; exact Nat.le_refl _), HLL.out, Nat.sub_self]; rfl)
        injection ha2 with ha2
        subst ha2
        rw [← haa] at t0 t1 t2 t3
        rw [← HSY.out.1] at t0
        rw [← HSY.out.2.1] at t1
        rw [← HSY.out.2.2.1] at t2
        rw [← HSY.out.2.2.2] at t3
        have HAA := Lib.hid haa
        obtain ⟨s0, s1, s2, s3⟩ := quad HE7.out.eo
        rw [← haa] at s3
        obtain ⟨cb, hcb⟩ : ∃ v, v = sy.cB := ⟨_, rfl⟩
        obtain ⟨cv, hcv⟩ : ∃ v, v = sy.cV := ⟨_, rfl⟩
        have HC := Lib.hid (And.intro hcb hcv)
        have CC : Hid (Calls Try.prog 56 #[.agg #[.int .i64 so, .int .i64 sn, .string ss, .slice co2 sm ck2]] W7 fun e w' => e = .returned (.tuple #[.int .i64 cv, .bool cb]) ∧ Below W7.heap.size W7 w') := Lib.hid (by
          have := rvalue_any (S := fun b => S b ∨ (W.heap.size ≤ b ∧ b < W7.heap.size)) sy co2 ck2 W7 (fun b hb => by
            have := HK.out.2.1
            rcases hb with hb | hb
            · have := (HSWB.out b hb).1; omega
            · exact hb.2) hel2 HN20.out hck2
          rw [← hcb, ← hcv, show exV sy co2 ck2 = .agg #[.int .i64 so, .int .i64 sn, .string ss, .slice co2 sm ck2] from by rw [HSY.out.1, HSY.out.2.1, HSY.out.2.2.1, HSY.out.2.2.2]] at this
          exact this)
        have jj1 : (j : Int) < ((j : Int) + 1) := by omega
        have jj3 : (j : Int) < 3 := by omega
        clear hcb hcv hel2 hck2 haa s0 s1 s2
        go_upto_region 9 with (go_at_call 56; (with_reducible refine CC.out.mono ?_); rintro e w8 ⟨rfl, hb⟩; have HB8 := Lib.hid hb; clear hb)
        have HE8 := Lib.hid (HE7.out.next HB8.out)
        have HF8 : Hid (FoB S W.heap.size (.slice (some ⟨g', 0, none⟩) (j + 1) cap) (.slice none 0 0) (ls ++ [sy]) [] qs' w8 ∧ W.heap.size ≤ w8.heap.size) := Lib.hid ⟨HK.out.1.stay (fun b h => (HSWB.out b h).1) HK.out.2.1 HB8.out.size fun b hb _ => HB8.out.block b hb, Nat.le_trans HK.out.2.1 HB8.out.size⟩
        clear t0 t1 t2 t3 s3
        have HJ3 : Hid (j = 0 ∨ j = 1 ∨ j = 2) := Lib.hid (by omega)
        have hold : ∃ cold, w8.cell? ⟨z + 3, j, none⟩ = some cold := by
          rcases HJ3.out with h | h | h
          · rw [h]; exact ⟨_, cell_blk HE8.out.ev 0⟩
          · rw [h]; exact ⟨_, cell_blk HE8.out.ev 1⟩
          · rw [h]; exact ⟨_, cell_blk HE8.out.ev 2⟩
        obtain ⟨cold, hcold⟩ := hold
        have hfz : w8.frozen? ⟨z + 3, j, none⟩ = false := free_blk HE8.out.ev j
        rw [HAV.out]
        have HSTO : Hid (∀ V, w8.setCell ⟨z + 3, j, none⟩ (.int .i64 cv) = V → FdB z #[.int .i64 xo, .int .i64 xn, .string xs, .slice (some a) m k] xo xn xs (.slice (some ⟨g', 0, none⟩) (j + 1) cap) (cvA (ls ++ [sy]) 0) (cvA (ls ++ [sy]) 1) (cvA (ls ++ [sy]) 2) w V ∧ (∀ b, b ≠ z + 3 → V.heap[b]? = w8.heap[b]?) ∧ V.heap.size = w8.heap.size) := Lib.hid (by
          rintro V rfl
          have hz := HZ.out
          have hst : ∀ b, b ≠ z + 3 → (w8.setCell ⟨z + 3, j, none⟩ (.int .i64 cv)).heap[b]? = w8.heap[b]? := fun b hb => Below.heap_setCell _ _ _ _ hb
          refine ⟨⟨HE8.out.bel.setCell (p := ⟨z + 3, j, none⟩) (by show w.heap.size ≤ z + 3; omega) _, (hst _ (by omega)).trans HE8.out.ez, (hst _ (by omega)).trans HE8.out.ey, (hst _ (by omega)).trans HE8.out.eo, ?_, HE8.out.le⟩, hst, by simp⟩
          have hll := HLL.out
          rcases HJ3.out with h | h | h
          · subst h
            have e0 : cvA (ls ++ [sy]) 0 = cv := by rw [HC.out.2, ← cvA_new ls sy, hll]
            have e1 : cvA (ls ++ [sy]) 1 = cvA ls 1 := by rw [cvA_far _ 1 (by simp [hll]), cvA_far _ 1 (by omega)]
            have e2 : cvA (ls ++ [sy]) 2 = cvA ls 2 := by rw [cvA_far _ 2 (by simp [hll]), cvA_far _ 2 (by omega)]
            rw [e0, e1, e2]
            exact heap_set_at (i := 0) _ HE8.out.ev
          · subst h
            have e1 : cvA (ls ++ [sy]) 1 = cv := by rw [HC.out.2, ← cvA_new ls sy, hll]
            have e0 : cvA (ls ++ [sy]) 0 = cvA ls 0 := cvA_old _ _ _ (by omega)
            have e2 : cvA (ls ++ [sy]) 2 = cvA ls 2 := by rw [cvA_far _ 2 (by simp [hll]), cvA_far _ 2 (by omega)]
            rw [e0, e1, e2]
            exact heap_set_at (i := 1) _ HE8.out.ev
          · subst h
            have e2 : cvA (ls ++ [sy]) 2 = cv := by rw [HC.out.2, ← cvA_new ls sy, hll]
            have e0 : cvA (ls ++ [sy]) 0 = cvA ls 0 := cvA_old _ _ _ (by omega)
            have e1 : cvA (ls ++ [sy]) 1 = cvA ls 1 := cvA_old _ _ _ (by omega)
            rw [e0, e1, e2]
            exact heap_set_at (i := 2) _ HE8.out.ev)
        go_upto_region 10 with fail
        clear hcold hfz
        obtain ⟨W9, hW9⟩ : ∃ X, w8.setCell ⟨z + 3, j, none⟩ (.int .i64 cv) = X := ⟨_, rfl⟩
        have HE9 := Lib.hid (HSTO.out W9 hW9)
        rw [hW9, ← HAV.out]
        clear hW9
        have HF9 : Hid (FoB S W.heap.size (.slice (some ⟨g', 0, none⟩) (j + 1) cap) (.slice none 0 0) (ls ++ [sy]) [] qs' W9 ∧ W.heap.size ≤ W9.heap.size) := Lib.hid ⟨HF8.out.1.stay (fun b h => (HSWB.out b h).1) HF8.out.2 (by rw [HE9.out.2.2]; exact Nat.le_refl _) fun b hb hc => HE9.out.2.1 b (by
          have := HZ.out
          rcases hc with hc | hc
          · have := (HSWB.out b hc).2; omega
          · omega), by rw [HE9.out.2.2]; exact HF8.out.2⟩
        cases kj with
        | true =>
          go_wp2_with fail
          go_roundw
          case rel =>
            refine ⟨j + 1, some ⟨g', 0, none⟩, cap, cb, qs', by omega, by go_num, rfl, Lib.hid ⟨?_, ?_, HF9.out.2⟩, Lib.hid ?_⟩
            · rw [HTK.out, List.all_append, HC.out.1]
              have h1 := HKJ.out
              cases hk9 : kn
              · rw [hk9] at h1; cases h1
              · rw [hk9] at h1
                simp only [Bool.true_and] at h1
                rw [← h1]
                simp
            · rw [HTK.out]; exact HF9.out.1
            · rw [HTK.out]; exact HE9.out.1
          case measure => simp [intOf]; omega
        | false =>
          go_wp2_with fail
          go_roundw
          case rel =>
            refine ⟨j + 1, some ⟨g', 0, none⟩, cap, false, qs', by omega, by go_num, rfl, Lib.hid ⟨?_, ?_, HF9.out.2⟩, Lib.hid ?_⟩
            · rw [HTK.out, List.all_append]
              have h1 := HKJ.out
              cases hk9 : kn
              · rfl
              · rw [hk9] at h1
                simp only [Bool.true_and] at h1 ⊢
                rw [← h1]
                rfl
            · rw [HTK.out]; exact HF9.out.1
            · rw [HTK.out]; exact HE9.out.1
          case measure => simp [intOf]; omega
    · obtain rfl : j = m := by omega
      have HLS : Hid ((l.take j).map Xp.fo = l.map Xp.fo) := Lib.hid (by rw [List.take_of_length_le (by rw [HM.out]; exact Nat.le_refl _)])
      rw [HLS.out] at HR HE
      have HCR : Hid (∀ y ∈ l.map Xp.fo, InR y.cV) := Lib.hid fun y hy => by
        obtain ⟨u, hu, rfl⟩ := List.mem_map.1 hy
        exact HRNG.out u hu
      obtain ⟨ls, hls⟩ : ∃ v, v = l.map Xp.fo := ⟨_, rfl⟩
      rw [← hls] at HR HFO HE HCR
      have HLL : Hid (ls.length = j) := Lib.hid (by rw [hls, List.length_map, ← HM.out])
      have j1 : ¬ (j : Int) < (j : Int) := by omega
      have HVC : Hid (j ≤ vc) := Lib.hid (by obtain ⟨a, c, e, h⟩ := HR.out.2.1.row.form; injection e with _ e2 e3; omega)
      have HBASE : Hid (∀ V, Below wr.heap.size wr V → ∀ x0 x1 x2 x3, FoPost S w (.mk xo xn xs ls) (.returned (.agg #[.int .i64 xo, .int .i64 xn, .string xs, .slice va j vc])) ((((V.setCell ⟨z + 1, 0, none⟩ x0).setCell ⟨z + 1, 1, none⟩ x1).setCell ⟨z + 1, 2, none⟩ x2).setCell ⟨z + 1, 3, none⟩ x3)) := Lib.hid fun V hV x0 x1 x2 x3 => by
        have hz := HZ.out
        have hwx := HR.out.2.2
        have := fo_fin (S := S) (R := fun b => S b ∨ (W.heap.size ≤ b ∧ b < wr.heap.size)) (y := z + 1) (t := .mk xo xn xs ls) (bo := va) (k := vc) (below_mono HE.out.bel hV (Nat.le_refl _)) (by omega) (fun b hb => by
          have := hV.size
          rcases hb with hb | hb
          · exact ⟨by have := HSB.out b hb; omega, .inl hb⟩
          · exact ⟨by omega, .inr ⟨by omega, by omega⟩⟩) (by show ls.length ≤ vc; rw [HLL.out]; exact HVC.out) (HR.out.2.1.list.stay (fun _ h => h) fun b hb => hV.block b (by
          rcases hb with hb | hb
          · have := HSB.out b hb; omega
          · omega)) x0 x1 x2 x3
        have e : exV (.mk xo xn xs ls) va vc = .agg #[.int .i64 xo, .int .i64 xn, .string xs, .slice va j vc] := by
          show Value.agg #[.int .i64 xo, .int .i64 xn, .string xs, .slice va ls.length vc] = _
          rw [HLL.out]
        rw [e] at this
        exact this
      have HKJ := Lib.hid HR.out.1
      clear hls HX HI
      cases kj with
      | false =>
        have HFB : Hid (x.fo = .mk xo xn xs ls) := Lib.hid (by
          rw [HFO.out]
          unfold foN
          refine if_pos ?_
          by_cases h0 : j = 0
          · exact .inr (List.length_eq_zero_iff.1 (by rw [HLL.out, h0]))
          · left
            have h1 := HKJ.out
            rw [HKN.out, show decide (0 < j) = true from by simp; omega, Bool.true_and] at h1
            obtain ⟨y, hy, hcy⟩ := List.all_eq_false.1 h1.symm
            unfold fvs
            rw [List.length_map]
            exact List.length_filter_lt_length_iff_exists.2 ⟨y, hy, hcy⟩)
        go_upto_region 12 with fail
        obtain ⟨d0, d1, d2, d3⟩ := quad HE.out.ey
        have p0 : wr.frozen? ⟨z + 1, 0, none⟩ = false := free_blk HE.out.ey 0
        have p1 : wr.frozen? ⟨z + 1, 1, none⟩ = false := free_blk HE.out.ey 1
        have p2 : wr.frozen? ⟨z + 1, 2, none⟩ = false := free_blk HE.out.ey 2
        have p3 : wr.frozen? ⟨z + 1, 3, none⟩ = false := free_blk HE.out.ey 3
        obtain ⟨i0, i1, i2, i3⟩ := quad HE.out.eo
        go_wp2_with fail
        have HS10 := Lib.hid (four_set wr (z + 1) (.int .i64 xo) (.int .i64 xn) (.string xs) (.slice va j vc) _ _ ⟨_, _, _, _, rfl⟩ HE.out.ey)
        have hfin := HBASE.out wr (Below.refl _ _) (.int .i64 xo) (.int .i64 xn) (.string xs) (.slice va j vc)
        clear d0 d1 d2 d3 p0 p1 p2 p3
        obtain ⟨W10, hW10⟩ : ∃ Y, ((((wr).setCell ⟨z + 1, 0, none⟩ (.int .i64 xo)).setCell ⟨z + 1, 1, none⟩ (.int .i64 xn)).setCell ⟨z + 1, 2, none⟩ (.string xs)).setCell ⟨z + 1, 3, none⟩ (.slice va j vc) = Y := ⟨_, rfl⟩
        rw [hW10] at hfin ⊢
        obtain ⟨_, _, _, x10⟩ := HS10.out W10 hW10
        obtain ⟨t0, t1, t2, t3⟩ := quad x10
        exact bodyPost_ret (v := .agg #[.int .i64 xo, .int .i64 xn, .string xs, .slice va j vc]) (by simp [results, Try.results24, go_sem, t0, t1, t2, t3]) rfl (by rw [HFB.out]; exact hfin)
      | true =>
        have HJ0 : Hid (0 < j ∧ ls.all Xp.cB = true) := Lib.hid (by
          have h1 := HKJ.out
          rw [HKN.out] at h1
          have h2 := Bool.and_eq_true_iff.1 h1.symm
          exact ⟨by simpa using h2.1, h2.2⟩)
        obtain ⟨wv, hwv⟩ : ∃ v, v = mdO xo (cvA ls 0) (cvA ls 1) := ⟨_, rfl⟩
        have CM := Lib.hid (fun V => made_any xo (cvA ls 0) (cvA ls 1) (cvA_in HCR.out 0) (cvA_in HCR.out 1) V)
        have HNE : Hid (ls ≠ []) := Lib.hid (by intro h; have := HLL.out; rw [h] at this; simp at this; have := HJ0.out.1; omega)
        have HFN : Hid (x.fo = foV xo xn xs ls wv) := Lib.hid (by
          rw [HFO.out, hwv, md_wk (by rw [HLL.out]; exact HLEN.out) HJ0.out.2 HNE.out]
          unfold foN
          rw [if_neg]
          rintro (h | h)
          · have : (fvs ls).length = ls.length := by
              unfold fvs
              rw [List.filter_eq_self.2 (fun y hy => List.all_eq_true.1 HJ0.out.2 y hy), List.length_map]
            omega
          · exact HNE.out h)
        rw [← hwv] at CM
        obtain ⟨v0, hv0⟩ : ∃ v, v = cvA ls 0 := ⟨_, rfl⟩
        obtain ⟨v1, hv1⟩ : ∃ v, v = cvA ls 1 := ⟨_, rfl⟩
        obtain ⟨v2, hv2⟩ : ∃ v, v = cvA ls 2 := ⟨_, rfl⟩
        rw [← hv0, ← hv1] at CM
        rw [← hv0, ← hv1, ← hv2] at HE
        clear hwv hv0 hv1 hv2 HCR
        have HBD : Hid (Below wr.heap.size wr wr.drew) := Lib.hid (Below.refl _ _).drew
        have HSM : Hid (∀ V, Below wr.heap.size wr V → V.cell? ⟨z, 0, none⟩ = some (.int .i64 xo) ∧ V.cell? ⟨z + 3, 0, none⟩ = some (.int .i64 v0) ∧ V.cell? ⟨z + 3, 1, none⟩ = some (.int .i64 v1)) := Lib.hid fun V hV => ⟨cell_blk (HE.out.next hV).ez 0, cell_blk (HE.out.next hV).ev 0, cell_blk (HE.out.next hV).ev 1⟩
        rw [HAV.out]
        obtain ⟨c0, _, _, _⟩ := quad HE.out.ez
        have k0 : wr.cell? ⟨z + 3, 0, none⟩ = some (.int .i64 v0) := cell_blk HE.out.ev 0
        have k1 : wr.cell? ⟨z + 3, 1, none⟩ = some (.int .i64 v1) := cell_blk HE.out.ev 1
        clear c3
        go_upto_region 13 with fail
        cases wv with
        | none =>
          have HFB : Hid (x.fo = .mk xo xn xs ls) := Lib.hid HFN.out
          have CM2 : Hid (∀ V, Calls Try.prog 57 #[.int .i64 xo, .int .i64 v0, .int .i64 v1] V fun e w' => e = .returned (.tuple #[.int .i64 0, .bool false]) ∧ Below V.heap.size V w') := CM
          go_region_held3 (fun w' => w'.cell? ⟨z, 0, none⟩ = some (.int .i64 xo) ∧ w'.cell? ⟨z + 3, 0, none⟩ = some (.int .i64 v0) ∧ w'.cell? ⟨z + 3, 1, none⟩ = some (.int .i64 v1))
            (first | exact HSM.out _ HB9.out | (go_keep; done))
            ((go_at_call 57; (with_reducible refine (CM2.out _).mono ?_); rintro e w9 ⟨rfl, hb⟩; have HB9 := Lib.hid (HBD.out.trans hb); have HE9 := Lib.hid (HE.out.next HB9.out); clear hb))
          obtain ⟨d0, d1, d2, d3⟩ := quad HE9.out.ey
          have p0 : w9.frozen? ⟨z + 1, 0, none⟩ = false := free_blk HE9.out.ey 0
          have p1 : w9.frozen? ⟨z + 1, 1, none⟩ = false := free_blk HE9.out.ey 1
          have p2 : w9.frozen? ⟨z + 1, 2, none⟩ = false := free_blk HE9.out.ey 2
          have p3 : w9.frozen? ⟨z + 1, 3, none⟩ = false := free_blk HE9.out.ey 3
          obtain ⟨i0, i1, i2, i3⟩ := quad HE9.out.eo
          go_wp2_with fail
          have HS10 := Lib.hid (four_set w9 (z + 1) (.int .i64 xo) (.int .i64 xn) (.string xs) (.slice va j vc) _ _ ⟨_, _, _, _, rfl⟩ HE9.out.ey)
          have hfin := HBASE.out w9 HB9.out (.int .i64 xo) (.int .i64 xn) (.string xs) (.slice va j vc)
          clear d0 d1 d2 d3 p0 p1 p2 p3
          obtain ⟨W10, hW10⟩ : ∃ Y, ((((w9).setCell ⟨z + 1, 0, none⟩ (.int .i64 xo)).setCell ⟨z + 1, 1, none⟩ (.int .i64 xn)).setCell ⟨z + 1, 2, none⟩ (.string xs)).setCell ⟨z + 1, 3, none⟩ (.slice va j vc) = Y := ⟨_, rfl⟩
          rw [hW10] at hfin ⊢
          obtain ⟨_, _, _, x10⟩ := HS10.out W10 hW10
          obtain ⟨t0, t1, t2, t3⟩ := quad x10
          exact bodyPost_ret (v := .agg #[.int .i64 xo, .int .i64 xn, .string xs, .slice va j vc]) (by simp [results, Try.results24, go_sem, t0, t1, t2, t3]) rfl (by rw [HFB.out]; exact hfin)
        | some v =>
          have CM2 : Hid (∀ V, Calls Try.prog 57 #[.int .i64 xo, .int .i64 v0, .int .i64 v1] V fun e w' => e = .returned (.tuple #[.int .i64 v, .bool true]) ∧ Below V.heap.size V w') := CM
          have HFN2 : Hid (x.fo = if v = -9223372036854775808 then .mk xo xn xs ls else if v < 0 then .mk 20 0 ⟨#[]⟩ [.mk 1 (IntKind.i64.wrap (-v)) ⟨#[]⟩ []] else .mk 1 v ⟨#[]⟩ []) := Lib.hid HFN.out
          clear CM HFN
          by_cases hv : v = -9223372036854775808
          · have HFB : Hid (x.fo = .mk xo xn xs ls) := Lib.hid (by rw [HFN2.out, if_pos hv])
            subst hv
            go_region_held3 (fun w' => w'.cell? ⟨z, 0, none⟩ = some (.int .i64 xo) ∧ w'.cell? ⟨z + 3, 0, none⟩ = some (.int .i64 v0) ∧ w'.cell? ⟨z + 3, 1, none⟩ = some (.int .i64 v1))
              (first | exact HSM.out _ HB9.out | (go_keep; done))
              ((go_at_call 57; (with_reducible refine (CM2.out _).mono ?_); rintro e w9 ⟨rfl, hb⟩; have HB9 := Lib.hid (HBD.out.trans hb); have HE9 := Lib.hid (HE.out.next HB9.out); clear hb))
            obtain ⟨d0, d1, d2, d3⟩ := quad HE9.out.ey
            have p0 : w9.frozen? ⟨z + 1, 0, none⟩ = false := free_blk HE9.out.ey 0
            have p1 : w9.frozen? ⟨z + 1, 1, none⟩ = false := free_blk HE9.out.ey 1
            have p2 : w9.frozen? ⟨z + 1, 2, none⟩ = false := free_blk HE9.out.ey 2
            have p3 : w9.frozen? ⟨z + 1, 3, none⟩ = false := free_blk HE9.out.ey 3
            obtain ⟨i0, i1, i2, i3⟩ := quad HE9.out.eo
            go_wp2_with fail
            have HS10 := Lib.hid (four_set w9 (z + 1) (.int .i64 xo) (.int .i64 xn) (.string xs) (.slice va j vc) _ _ ⟨_, _, _, _, rfl⟩ HE9.out.ey)
            have hfin := HBASE.out w9 HB9.out (.int .i64 xo) (.int .i64 xn) (.string xs) (.slice va j vc)
            clear d0 d1 d2 d3 p0 p1 p2 p3
            obtain ⟨W10, hW10⟩ : ∃ Y, ((((w9).setCell ⟨z + 1, 0, none⟩ (.int .i64 xo)).setCell ⟨z + 1, 1, none⟩ (.int .i64 xn)).setCell ⟨z + 1, 2, none⟩ (.string xs)).setCell ⟨z + 1, 3, none⟩ (.slice va j vc) = Y := ⟨_, rfl⟩
            rw [hW10] at hfin ⊢
            obtain ⟨_, _, _, x10⟩ := HS10.out W10 hW10
            obtain ⟨t0, t1, t2, t3⟩ := quad x10
            exact bodyPost_ret (v := .agg #[.int .i64 xo, .int .i64 xn, .string xs, .slice va j vc]) (by simp [results, Try.results24, go_sem, t0, t1, t2, t3]) rfl (by rw [HFB.out]; exact hfin)
          · have fv : (v == -9223372036854775808) = false := by simp [hv]
            by_cases hn : v < 0
            · obtain ⟨ng, hng⟩ : ∃ g, g = IntKind.i64.wrap (-v) := ⟨_, rfl⟩
              have HFB : Hid (x.fo = .mk 20 0 ⟨#[]⟩ [.mk 1 ng ⟨#[]⟩ []]) := Lib.hid (by rw [HFN2.out, if_neg hv, if_pos hn, hng])
              have y9 : IntKind.i64.wrap (-v) = ng := hng.symm
              clear HFN2 hng hv
              go_region_held3 (fun w' => w'.cell? ⟨z, 0, none⟩ = some (.int .i64 xo) ∧ w'.cell? ⟨z + 3, 0, none⟩ = some (.int .i64 v0) ∧ w'.cell? ⟨z + 3, 1, none⟩ = some (.int .i64 v1))
                (first | exact HSM.out _ HB9.out | (go_keep; done))
                ((go_at_call 57; (with_reducible refine (CM2.out _).mono ?_); rintro e w9 ⟨rfl, hb⟩; have HB9 := Lib.hid (HBD.out.trans hb); have HE9 := Lib.hid (HE.out.next HB9.out); clear hb))
              go_upto_region 17 with fail
              have HBA := Lib.hid ((Below.refl w9.heap.size w9).alloc (Nat.le_refl _) (.cells #[.int .i64 1, .int .i64 ng, .string ⟨#[]⟩, .slice none 0 0] 34))
              have HNA := Lib.hid (heap_alloc_new w9 (.cells #[.int .i64 1, .int .i64 ng, .string ⟨#[]⟩, .slice none 0 0] 34))
              have HZL : Hid (z + 1 < w9.heap.size) := Lib.hid (lt_of_heap HE9.out.ey)
              have HYA := Lib.hid ((HBA.out.block (z + 1) HZL.out).trans HE9.out.ey)
              obtain ⟨d0, d1, d2, d3⟩ := quad HYA.out
              have p0 : (w9.alloc (.cells #[.int .i64 1, .int .i64 ng, .string ⟨#[]⟩, .slice none 0 0] 34)).frozen? ⟨z + 1, 0, none⟩ = false := free_blk HYA.out 0
              have p1 : (w9.alloc (.cells #[.int .i64 1, .int .i64 ng, .string ⟨#[]⟩, .slice none 0 0] 34)).frozen? ⟨z + 1, 1, none⟩ = false := free_blk HYA.out 1
              have p2 : (w9.alloc (.cells #[.int .i64 1, .int .i64 ng, .string ⟨#[]⟩, .slice none 0 0] 34)).frozen? ⟨z + 1, 2, none⟩ = false := free_blk HYA.out 2
              have p3 : (w9.alloc (.cells #[.int .i64 1, .int .i64 ng, .string ⟨#[]⟩, .slice none 0 0] 34)).frozen? ⟨z + 1, 3, none⟩ = false := free_blk HYA.out 3
              go_wp2_with fail
              have HS10 := Lib.hid (four_set (w9.alloc (.cells #[.int .i64 1, .int .i64 ng, .string ⟨#[]⟩, .slice none 0 0] 34)) (z + 1) (.int .i64 20) (.int .i64 0) (.string ⟨#[]⟩) (.slice (some ⟨w9.heap.size, 0, none⟩) 1 1) _ _ ⟨_, _, _, _, rfl⟩ HYA.out)
              have hfin := fo_fin (S := S) (R := fun b => b = w9.heap.size) (t := .mk 20 0 ⟨#[]⟩ [.mk 1 ng ⟨#[]⟩ []]) (bo := some ⟨w9.heap.size, 0, none⟩) (k := 1) (y := z + 1) (below_mono HE9.out.bel HBA.out (Nat.le_refl _)) (by have := HZ.out; omega) (fun b hb => ⟨by have := HZL.out; omega, .inr ⟨by have := HZL.out; have := HZ.out; omega, by rw [hb]; simp⟩⟩) (Nat.le_refl 1) (one_list rfl HNA.out (Nat.le_refl 0) (fun h => absurd rfl h)) (.int .i64 20) (.int .i64 0) (.string ⟨#[]⟩) (.slice (some ⟨w9.heap.size, 0, none⟩) 1 1)
              clear d0 d1 d2 d3 p0 p1 p2 p3
              obtain ⟨W10, hW10⟩ : ∃ Y, (((((w9.alloc (.cells #[.int .i64 1, .int .i64 ng, .string ⟨#[]⟩, .slice none 0 0] 34))).setCell ⟨z + 1, 0, none⟩ (.int .i64 20)).setCell ⟨z + 1, 1, none⟩ (.int .i64 0)).setCell ⟨z + 1, 2, none⟩ (.string ⟨#[]⟩)).setCell ⟨z + 1, 3, none⟩ (.slice (some ⟨w9.heap.size, 0, none⟩) 1 1) = Y := ⟨_, rfl⟩
              rw [hW10] at hfin ⊢
              obtain ⟨_, _, _, x10⟩ := HS10.out W10 hW10
              obtain ⟨t0, t1, t2, t3⟩ := quad x10
              exact bodyPost_ret (v := .agg #[.int .i64 20, .int .i64 0, .string ⟨#[]⟩, .slice (some ⟨w9.heap.size, 0, none⟩) 1 1]) (by simp [results, Try.results24, go_sem, t0, t1, t2, t3]) rfl (by rw [HFB.out]; exact hfin)
            · have HFB : Hid (x.fo = .mk 1 v ⟨#[]⟩ []) := Lib.hid (by rw [HFN2.out, if_neg hv, if_neg hn])
              clear HFN2 hv
              go_region_held3 (fun w' => w'.cell? ⟨z, 0, none⟩ = some (.int .i64 xo) ∧ w'.cell? ⟨z + 3, 0, none⟩ = some (.int .i64 v0) ∧ w'.cell? ⟨z + 3, 1, none⟩ = some (.int .i64 v1))
                (first | exact HSM.out _ HB9.out | (go_keep; done))
                ((go_at_call 57; (with_reducible refine (CM2.out _).mono ?_); rintro e w9 ⟨rfl, hb⟩; have HB9 := Lib.hid (HBD.out.trans hb); have HE9 := Lib.hid (HE.out.next HB9.out); clear hb))
              go_upto_region 18 with fail
              obtain ⟨d0, d1, d2, d3⟩ := quad HE9.out.ey
              have p0 : w9.frozen? ⟨z + 1, 0, none⟩ = false := free_blk HE9.out.ey 0
              have p1 : w9.frozen? ⟨z + 1, 1, none⟩ = false := free_blk HE9.out.ey 1
              have p2 : w9.frozen? ⟨z + 1, 2, none⟩ = false := free_blk HE9.out.ey 2
              have p3 : w9.frozen? ⟨z + 1, 3, none⟩ = false := free_blk HE9.out.ey 3
              go_wp2_with fail
              have HS10 := Lib.hid (four_set w9 (z + 1) (.int .i64 1) (.int .i64 v) (.string ⟨#[]⟩) (.slice none 0 0) _ _ ⟨_, _, _, _, rfl⟩ HE9.out.ey)
              have hfin := fo_fin (S := S) (R := fun _ => False) (t := .mk 1 v ⟨#[]⟩ []) (bo := none) (k := 0) (y := z + 1) HE9.out.bel (by have := HZ.out; omega) (fun b hb => hb.elim) (Nat.le_refl 0) (fun h => absurd rfl h) (.int .i64 1) (.int .i64 v) (.string ⟨#[]⟩) (.slice none 0 0)
              clear d0 d1 d2 d3 p0 p1 p2 p3
              obtain ⟨W10, hW10⟩ : ∃ Y, ((((w9).setCell ⟨z + 1, 0, none⟩ (.int .i64 1)).setCell ⟨z + 1, 1, none⟩ (.int .i64 v)).setCell ⟨z + 1, 2, none⟩ (.string ⟨#[]⟩)).setCell ⟨z + 1, 3, none⟩ (.slice none 0 0) = Y := ⟨_, rfl⟩
              rw [hW10] at hfin ⊢
              obtain ⟨_, _, _, x10⟩ := HS10.out W10 hW10
              obtain ⟨t0, t1, t2, t3⟩ := quad x10
              exact bodyPost_ret (v := .agg #[.int .i64 1, .int .i64 v, .string ⟨#[]⟩, .slice none 0 0]) (by simp [results, Try.results24, go_sem, t0, t1, t2, t3]) rfl (by rw [HFB.out]; exact hfin)
end Go.Proofs.Ytidldlhhmophjaa
