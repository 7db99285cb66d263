/- The law CheckWithin, walked. Conditions: those written at each theorem. -/
import Derived.Test.YtidldlhhmophjaaFtC
import Derived.Test.YtidldlhhmophjaaFtL
namespace Go.Proofs.Ytidldlhhmophjaa
open Go.RowKit Go.PlainAid Go.Sort
set_option linter.unusedVariables false
set_option linter.unusedSimpArgs false
theorem flts_none {l : List Tr} : ∀ {i : Int}, Tr.flt.flts i l = none → ∀ y ∈ l, y.flt = none := by
  induction l with
  | nil => intro i _ y hy; cases hy
  | cons a t ih =>
    intro i h y hy
    unfold Tr.flt.flts at h
    cases ha : a.flt with
    | some p => rw [ha] at h; cases h
    | none =>
      rw [ha] at h
      rcases List.mem_cons.1 hy with rfl | hy
      · exact ha
      · exact ih h y hy
theorem trgt_kid {x y : Tr} (h : x.rgt = true) (hy : y ∈ x.terms) : y.rgt = true := by
  obtain ⟨h1, h2, h3⟩ := trgt_parts h
  obtain ⟨i, hi⟩ := List.getElem?_of_mem hy
  have hc := tcnts_in hi
  have hce := x.cnt_eq
  have hde := x.dep_eq
  rw [x.blt_eq, tblts_all] at h3
  simp only [Bool.and_eq_true, List.all_eq_true] at h3
  unfold Tr.rgt
  simp only [Bool.and_eq_true, decide_eq_true_eq]
  exact ⟨⟨by omega, by omega⟩, h3.2 y hy⟩
theorem fts_zero {x : Tr} (h : x.fts = 0) : x.rgt = true ∧ x.flt = none := by
  unfold Tr.fts at h
  by_cases hr : x.rgt = true
  · rw [if_pos hr] at h
    cases hf : x.flt with
    | none => exact ⟨hr, rfl⟩
    | some p => rw [hf] at h; cases h
  · rw [if_neg hr] at h; cases h
theorem fts_kid {x y : Tr} (h : x.fts = 0) (hy : y ∈ x.terms) : y.fts = 0 := by
  obtain ⟨h1, h2⟩ := fts_zero h
  have h3 : y.flt = none := by
    rw [x.flt_eq] at h2
    split at h2
    · cases h2
    · exact flts_none h2 y hy
  unfold Tr.fts
  rw [if_pos (trgt_kid h1 hy), h3]
def tGive (x : Tr) : Tr := .mk 3 ⟨#[]⟩ [] [x]
def tZero : Tr := .mk 1 ⟨#[]⟩ [] []
def tOr (x : Tr) : Tr := .mk 5 ⟨#[]⟩ [] [x, tZero]
theorem flt_give (x : Tr) : (tGive x).flt = x.flt.map fun p => 0 :: p := by
  rw [Tr.flt_eq]
  show (match x.flt with | some l => some ((0 : Int) :: l) | none => none) = _
  cases x.flt <;> rfl
theorem flt_or (x : Tr) : (tOr x).flt = x.flt.map fun p => 0 :: p := by
  rw [Tr.flt_eq]
  show (match x.flt with | some l => some ((0 : Int) :: l) | none => none) = _
  cases x.flt <;> rfl
theorem fts_give {x : Tr} (h : x.rgt = true) (hg : (tGive x).rgt = true) : (tGive x).fts = x.fts := by
  unfold Tr.fts
  rw [if_pos h, if_pos hg, flt_give]
  cases x.flt <;> rfl
theorem fts_or {x : Tr} (h : x.rgt = true) (hg : (tOr x).rgt = true) : (tOr x).fts = x.fts := by
  unfold Tr.fts
  rw [if_pos h, if_pos hg, flt_or]
  cases x.flt <;> rfl
theorem fit_zero : tZero.fit := by simp [tZero, Tr.fit, Tr.fit.fits, maxLen, ByteArray.size]
theorem fit_give {x : Tr} (h : x.fit) : (tGive x).fit := by simpa [tGive, Tr.fit, Tr.fit.fits, maxLen, ByteArray.size] using h
theorem fit_or {x : Tr} (h : x.fit) : (tOr x).fit := by
  have hz := fit_zero
  simp [tOr, Tr.fit, Tr.fit.fits, maxLen, ByteArray.size, h, hz]
theorem cnt_give (x : Tr) : (tGive x).cnt = 1 + x.cnt := by rw [Tr.cnt_eq]; simp [tGive, Tr.exprs, Tr.terms, Xp.cnt.cnts, Tr.cnt.cnts]
theorem cnt_or (x : Tr) : (tOr x).cnt = 2 + x.cnt := by rw [Tr.cnt_eq]; simp [tOr, tZero, Tr.exprs, Tr.terms, Xp.cnt.cnts, Tr.cnt.cnts, Tr.cnt]; omega
theorem fits_kid {x y : Tr} (h : x.fit) (hy : y ∈ x.terms) : y.fit := by
  have := (Tr.fit_eq x).1 h
  have h3 := this.2.2
  revert h3
  generalize x.terms = l at hy
  intro h3
  induction l with
  | nil => cases hy
  | cons a t ih =>
    unfold Tr.fit.fits at h3
    rcases List.mem_cons.1 hy with rfl | hy
    · exact h3.1
    · exact ih hy h3.2
theorem one_termsX {S : Nat → Prop} {w : World} {g : Nat} {x : Tr} {eo tb : Option Addr} {ek tk : Nat} (hg : S g) (h : w.heap[g]? = some (.cells #[.int .i64 x.op, .string x.nm, .slice eo x.exprs.length ek, .slice tb x.terms.length tk] 42 (0, 0))) (hx : TrOk S w x eo ek tb tk) : TrL S w [x] (some ⟨g, 0, none⟩) := by
  refine fun _ => ⟨_, rfl, hg, TrR.mk fun i u hu => ?_⟩
  rw [row_zero]
  match i, hu with
  | 0, hu => simp at hu; subst hu; exact ⟨eo, ek, tb, tk, hx.ec, hx.tc, ⟨cell_blk h 0, cell_blk h 1, cell_blk h 2, cell_blk h 3⟩, hx.ex, hx.te⟩
theorem two_termsZ {S : Nat → Prop} {w : World} {g : Nat} {x : Tr} {eo tb : Option Addr} {ek tk : Nat} (hg : S g) (h : w.heap[g]? = some (.cells #[.int .i64 x.op, .string x.nm, .slice eo x.exprs.length ek, .slice tb x.terms.length tk, .int .i64 1, .string ⟨#[]⟩, .slice none 0 0, .slice none 0 0] 42 (0, 0))) (hx : TrOk S w x eo ek tb tk) : TrL S w [x, tZero] (some ⟨g, 0, none⟩) := by
  refine fun _ => ⟨_, rfl, hg, TrR.mk fun i u hu => ?_⟩
  rw [row_zero]
  match i, hu with
  | 0, hu => simp at hu; subst hu; exact ⟨eo, ek, tb, tk, hx.ec, hx.tc, ⟨cell_blk h 0, cell_blk h 1, cell_blk h 2, cell_blk h 3⟩, hx.ex, hx.te⟩
  | 1, hu => simp at hu; subst hu; exact ⟨none, 0, none, 0, Nat.le_refl _, Nat.le_refl _, ⟨cell_blk h 4, cell_blk h 5, cell_blk h 6, cell_blk h 7⟩, none_list _ _ _, none_terms _ _ _⟩
theorem list_boxT (cs : Array Value) (v0 v1 v2 v3 : Value) (T : TypeId) (w : World) : ∀ W, (w.alloc (.cells cs T)).alloc (.cells #[v0, v1, v2, v3] T) = W → Below w.heap.size w W ∧ W.heap[w.heap.size]? = some (.cells cs T (0, 0)) ∧ W.heap[w.heap.size + 1]? = some (.cells #[v0, v1, v2, v3] T (0, 0)) ∧ W.heap.size = w.heap.size + 2 := by
  rintro W rfl
  have k1 := (Below.refl w.heap.size w).alloc (Nat.le_refl _) (.cells cs T)
  have s1 : (w.alloc (.cells cs T)).heap.size = w.heap.size + 1 := by simp
  have k2 := (Below.refl (w.alloc (.cells cs T)).heap.size (w.alloc (.cells cs T))).alloc (Nat.le_refl _) (.cells #[v0, v1, v2, v3] T)
  refine ⟨below_mono k1 k2 (Nat.le_refl _), (k2.block _ (by omega)).trans (heap_alloc_new w _), ?_, by simp [s1]⟩
  rw [← s1]
  exact heap_alloc_new _ _
set_option maxRecDepth 100000 in
set_option maxHeartbeats 16000000 in
theorem checkWithin_walk {ls : List Lf} {ks : List Kn} {ao co : Option Addr} {cap kap : Nat} (w : World) (hl : LfAt w.heap.size ao ls w) (hk : KnAt w.heap.size co ks w) (hfl : ∀ f ∈ ls, f.nm.size ≤ maxLen) (hfk : ∀ f ∈ ks, f.nm.size ≤ maxLen) :
    Calls Try.prog 7 #[.slice ao ls.length cap, .slice co ks.length kap] w fun e w' => e = .returned (.bool true) ∧ Below w.heap.size w w' := by
  have CA : Hid (∀ W, Calls Try.prog 14 #[] W fun e w' => e = .returned (.bool true) ∧ Below W.heap.size W w') := Lib.hid awake21_any
  by_cases hg : 60 < ls.length ∨ 60 < ks.length
  · have CG := Lib.hid (great21_yes ls.length ks.length ao co cap kap hg)
    obtain ⟨n, hn⟩ : ∃ n, n = ls.length := ⟨_, rfl⟩
    obtain ⟨m, hm⟩ : ∃ n, n = ks.length := ⟨_, rfl⟩
    rw [← hn, ← hm] at CG ⊢
    clear hg hn hm hl hk hfl hfk
    go_enter Try.func7, Try.ntmps7
    go_wp2_with (first | (go_at_call 13; (with_reducible refine (CG.out _).mono ?_); rintro e w1 ⟨rfl, rfl⟩) | (go_at_call 14; (with_reducible refine (CA.out _).mono ?_); rintro e W1 ⟨rfl, hB⟩; have HB := Lib.hid hB; clear hB))
    go_ret
    exact ⟨rfl, HB.out⟩
  · have CG := Lib.hid (great21_no ls.length ks.length ao co cap kap (by omega) (by omega))
    have CB := Lib.hid (rbuild_any (cap := cap) (kap := kap) w hl hk (by omega) (by omega))
    have hxl := bXs_len ls ls.length (Nat.le_refl _)
    have hxf := bXs_fit ls hfl ls.length (Nat.le_refl _)
    rw [List.take_length] at hxl hxf
    have htl := bTs_len (bXs ls) ks ks.length (Nat.le_refl _)
    have htf := bTs_fit (bXs ls) hxf ks hfk ks.length (Nat.le_refl _)
    rw [List.take_length] at htl htf
    obtain ⟨xs, hxs⟩ : ∃ xs, xs = bXs ls := ⟨_, rfl⟩
    rw [← hxs] at CB hxl hxf htl htf
    obtain ⟨ts, hts⟩ : ∃ ts, ts = bTs xs ks := ⟨_, rfl⟩
    rw [← hts] at CB htl htf
    obtain ⟨n, hn⟩ : ∃ n, n = ls.length := ⟨_, rfl⟩
    obtain ⟨m, hm⟩ : ∃ n, n = ks.length := ⟨_, rfl⟩
    rw [← hn, ← hm] at CG CB hg ⊢
    rw [← hn] at hxl
    rw [← hm] at htl
    obtain ⟨L, hL⟩ : ∃ L, L = xs.length := ⟨_, rfl⟩
    obtain ⟨L2, hL2⟩ : ∃ L, L = ts.length := ⟨_, rfl⟩
    have HLX := Lib.hid hL.symm
    have HLT := Lib.hid hL2.symm
    have HTF := Lib.hid htf
    have H60 : Hid (ts.length ≤ 60) := Lib.hid (by omega)
    clear hg hl hk hfl hfk hxl hxf htl htf hxs hts hn hm hL hL2
    go_enter Try.func7, Try.ntmps7
    go_wp2_with (go_at_call 13; (with_reducible refine (CG.out _).mono ?_); rintro e w ⟨rfl, rfl⟩)
    refine CB.out.mono ?_
    rintro e w1 ⟨R, a0, a1, a2, a3, a4, a5, c0, c1, c2, c3, c4, c5, he, hbt, hR, hcs, hb⟩
    obtain rfl : e = Ending.returned (.agg #[.slice a0 L c0, .slice a1 L c1, .slice a2 L c2, .slice a3 L2 c3, .slice a4 L2 c4, .slice a5 L2 c5]) := (by rw [he]; unfold treeV; rw [HLX.out, HLT.out])
    have CL : Hid (Calls Try.prog 27 #[.agg #[.slice a0 L c0, .slice a1 L c1, .slice a2 L c2, .slice a3 L2 c3, .slice a4 L2 c4, .slice a5 L2 c5]] w1 (LstP R ts w1)) := Lib.hid (by
      have := rlast_any (c0 := c0) (c1 := c1) (c2 := c2) (c3 := c3) (c4 := c4) (c5 := c5) w1 (fun b h => (hR b h).2) hbt H60.out HTF.out
      unfold treeV at this
      rw [HLX.out, HLT.out] at this
      exact this)
    have HR := Lib.hid fun b h => (hR b h).2
    have HB := Lib.hid hb
    clear he hbt hR hcs hb CB CG
    go_wp2_with fail
    refine CL.out.mono ?_
    rintro e w2 ⟨hm, hb2⟩
    have HB2 := Lib.hid hb2
    clear hb2 CL
    have HBW := Lib.hid (below_mono HB.out HB2.out (Nat.le_refl _))
    cases hla : lastT ts with
    | none =>
      rw [hla] at hm
      subst hm
      clear hla
      obtain ⟨⟨r0, r1, r2, r3⟩, p0, p1, p2, p3⟩ := new_zero w2 (.int .i64 0) (.string ⟨#[]⟩) (.slice none 0 0) (.slice none 0 0) 42
      go_upto_region 4 with fail
      clear r0 r1 r2 r3 p0 p1 p2 p3
      obtain ⟨W0, hW0⟩ : ∃ X, w2.alloc (.cells #[.int .i64 0, .string ⟨#[]⟩, .slice none 0 0, .slice none 0 0] 42) = X := ⟨_, rfl⟩
      obtain ⟨g0, _, _⟩ := cells_made _ _ _ W0 hW0
      rw [hW0]
      have HG0 := Lib.hid (below_mono HBW.out g0 (Nat.le_refl _))
      clear g0 hW0
      go_wp2_with (go_at_call 14; (with_reducible refine (CA.out _).mono ?_); rintro e W1 ⟨rfl, hB⟩; have HBA := Lib.hid hB; clear hB)
      go_ret
      exact ⟨rfl, below_mono HG0.out HBA.out (Nat.le_refl _)⟩
    | some x =>
      rw [hla] at hm
      obtain ⟨eo, ek, tb, tk, he, hok⟩ := hm
      obtain ⟨hget, hrg, _⟩ := lastT_some hla
      have hfx := HTF.out x (List.mem_of_getElem? hget)
      have hxr := trgt_parts hrg
      clear hla hget
      obtain ⟨m, hm⟩ : ∃ m, m = x.exprs.length := ⟨_, rfl⟩
      obtain ⟨m2, hm2⟩ : ∃ m, m = x.terms.length := ⟨_, rfl⟩
      obtain ⟨xo, hxo⟩ : ∃ v, v = x.op := ⟨_, rfl⟩
      obtain ⟨nm, hxs⟩ : ∃ v, v = x.nm := ⟨_, rfl⟩
      have hxe : trV x eo ek tb tk = .agg #[.int .i64 xo, .string nm, .slice eo m ek, .slice tb m2 tk] := by rw [hm, hm2, hxo, hxs]
      rw [hxe] at he
      subst he
      have hm26 : m2 < 1000 := by have := len_tcnts x.terms; have := x.cnt_eq; omega
      have HOK : Hid (∀ V, Below w2.heap.size w2 V → TrOk (fun b => b < V.heap.size) V x eo ek tb tk) := Lib.hid fun V hV => hok.stay (fun b hb => by have := HR.out b hb; have := HB2.out.size; have := hV.size; show b < _; omega) fun b hb => hV.block b (by have := HR.out b hb; have := HB2.out.size; omega)
      have CFx : Hid (∀ V, Below w2.heap.size w2 V → Calls Try.prog 19 #[.agg #[.int .i64 xo, .string nm, .slice eo m ek, .slice tb m2 tk]] V fun e w' => e = .returned (.int .i64 x.fts) ∧ Below V.heap.size V w') := Lib.hid fun V hV => by
        have := fitsOf_any x eo ek tb tk V (fun b hb => hb) (HOK.out V hV) hfx (by omega)
        rw [hxe] at this
        exact this
      have HXX : Hid (x.rgt = true ∧ x.fit ∧ x.cnt ≤ 200 ∧ m2 = x.terms.length ∧ xo = x.op ∧ nm = x.nm ∧ m = x.exprs.length) := Lib.hid ⟨hrg, hfx, hxr.1, hm2, hxo, hxs, hm⟩
      have HTL : Hid (∀ V, Below w2.heap.size w2 V → TrL (fun b => b < V.heap.size) V x.terms tb) := Lib.hid fun V hV => (HOK.out V hV).te
      clear hok hrg hfx hxr hm hm2 hxo hxs hxe
      obtain ⟨⟨r0, r1, r2, r3⟩, p0, p1, p2, p3⟩ := new_zero w2 (.int .i64 0) (.string ⟨#[]⟩) (.slice none 0 0) (.slice none 0 0) 42
      go_upto_region 6 with fail
      clear r0 r1 r2 r3 p0 p1 p2 p3
      obtain ⟨W0, hW0⟩ : ∃ X, w2.alloc (.cells #[.int .i64 xo, .string nm, .slice eo m ek, .slice tb m2 tk] 42) = X := ⟨_, rfl⟩
      obtain ⟨g0, b0, s0⟩ := cells_made _ _ _ W0 hW0
      obtain ⟨z5, hz5⟩ : ∃ y, y = w2.heap.size := ⟨_, rfl⟩
      rw [hW0, ← hz5]
      rw [← hz5] at b0
      have HG0 : Hid (Below w2.heap.size w2 W0) := Lib.hid g0
      have HX0 : Hid (∀ V, Below W0.heap.size W0 V → V.heap[z5]? = some (.cells #[.int .i64 xo, .string nm, .slice eo m ek, .slice tb m2 tk] 42 (0, 0))) := Lib.hid fun V hV => (hV.block z5 (lt_of_heap b0)).trans b0
      obtain ⟨y0, y1, y2, y3⟩ := quad b0
      clear g0 b0 s0 hW0 hz5
      obtain ⟨ft, hft⟩ : ∃ v, v = x.fts := ⟨_, rfl⟩
      rw [← hft] at CFx
      have HFT := Lib.hid hft
      clear hft
      go_upto_region 7 with (go_at_call 19; (with_reducible refine (CFx.out _ HG0.out).mono ?_); rintro e w3 ⟨rfl, hb⟩; have HB3 := Lib.hid hb; clear hb y0 y1 y2 y3)
      have HKID : Hid (∀ (i : Nat) (y : Tr), x.terms[i]? = some y → ft = 0 → ∀ V eo2 ek2 tb2 tk2, TrOk (fun b => b < V.heap.size) V y eo2 ek2 tb2 tk2 → Calls Try.prog 19 #[trV y eo2 ek2 tb2 tk2] V fun e w' => e = .returned (.int .i64 0) ∧ Below V.heap.size V w') := Lib.hid fun i y hy h0 V eo2 ek2 tb2 tk2 hok => by
        have hmem := List.mem_of_getElem? hy
        have hz : y.fts = 0 := fts_kid (by rw [← HFT.out]; exact h0) hmem
        have hc := (tcnts_in hy).1
        have hce := x.cnt_eq
        have := fitsOf_any y eo2 ek2 tb2 tk2 V (fun b hb => hb) hok (fits_kid HXX.out.2.1 hmem) (by have := HXX.out.2.2.1; omega)
        rw [hz] at this
        exact this
      go_upto_region 8 with fail
      go_loopw [8] (fun v wr => ∃ i : Nat, i ≤ m2 ∧ v = .int .i64 i ∧ Hid (Below W0.heap.size W0 wr)) (fun v _ => m2 - (intOf v).toNat)
      case atStart => exact ⟨0, by omega, rfl, HB3⟩
      case round =>
        obtain ⟨i, hi, rfl, HW⟩ := hrel
        obtain ⟨y0, y1, y2, y3⟩ := quad (HX0.out wr HW.out)
        by_cases hlt : i < m2
        · have i1 : (i : Int) < (m2 : Int) := by omega
          have i2 : (0 : Int) ≤ (i : Int) := by omega
          by_cases h0 : ft = 0
          · obtain ⟨y, hy⟩ : ∃ y, x.terms[i]? = some y := ⟨_, List.getElem?_eq_getElem (by rw [← HXX.out.2.2.2.1]; exact hlt)⟩
            obtain ⟨a, eo2, ek2, to2, tk2, rfl, hsa, hek, htk, ⟨q0, q1, q2, q3⟩, hye, hyt⟩ := (HTL.out wr (below_mono HG0.out HW.out (Nat.le_refl _))).get hy
            have CK : Hid (Calls Try.prog 19 #[trV y eo2 ek2 to2 tk2] wr fun e w' => e = .returned (.int .i64 0) ∧ Below wr.heap.size wr w') := Lib.hid (HKID.out i y hy h0 wr eo2 ek2 to2 tk2 ⟨hek, htk, hye, hyt⟩)
            obtain ⟨em, hem⟩ : ∃ c, c = y.exprs.length := ⟨_, rfl⟩
            obtain ⟨tm, htm⟩ : ∃ c, c = y.terms.length := ⟨_, rfl⟩
            obtain ⟨yo, hyo⟩ : ∃ v, v = y.op := ⟨_, rfl⟩
            obtain ⟨ys, hys⟩ : ∃ v, v = y.nm := ⟨_, rfl⟩
            rw [show trV y eo2 ek2 to2 tk2 = .agg #[.int .i64 yo, .string ys, .slice eo2 em ek2, .slice to2 tm tk2] from by rw [hem, htm, hyo, hys]] at CK
            rw [← hem] at q2
            rw [← htm] at q3
            rw [← hyo] at q0
            rw [← hys] at q1
            clear hem htm hyo hys hsa hek htk hye hyt hy
            have h00 : (ft == 0) = true := by simp [h0]
            clear h0
            go_wp2_with (go_at_call 19; (with_reducible refine CK.out.mono ?_); rintro e w4 ⟨rfl, hb⟩; have HB4 := Lib.hid hb; clear hb)
            go_roundw
            case rel => exact ⟨i + 1, by omega, by go_num, Lib.hid (below_mono HW.out HB4.out (Nat.le_refl _))⟩
            case measure => simp [intOf]; omega
          · have h00 : (ft == 0) = false := by simp [h0]
            clear h0
            go_wp2_with fail
            go_roundw
            case rel => exact ⟨i + 1, by omega, by go_num, HW⟩
            case measure => simp [intOf]; omega
        · obtain rfl : i = m2 := by omega
          go_upto_region 12 with fail
          have GA := Lib.hid (list_boxT #[.int .i64 xo, .string nm, .slice eo m ek, .slice tb i tk] (.int .i64 3) (.string ⟨#[]⟩) (.slice none 0 0) (.slice (some ⟨wr.heap.size, 0, none⟩) 1 1) 42 wr)
          obtain ⟨⟨r0, r1, r2, r3⟩, p0, p1, p2, p3⟩ := new_zero (wr.alloc (.cells #[.int .i64 xo, .string nm, .slice eo m ek, .slice tb i tk] 42)) (.int .i64 0) (.string ⟨#[]⟩) (.slice none 0 0) (.slice none 0 0) 42
          go_upto_region 13 with fail
          clear r0 r1 r2 r3 p0 p1 p2 p3 y0 y1 y2 y3
          obtain ⟨W6, hW6⟩ : ∃ X, (wr.alloc (.cells #[.int .i64 xo, .string nm, .slice eo m ek, .slice tb i tk] 42)).alloc (.cells #[.int .i64 3, .string ⟨#[]⟩, .slice none 0 0, .slice (some ⟨wr.heap.size, 0, none⟩) 1 1] 42) = X := ⟨_, rfl⟩
          obtain ⟨g6, b6, b6', s6⟩ := GA.out W6 hW6
          obtain ⟨gA, hgA⟩ : ∃ y, y = wr.heap.size := ⟨_, rfl⟩
          have hsz : (wr.alloc (.cells #[.int .i64 xo, .string nm, .slice eo m ek, .slice tb i tk] 42)).heap.size = gA + 1 := by rw [hgA]; simp
          rw [hW6, ← hgA]
          try rw [hsz]
          rw [← hgA] at b6 b6'
          have HG6 : Hid (Below W0.heap.size W0 W6) := Lib.hid (below_mono HW.out g6 (Nat.le_refl _))
          have HB6 := Lib.hid (And.intro b6 b6')
          obtain ⟨y0, y1, y2, y3⟩ := quad (HX0.out W6 HG6.out)
          clear g6 b6 b6' s6 hW6 hgA hsz GA
          have GB := Lib.hid (list_boxT #[.int .i64 xo, .string nm, .slice eo m ek, .slice tb i tk, .int .i64 1, .string ⟨#[]⟩, .slice none 0 0, .slice none 0 0] (.int .i64 5) (.string ⟨#[]⟩) (.slice none 0 0) (.slice (some ⟨W6.heap.size, 0, none⟩) 2 2) 42 W6)
          obtain ⟨⟨r0, r1, r2, r3⟩, p0, p1, p2, p3⟩ := new_zero (W6.alloc (.cells #[.int .i64 xo, .string nm, .slice eo m ek, .slice tb i tk, .int .i64 1, .string ⟨#[]⟩, .slice none 0 0, .slice none 0 0] 42)) (.int .i64 0) (.string ⟨#[]⟩) (.slice none 0 0) (.slice none 0 0) 42
          go_upto_region 14 with fail
          clear r0 r1 r2 r3 p0 p1 p2 p3 y0 y1 y2 y3
          obtain ⟨W7, hW7⟩ : ∃ X, (W6.alloc (.cells #[.int .i64 xo, .string nm, .slice eo m ek, .slice tb i tk, .int .i64 1, .string ⟨#[]⟩, .slice none 0 0, .slice none 0 0] 42)).alloc (.cells #[.int .i64 5, .string ⟨#[]⟩, .slice none 0 0, .slice (some ⟨W6.heap.size, 0, none⟩) 2 2] 42) = X := ⟨_, rfl⟩
          obtain ⟨g7, b7, b7', s7⟩ := GB.out W7 hW7
          obtain ⟨gB, hgB⟩ : ∃ y, y = W6.heap.size := ⟨_, rfl⟩
          have hsz : (W6.alloc (.cells #[.int .i64 xo, .string nm, .slice eo m ek, .slice tb i tk, .int .i64 1, .string ⟨#[]⟩, .slice none 0 0, .slice none 0 0] 42)).heap.size = gB + 1 := by rw [hgB]; simp
          rw [hW7, ← hgB]
          try rw [hsz]
          rw [← hgB] at b7 b7'
          have HG7 : Hid (Below W0.heap.size W0 W7) := Lib.hid (below_mono HG6.out g7 (Nat.le_refl _))
          have HROWS : Hid (∀ V, Hid (Below W7.heap.size W7 V) → (V.heap[gA]? = some (.cells #[.int .i64 xo, .string nm, .slice eo m ek, .slice tb i tk] 42 (0, 0)) ∧ V.heap[gA + 1]? = some (.cells #[.int .i64 3, .string ⟨#[]⟩, .slice none 0 0, .slice (some ⟨gA, 0, none⟩) 1 1] 42 (0, 0))) ∧ (V.heap[gB]? = some (.cells #[.int .i64 xo, .string nm, .slice eo m ek, .slice tb i tk, .int .i64 1, .string ⟨#[]⟩, .slice none 0 0, .slice none 0 0] 42 (0, 0)) ∧ V.heap[gB + 1]? = some (.cells #[.int .i64 5, .string ⟨#[]⟩, .slice none 0 0, .slice (some ⟨gB, 0, none⟩) 2 2] 42 (0, 0)))) := Lib.hid fun V hV => ⟨⟨((below_mono g7 hV.out (Nat.le_refl _)).block gA (lt_of_heap HB6.out.1)).trans HB6.out.1, ((below_mono g7 hV.out (Nat.le_refl _)).block (gA + 1) (lt_of_heap HB6.out.2)).trans HB6.out.2⟩, (hV.out.block gB (lt_of_heap b7)).trans b7, (hV.out.block (gB + 1) (lt_of_heap b7')).trans b7'⟩
          clear g7 b7 b7' s7 hW7 hgB hsz GB
          have HV2 : Hid (∀ V, Hid (Below W7.heap.size W7 V) → Below w2.heap.size w2 V) := Lib.hid fun V hV => below_mono (below_mono HG0.out HG7.out (Nat.le_refl _)) hV.out (Nat.le_refl _)
          have HOG : Hid (∀ V, Hid (Below W7.heap.size W7 V) → TrOk (fun b => b < V.heap.size) V (tGive x) none 0 (some ⟨gA, 0, none⟩) 1) := Lib.hid fun V hV => by
            have h1 := (HROWS.out V hV).1.1
            rw [HXX.out.2.2.2.2.1, HXX.out.2.2.2.2.2.1, HXX.out.2.2.2.2.2.2, HXX.out.2.2.2.1] at h1
            exact ⟨Nat.le_refl _, Nat.le_refl _, none_list _ _ _, one_termsX (lt_of_heap h1) h1 (HOK.out V (HV2.out V hV))⟩
          have HOO : Hid (∀ V, Hid (Below W7.heap.size W7 V) → TrOk (fun b => b < V.heap.size) V (tOr x) none 0 (some ⟨gB, 0, none⟩) 2) := Lib.hid fun V hV => by
            have h1 := (HROWS.out V hV).2.1
            rw [HXX.out.2.2.2.2.1, HXX.out.2.2.2.2.2.1, HXX.out.2.2.2.2.2.2, HXX.out.2.2.2.1] at h1
            exact ⟨Nat.le_refl _, Nat.le_refl _, none_list _ _ _, two_termsZ (lt_of_heap h1) h1 (HOK.out V (HV2.out V hV))⟩
          obtain ⟨gr, hgr⟩ : ∃ v, v = (tGive x).rgt := ⟨_, rfl⟩
          obtain ⟨orr, horr⟩ : ∃ v, v = (tOr x).rgt := ⟨_, rfl⟩
          have CRG : Hid (∀ V, Hid (Below W7.heap.size W7 V) → Calls Try.prog 33 #[.agg #[.int .i64 3, .string ⟨#[]⟩, .slice none 0 0, .slice (some ⟨gA, 0, none⟩) 1 1]] V fun e w' => e = .returned (.bool gr) ∧ Hid (Below W7.heap.size W7 w')) := Lib.hid fun V hV => (right_any (tGive x) none 0 (some ⟨gA, 0, none⟩) 1 V (fun b hb => hb) (HOG.out V hV) (fit_give HXX.out.2.1) (by rw [cnt_give]; have := HXX.out.2.2.1; omega)).mono fun e w' ⟨h1, h2⟩ => ⟨by rw [hgr]; exact h1, Lib.hid (below_mono hV.out h2 (Nat.le_refl _))⟩
          have CRO : Hid (∀ V, Hid (Below W7.heap.size W7 V) → Calls Try.prog 33 #[.agg #[.int .i64 5, .string ⟨#[]⟩, .slice none 0 0, .slice (some ⟨gB, 0, none⟩) 2 2]] V fun e w' => e = .returned (.bool orr) ∧ Hid (Below W7.heap.size W7 w')) := Lib.hid fun V hV => (right_any (tOr x) none 0 (some ⟨gB, 0, none⟩) 2 V (fun b hb => hb) (HOO.out V hV) (fit_or HXX.out.2.1) (by rw [cnt_or]; have := HXX.out.2.2.1; omega)).mono fun e w' ⟨h1, h2⟩ => ⟨by rw [horr]; exact h1, Lib.hid (below_mono hV.out h2 (Nat.le_refl _))⟩
          have CFG : Hid (gr = true → ∀ V, Hid (Below W7.heap.size W7 V) → Calls Try.prog 19 #[.agg #[.int .i64 3, .string ⟨#[]⟩, .slice none 0 0, .slice (some ⟨gA, 0, none⟩) 1 1]] V fun e w' => e = .returned (.int .i64 ft) ∧ Hid (Below W7.heap.size W7 w')) := Lib.hid fun hr V hV => (fitsOf_any (tGive x) none 0 (some ⟨gA, 0, none⟩) 1 V (fun b hb => hb) (HOG.out V hV) (fit_give HXX.out.2.1) (by rw [cnt_give]; have := HXX.out.2.2.1; omega)).mono fun e w' ⟨h1, h2⟩ => ⟨by rw [HFT.out, ← fts_give HXX.out.1 (by rw [← hgr]; exact hr)]; exact h1, Lib.hid (below_mono hV.out h2 (Nat.le_refl _))⟩
          have CFO : Hid (orr = true → ∀ V, Hid (Below W7.heap.size W7 V) → Calls Try.prog 19 #[.agg #[.int .i64 5, .string ⟨#[]⟩, .slice none 0 0, .slice (some ⟨gB, 0, none⟩) 2 2]] V fun e w' => e = .returned (.int .i64 ft) ∧ Hid (Below W7.heap.size W7 w')) := Lib.hid fun hr V hV => (fitsOf_any (tOr x) none 0 (some ⟨gB, 0, none⟩) 2 V (fun b hb => hb) (HOO.out V hV) (fit_or HXX.out.2.1) (by rw [cnt_or]; have := HXX.out.2.2.1; omega)).mono fun e w' ⟨h1, h2⟩ => ⟨by rw [HFT.out, ← fts_or HXX.out.1 (by rw [← horr]; exact hr)]; exact h1, Lib.hid (below_mono hV.out h2 (Nat.le_refl _))⟩
          have HW7 : Hid (Below W7.heap.size W7 W7) := Lib.hid (Below.refl _ _)
          have HWB : Hid (Below w.heap.size w W7) := Lib.hid (below_mono HBW.out (HV2.out W7 HW7) (Nat.le_refl _))
          obtain ⟨d0, d1, d2, d3⟩ := quad (HROWS.out W7 HW7).1.2
          obtain ⟨u0, u1, u2, u3⟩ := quad (HROWS.out W7 HW7).2.2
          have hff : (ft == ft) = true := by simp
          clear hgr horr
          cases gr with
          | false =>
            cases orr with
            | false =>
              go_wp2_with (first | (go_at_call 33; (with_reducible refine (CRG.out _ (by assumption)).mono ?_); rintro e w8 ⟨rfl, HB8⟩; clear d0 d1 d2 d3 u0 u1 u2 u3; obtain ⟨d0, d1, d2, d3⟩ := quad (HROWS.out w8 HB8).1.2; obtain ⟨u0, u1, u2, u3⟩ := quad (HROWS.out w8 HB8).2.2) | (go_at_call 33; (with_reducible refine (CRO.out _ (by assumption)).mono ?_); rintro e w8 ⟨rfl, HB8⟩; clear d0 d1 d2 d3 u0 u1 u2 u3; obtain ⟨d0, d1, d2, d3⟩ := quad (HROWS.out w8 HB8).1.2; obtain ⟨u0, u1, u2, u3⟩ := quad (HROWS.out w8 HB8).2.2) | (go_at_call 14; (with_reducible refine (CA.out _).mono ?_); rintro e w9 ⟨rfl, hB⟩; have HBF : Hid (Below w.heap.size w w9) := Lib.hid (below_mono (below_mono HWB.out (Hid.out (by assumption : Hid (Below W7.heap.size W7 _))) (Nat.le_refl _)) hB (Nat.le_refl _)); clear hB))
              go_ret
              exact ⟨rfl, HBF.out⟩
            | true =>
              have CFO2 := Lib.hid (CFO.out rfl)
              clear CFO
              go_wp2_with (first | (go_at_call 33; (with_reducible refine (CRG.out _ (by assumption)).mono ?_); rintro e w8 ⟨rfl, HB8⟩; clear d0 d1 d2 d3 u0 u1 u2 u3; obtain ⟨d0, d1, d2, d3⟩ := quad (HROWS.out w8 HB8).1.2; obtain ⟨u0, u1, u2, u3⟩ := quad (HROWS.out w8 HB8).2.2) | (go_at_call 33; (with_reducible refine (CRO.out _ (by assumption)).mono ?_); rintro e w8 ⟨rfl, HB8⟩; clear d0 d1 d2 d3 u0 u1 u2 u3; obtain ⟨d0, d1, d2, d3⟩ := quad (HROWS.out w8 HB8).1.2; obtain ⟨u0, u1, u2, u3⟩ := quad (HROWS.out w8 HB8).2.2) | (go_at_call 19; (with_reducible refine (CFO2.out _ (by assumption)).mono ?_); rintro e w8 ⟨rfl, HB8⟩; clear d0 d1 d2 d3 u0 u1 u2 u3; obtain ⟨d0, d1, d2, d3⟩ := quad (HROWS.out w8 HB8).1.2; obtain ⟨u0, u1, u2, u3⟩ := quad (HROWS.out w8 HB8).2.2) | (go_at_call 14; (with_reducible refine (CA.out _).mono ?_); rintro e w9 ⟨rfl, hB⟩; have HBF : Hid (Below w.heap.size w w9) := Lib.hid (below_mono (below_mono HWB.out (Hid.out (by assumption : Hid (Below W7.heap.size W7 _))) (Nat.le_refl _)) hB (Nat.le_refl _)); clear hB))
              go_ret
              exact ⟨rfl, HBF.out⟩
          | true =>
            have CFG2 := Lib.hid (CFG.out rfl)
            clear CFG
            cases orr with
            | false =>
              go_wp2_with (first | (go_at_call 33; (with_reducible refine (CRG.out _ (by assumption)).mono ?_); rintro e w8 ⟨rfl, HB8⟩; clear d0 d1 d2 d3 u0 u1 u2 u3; obtain ⟨d0, d1, d2, d3⟩ := quad (HROWS.out w8 HB8).1.2; obtain ⟨u0, u1, u2, u3⟩ := quad (HROWS.out w8 HB8).2.2) | (go_at_call 33; (with_reducible refine (CRO.out _ (by assumption)).mono ?_); rintro e w8 ⟨rfl, HB8⟩; clear d0 d1 d2 d3 u0 u1 u2 u3; obtain ⟨d0, d1, d2, d3⟩ := quad (HROWS.out w8 HB8).1.2; obtain ⟨u0, u1, u2, u3⟩ := quad (HROWS.out w8 HB8).2.2) | (go_at_call 19; (with_reducible refine (CFG2.out _ (by assumption)).mono ?_); rintro e w8 ⟨rfl, HB8⟩; clear d0 d1 d2 d3 u0 u1 u2 u3; obtain ⟨d0, d1, d2, d3⟩ := quad (HROWS.out w8 HB8).1.2; obtain ⟨u0, u1, u2, u3⟩ := quad (HROWS.out w8 HB8).2.2) | (go_at_call 14; (with_reducible refine (CA.out _).mono ?_); rintro e w9 ⟨rfl, hB⟩; have HBF : Hid (Below w.heap.size w w9) := Lib.hid (below_mono (below_mono HWB.out (Hid.out (by assumption : Hid (Below W7.heap.size W7 _))) (Nat.le_refl _)) hB (Nat.le_refl _)); clear hB))
              go_ret
              exact ⟨rfl, HBF.out⟩
            | true =>
              have CFO2 := Lib.hid (CFO.out rfl)
              clear CFO
              go_wp2_with (first | (go_at_call 33; (with_reducible refine (CRG.out _ (by assumption)).mono ?_); rintro e w8 ⟨rfl, HB8⟩; clear d0 d1 d2 d3 u0 u1 u2 u3; obtain ⟨d0, d1, d2, d3⟩ := quad (HROWS.out w8 HB8).1.2; obtain ⟨u0, u1, u2, u3⟩ := quad (HROWS.out w8 HB8).2.2) | (go_at_call 33; (with_reducible refine (CRO.out _ (by assumption)).mono ?_); rintro e w8 ⟨rfl, HB8⟩; clear d0 d1 d2 d3 u0 u1 u2 u3; obtain ⟨d0, d1, d2, d3⟩ := quad (HROWS.out w8 HB8).1.2; obtain ⟨u0, u1, u2, u3⟩ := quad (HROWS.out w8 HB8).2.2) | (go_at_call 19; (with_reducible refine (CFG2.out _ (by assumption)).mono ?_); rintro e w8 ⟨rfl, HB8⟩; clear d0 d1 d2 d3 u0 u1 u2 u3; obtain ⟨d0, d1, d2, d3⟩ := quad (HROWS.out w8 HB8).1.2; obtain ⟨u0, u1, u2, u3⟩ := quad (HROWS.out w8 HB8).2.2) | (go_at_call 19; (with_reducible refine (CFO2.out _ (by assumption)).mono ?_); rintro e w8 ⟨rfl, HB8⟩; clear d0 d1 d2 d3 u0 u1 u2 u3; obtain ⟨d0, d1, d2, d3⟩ := quad (HROWS.out w8 HB8).1.2; obtain ⟨u0, u1, u2, u3⟩ := quad (HROWS.out w8 HB8).2.2) | (go_at_call 14; (with_reducible refine (CA.out _).mono ?_); rintro e w9 ⟨rfl, hB⟩; have HBF : Hid (Below w.heap.size w w9) := Lib.hid (below_mono (below_mono HWB.out (Hid.out (by assumption : Hid (Below W7.heap.size W7 _))) (Nat.le_refl _)) hB (Nat.le_refl _)); clear hB))
              go_ret
              exact ⟨rfl, HBF.out⟩
end Go.Proofs.Ytidldlhhmophjaa
