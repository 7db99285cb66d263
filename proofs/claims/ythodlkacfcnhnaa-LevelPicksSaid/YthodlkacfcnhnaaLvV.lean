/- Layer 15: the law's takes. Conditions: those written at each theorem. -/
import Derived.Test.YthodlkacfcnhnaaLvU
import Derived.Laws.OwnMore
namespace Go.Proofs.Ythodlkacfcnhnaa
open Go.RowKit Go.Sort
set_option linter.unusedVariables false
set_option linter.unusedSimpArgs false
theorem row_some {w : World} {B T c : Nat} {va : Option Addr} {xs : List Value} (h : w.ownsRow B T 6 (.slice va 1 c) 1 xs) : ∃ g, va = some ⟨g, 0, none⟩ := by
  rcases h.2 with ⟨hv, h0⟩ | ⟨b, cp, cur, hv, _⟩
  · omega
  · injection hv with e1 _ _
    exact ⟨b, e1⟩
theorem row_put {w : World} {B T g cap : Nat} {e : Fl} (f : Fl) (h : w.ownsRow B T 6 (.slice (some ⟨g, 0, none⟩) 1 cap) 1 (fls [e])) :
    ((((((w.setCell ⟨g, 0, none⟩ (.int .i64 f.num)).setCell ⟨g, 1, none⟩ (.int .i64 f.lvl)).setCell ⟨g, 2, none⟩ (.string f.fst)).setCell ⟨g, 3, none⟩ (.string f.lst)).setCell ⟨g, 4, none⟩ (.int .i64 f.cnt)).setCell ⟨g, 5, none⟩ (.int .i64 f.sz)).ownsRow B T 6 (.slice (some ⟨g, 0, none⟩) 1 cap) 1 (fls [f]) :=
  ((((((h.stored 0 _).1.stored 1 _).1.stored 2 _).1.stored 3 _).1.stored 4 _).1.stored 5 _).1
theorem mx1 {a b : ByteArray} (h : Op.bytesLess b.toList a.toList = true) : mxT a b = a := by rw [mxT_gt, if_pos (.inl h)]
theorem mx2 {a b : ByteArray} (h : (b.toList == a.toList) = true) : mxT a b = a := by rw [mxT_gt, if_pos (.inr (by simpa using h))]
theorem mx3 {a b : ByteArray} (h1 : Op.bytesLess b.toList a.toList = false) (h2 : (b.toList == a.toList) = false) : mxT a b = b := by
  rw [mxT_gt, if_neg]
  rintro (h | h)
  · rw [h1] at h; cases h
  · rw [h] at h2; simp at h2
theorem mn1 {a b : ByteArray} (h : Op.bytesLess b.toList a.toList = false) : mnT a b = a := by unfold mnT; rw [h]; rfl
theorem mn2 {a b : ByteArray} (h : Op.bytesLess b.toList a.toList = true) : mnT a b = b := by unfold mnT; rw [h]; rfl
theorem run_field3 (a b c : Int) (vb : Option Addr) (n vd : Nat) (W : World) : (Instr.field 34 (.agg #[.int .i64 a, .int .i64 b, .int .i64 c, .slice vb n vd]) 3).run Try.prog W = .ok (.slice vb n vd) W := by
  simp [go_sem, Instr.field, asAgg]
theorem row_drew {w : World} {B n z : Nat} {T : TypeId} {v : Value} {xs : List Value} (h : w.ownsRow B T z v n xs) : w.drew.ownsRow B T z v n xs := h
theorem takeT_nil {l : List Fl} {lv : Int} (h : fromW l lv = []) : takeT l lv = (0, [], [], false, false) := by
  unfold takeT
  rw [if_neg]
  rintro ⟨h1, h2⟩
  unfold fromW fromL at h
  rw [if_neg (by omega)] at h
  split at h
  · rw [h] at h2; exact h2 rfl
  · cases hl : l.filter (byLvl lv) with
    | nil => rw [hl] at h2; exact h2 rfl
    | cons x t => rw [hl] at h; simp [eldF] at h
theorem takeT_some {l : List Fl} {lv : Int} (h : fromW l lv ≠ []) : (0 ≤ lv ∧ lv ≤ 3) ∧ fromW l lv = fromL l lv ∧ takeT l lv = (lv, (fromW l lv).map Fl.num, (intoL l lv).map Fl.num, decide (0 < lv) && decide ((intoL l lv).length = 0), true) := by
  by_cases ho : lv < 0 ∨ 3 < lv
  · exact absurd (fromW_out ho) h
  · have hf : fromW l lv = fromL l lv := by unfold fromW; rw [if_neg ho]
    refine ⟨by omega, hf, ?_⟩
    unfold takeT
    rw [if_pos, hf]
    refine ⟨by omega, fun h0 => h ?_⟩
    rw [hf]
    unfold fromL
    rw [List.length_eq_zero_iff.1 h0]
    split <;> rfl
set_option maxRecDepth 100000 in
set_option maxHeartbeats 16000000 in
theorem takes_any {B : Nat} {lg nx sq : Int} {ao : Option Addr} {c : Nat} {l : List Fl} {w : World} (h : FlAt B ao l w) (hB : B ≤ w.heap.size) (hc : l.length ≤ c) (hl : l.length ≤ 30) (lv : Int)
    (tl : Int) (tf ti : List Int) (tm tok : Bool) (ht : (tl, tf, ti, tm, tok) = takeT l lv) {C D : Nat} {fa ia : Option Addr} {fc ic : Nat} (hfv : VAt C fa (tf.map (Value.int .i64)) w) (hiv : VAt D ia (ti.map (Value.int .i64)) w) (hfc : tf.length ≤ fc) (hic : ti.length ≤ ic) (hC : C ≤ w.heap.size) (hD : D ≤ w.heap.size) :
    Calls Try.prog 21 #[verV lg nx sq ao l.length c, .int .i64 lv, .agg #[.int .i64 tl, .slice fa tf.length fc, .slice ia ti.length ic, .bool tm], .bool tok] w fun e w' => e = .returned (.bool true) ∧ Below w.heap.size w w' := by
  obtain ⟨n, hn⟩ : ∃ n, n = l.length := ⟨_, rfl⟩
  have HN := Lib.hid hn
  rw [← hn] at hc hl ⊢
  have HS : Hid (∀ W, Below w.heap.size w W → FlAt B ao l W) := Lib.hid fun W hW => h.under (hW.mono hB)
  have HTT := Lib.hid ht
  have HFV : Hid (∀ W, Below w.heap.size w W → VAt C fa (tf.map (Value.int .i64)) W) := Lib.hid fun W hW => hfv.under (hW.mono hC)
  have HIV : Hid (∀ W, Below w.heap.size w W → VAt D ia (ti.map (Value.int .i64)) W) := Lib.hid fun W hW => hiv.under (hW.mono hD)
  have HC1 := Lib.hid (And.intro hfc hic)
  obtain ⟨kf, hkf⟩ : ∃ k, k = tf.length := ⟨_, rfl⟩
  obtain ⟨ki, hki⟩ : ∃ k, k = ti.length := ⟨_, rfl⟩
  have HKF := Lib.hid (And.intro hkf hki)
  rw [← hkf, ← hki]
  obtain ⟨z, hz⟩ : ∃ z, z = w.heap.size := ⟨_, rfl⟩
  obtain ⟨x, hx⟩ : ∃ z, z = w.heap.size + 1 := ⟨_, rfl⟩
  have HM : Hid (∀ W, (w.alloc (.cells #[.int .i64 lg, .int .i64 nx, .int .i64 sq, .slice ao n c] 30)).alloc (.cells #[.int .i64 tl, .slice fa kf fc, .slice ia ki ic, .bool tm] 47) = W → Below w.heap.size w W ∧ W.heap[z]? = some (.cells #[.int .i64 lg, .int .i64 nx, .int .i64 sq, .slice ao n c] 30 (0, 0)) ∧ W.heap[x]? = some (.cells #[.int .i64 tl, .slice fa kf fc, .slice ia ki ic, .bool tm] 47 (0, 0))) := Lib.hid (by
    rintro W rfl
    have h1 : (w.alloc (.cells #[.int .i64 lg, .int .i64 nx, .int .i64 sq, .slice ao n c] 30)).heap.size = w.heap.size + 1 := by simp
    refine ⟨((Below.refl w.heap.size w).alloc (Nat.le_refl _) _).alloc (by omega) _, ?_, ?_⟩
    · rw [hz]; exact (((Below.refl _ _).alloc (Nat.le_refl _) _).block w.heap.size (by omega)).trans (heap_alloc_new w _)
    · rw [hx, ← h1]; exact heap_alloc_new _ _)
  clear hn h ht hfv hiv hfc hic hkf hki
  go_enter Try.func21, Try.ntmps21
  go_upto_region 3 with fail
  refine wp_letter (fun W => Below w.heap.size w W ∧ W.heap[z]? = some (.cells #[.int .i64 lg, .int .i64 nx, .int .i64 sq, .slice ao n c] 30 (0, 0)) ∧ W.heap[x]? = some (.cells #[.int .i64 tl, .slice fa kf fc, .slice ia ki ic, .bool tm] 47 (0, 0))) (HM.out _ rfl) ?_
  clear HM
  rintro w0 ⟨hw0, hz0, hx0⟩
  rw [← hx, ← hz]
  have HB0 := Lib.hid hw0
  have KZ : Hid (∀ W, Below w0.heap.size w0 W → W.heap[z]? = some (.cells #[.int .i64 lg, .int .i64 nx, .int .i64 sq, .slice ao n c] 30 (0, 0))) := Lib.hid fun W hW => (hW.block _ (lt_of_heap hz0)).trans hz0
  have KT : Hid (∀ W, Below w0.heap.size w0 W → W.heap[x]? = some (.cells #[.int .i64 tl, .slice fa kf fc, .slice ia ki ic, .bool tm] 47 (0, 0))) := Lib.hid fun W hW => (hW.block _ (lt_of_heap hx0)).trans hx0
  clear hw0 hz0 hx0 hz hx
  go_loopw [9, 10] (fun s i wr => ∃ (j m : Nat) (va : Option Addr) (vc : Nat), j ≤ n ∧ i = .int .i64 j ∧ s = .slice va m vc ∧ Hid (m = (fromW (l.take j) lv).length ∧ m ≤ 30) ∧ Hid (wr.ownsRow w0.heap.size 37 6 (.slice va m vc) m (fls (fromW (l.take j) lv))) ∧ Hid (Below w0.heap.size w0 wr)) (fun _ i _ => n - (intOf i).toNat)
  case atStart => exact ⟨0, 0, none, 0, by omega, rfl, rfl, Lib.hid ⟨by have := fromW_len ([] : List Fl) lv; simp at this; simp [this], by omega⟩, Lib.hid (by have := fromW_len ([] : List Fl) lv; simp at this; simp [this]; exact World.ownsRow_nil w0 w0.heap.size 37 6), Lib.hid (Below.refl _ _)⟩
  case round =>
    obtain ⟨j, m, va, vc, hj, rfl, rfl, HQ, HR, HB⟩ := hrel
    obtain ⟨v0, v1, v2, v3⟩ := four_cells (KZ.out wr HB.out)
    by_cases hlt : j < n
    · have hpos : 0 < l.length := by rw [← HN.out]; omega
      have hwt := below_mono HB0.out HB.out (Nat.le_refl _)
      obtain ⟨a, rfl⟩ := (HS.out wr hwt).there hpos
      obtain ⟨f, hf⟩ : ∃ f, l[j]? = some f := ⟨_, List.getElem?_eq_getElem (by rw [← HN.out]; exact hlt)⟩
      obtain ⟨c0, c1, c2, c3, c4, c5⟩ := ((HS.out wr hwt).cells a rfl hpos).2 j f hf
      have HF := Lib.hid hf
      have j0 : (j : Int) < (n : Int) := by omega
      have HLJ : Hid ((fromW (l.take (j + 1)) lv).length ≤ 30) := Lib.hid (Nat.le_trans (fromW_len _ _) (by rw [List.length_take]; omega))
      have HNW := Lib.hid (six_cells (heap_alloc_new wr (.cells #[.int .i64 f.num, .int .i64 f.lvl, .string f.fst, .string f.lst, .int .i64 f.cnt, .int .i64 f.sz] 37)))
      have HB1 := Lib.hid (HB.out.alloc HB.out.size (.cells #[.int .i64 f.num, .int .i64 f.lvl, .string f.fst, .string f.lst, .int .i64 f.cnt, .int .i64 f.sz] 37))
      have HR1 := Lib.hid (HR.out.alloc (.cells #[.int .i64 f.num, .int .i64 f.lvl, .string f.fst, .string f.lst, .int .i64 f.cnt, .int .i64 f.sz] 37))
      clear hpos hf hwt
      obtain ⟨fn, fv, ff, fe, fc', fz⟩ := f
      dsimp only at c0 c1 c2 c3 c4 c5 HNW HB1 HR1
      go_upto_region 6 with fail
      refine wp_letter (fun W => (Below w0.heap.size w0 W ∧ W.ownsRow w0.heap.size 37 6 (.slice va m vc) m (fls (fromW (l.take j) lv))) ∧ W.cell? ⟨wr.heap.size, 0, none⟩ = some (.int .i64 fn) ∧ W.cell? ⟨wr.heap.size, 1, none⟩ = some (.int .i64 fv) ∧ W.cell? ⟨wr.heap.size, 2, none⟩ = some (.string ff) ∧ W.cell? ⟨wr.heap.size, 3, none⟩ = some (.string fe) ∧ W.cell? ⟨wr.heap.size, 4, none⟩ = some (.int .i64 fc') ∧ W.cell? ⟨wr.heap.size, 5, none⟩ = some (.int .i64 fz)) ⟨⟨HB1.out, HR1.out⟩, HNW.out⟩ ?_
      clear HB1 HR1 HNW c0 c1 c2 c3 c4 c5 v0 v1 v2 v3 HR HB
      rintro w2 ⟨⟨hb2, hr2⟩, e0, e1, e2, e3, e4, e5⟩
      have HB2 := Lib.hid hb2
      have HR2 := Lib.hid hr2
      clear hb2 hr2
      by_cases hskip : fv ≠ lv ∨ lv < 0 ∨ 3 < lv
      · have HT := Lib.hid (fromW_skip HF.out hskip)
        have hsk2 : fv ≠ lv ∨ (fv = lv ∧ lv < 0) ∨ (fv = lv ∧ ¬ lv < 0 ∧ 3 < lv) := by omega
        clear hskip
        rcases hsk2 with h1 | ⟨h1, h2⟩ | ⟨h1, h2, h3⟩
        · go_wp2_with fail
          go_roundw
          case rel => exact ⟨j + 1, m, va, vc, hlt, by go_num, rfl, Lib.hid (by rw [HT.out]; exact HQ.out), Lib.hid (by rw [HT.out]; exact HR2.out), HB2⟩
          case measure => simp [intOf]; omega
        · subst h1
          go_wp2_with fail
          go_roundw
          case rel => exact ⟨j + 1, m, va, vc, hlt, by go_num, rfl, Lib.hid (by rw [HT.out]; exact HQ.out), Lib.hid (by rw [HT.out]; exact HR2.out), HB2⟩
          case measure => simp [intOf]; omega
        · subst h1
          go_wp2_with fail
          go_roundw
          case rel => exact ⟨j + 1, m, va, vc, hlt, by go_num, rfl, Lib.hid (by rw [HT.out]; exact HQ.out), Lib.hid (by rw [HT.out]; exact HR2.out), HB2⟩
          case measure => simp [intOf]; omega
      · have hin : fv = lv ∧ ¬ lv < 0 ∧ ¬ 3 < lv := by omega
        clear hskip
        obtain ⟨rfl, n1, n2⟩ := hin
        by_cases hz0 : fv = 0
        · subst hz0
          have HT := Lib.hid (fromW_first (lv := 0) HF.out rfl ⟨by omega, by omega⟩ (.inl rfl))
          have H6 := Lib.hid (six_cells (heap_alloc_new w2 (.cells #[.int .i64 fn, .int .i64 0, .string ff, .string fe, .int .i64 fc', .int .i64 fz] 37)))
          go_upto_region 4 with (at_builtin; refine wpList_appFr rfl _ _ rfl w0.heap.size _ m (fromW (l.take j) 0) ⟨fn, 0, ff, fe, fc', fz⟩ rfl (HR2.out.alloc _) w2.heap.size rfl H6.out (by have := HQ.out; omega) (by have := HB2.out.size; simp; omega) ?_; intro v' w3 hown3 hgr3)
          have HB3 : Hid (Below w0.heap.size w0 w3) := Lib.hid ((HB2.out.alloc HB2.out.size (.cells #[.int .i64 fn, .int .i64 0, .string ff, .string fe, .int .i64 fc', .int .i64 fz] 37)).grown hgr3 (by have := HB2.out.size; simp; omega) (fun j hj => (HR2.out.lt j hj).1))
          have HR3 := Lib.hid hown3
          obtain ⟨va', vc', rfl⟩ := row_form hown3
          have HQ3 : Hid (m + 1 = (fromW (l.take (j + 1)) 0).length ∧ m + 1 ≤ 30) := Lib.hid (by
            have h1 := HLJ.out
            rw [HT.out, List.length_append, ← HQ.out.1] at h1 ⊢
            exact ⟨rfl, h1⟩)
          clear hown3 hgr3 e0 e1 e2 e3 e4 e5 H6
          go_wp2_with fail
          go_roundw
          case rel => exact ⟨j + 1, m + 1, va', vc', hlt, by go_num, rfl, HQ3, Lib.hid (by rw [HT.out]; exact HR3.out), HB3⟩
          case measure => simp [intOf]; omega
        · have hp0 : 0 < fv := by omega
          by_cases hm0 : m = 0
          · subst hm0
            have HT := Lib.hid (fromW_first (lv := fv) HF.out rfl ⟨by omega, by omega⟩ (.inr (List.length_eq_zero_iff.1 HQ.out.1.symm)))
            have H6 := Lib.hid (six_cells (heap_alloc_new w2 (.cells #[.int .i64 fn, .int .i64 fv, .string ff, .string fe, .int .i64 fc', .int .i64 fz] 37)))
            go_upto_region 4 with (at_builtin; refine wpList_appFr rfl _ _ rfl w0.heap.size _ 0 (fromW (l.take j) fv) ⟨fn, fv, ff, fe, fc', fz⟩ rfl (HR2.out.alloc _) w2.heap.size rfl H6.out (by have := HQ.out; omega) (by have := HB2.out.size; simp; omega) ?_; intro v' w3 hown3 hgr3)
            have HB3 : Hid (Below w0.heap.size w0 w3) := Lib.hid ((HB2.out.alloc HB2.out.size (.cells #[.int .i64 fn, .int .i64 fv, .string ff, .string fe, .int .i64 fc', .int .i64 fz] 37)).grown hgr3 (by have := HB2.out.size; simp; omega) (fun j hj => (HR2.out.lt j hj).1))
            have HR3 := Lib.hid hown3
            obtain ⟨va', vc', rfl⟩ := row_form hown3
            have HQ3 : Hid (0 + 1 = (fromW (l.take (j + 1)) fv).length ∧ 0 + 1 ≤ 30) := Lib.hid (by
              have h1 := HLJ.out
              rw [HT.out, List.length_append, ← HQ.out.1] at h1 ⊢
              exact ⟨rfl, h1⟩)
            clear hown3 hgr3 e0 e1 e2 e3 e4 e5 H6
            go_wp2_with fail
            go_roundw
            case rel => exact ⟨j + 1, 0 + 1, va', vc', hlt, by go_num, rfl, HQ3, Lib.hid (by rw [HT.out]; exact HR3.out), HB3⟩
            case measure => simp [intOf]; omega
          · obtain ⟨e, he⟩ : ∃ e, fromW (l.take j) fv = [e] := by
              rw [fromW_more (by omega)]
              rcases eldF_cases ((l.take j).filter (byLvl fv)) with h | h
              · exfalso
                have := HQ.out.1
                rw [fromW_more (by omega), h] at this
                exact hm0 this
              · exact h
            obtain rfl : m = 1 := by have := HQ.out.1; rw [he] at this; exact this
            have HT := Lib.hid (fromW_less (lv := fv) HF.out rfl ⟨by omega, by omega⟩ he)
            obtain ⟨g, rfl⟩ := row_some HR2.out
            have hr3 := HR2.out
            rw [he] at hr3
            obtain ⟨en, ev, ef, ee, ec, ez⟩ := e
            have d0 : w2.cell? ⟨g, 0, none⟩ = some (.int .i64 en) := hr3.cellAt (j := 0) (by omega)
            have q0 : w2.frozen? ⟨g, 0, none⟩ = false := hr3.frozenAt 0
            have q1 : w2.frozen? ⟨g, 1, none⟩ = false := hr3.frozenAt 1
            have q2 : w2.frozen? ⟨g, 2, none⟩ = false := hr3.frozenAt 2
            have q3 : w2.frozen? ⟨g, 3, none⟩ = false := hr3.frozenAt 3
            have q4 : w2.frozen? ⟨g, 4, none⟩ = false := hr3.frozenAt 4
            have q5 : w2.frozen? ⟨g, 5, none⟩ = false := hr3.frozenAt 5
            have d1 : w2.cell? ⟨g, 1, none⟩ = some (.int .i64 ev) := hr3.cellAt (j := 1) (by omega)
            have d2 : w2.cell? ⟨g, 2, none⟩ = some (.string ef) := hr3.cellAt (j := 2) (by omega)
            have d3 : w2.cell? ⟨g, 3, none⟩ = some (.string ee) := hr3.cellAt (j := 3) (by omega)
            have d4 : w2.cell? ⟨g, 4, none⟩ = some (.int .i64 ec) := hr3.cellAt (j := 4) (by omega)
            have d5 : w2.cell? ⟨g, 5, none⟩ = some (.int .i64 ez) := hr3.cellAt (j := 5) (by omega)
            have HR3 := Lib.hid hr3
            clear hr3 he
            by_cases hless : fn < en
            · have HT2 : Hid (fromW (l.take (j + 1)) fv = [⟨fn, fv, ff, fe, fc', fz⟩]) := Lib.hid (by rw [HT.out, if_pos hless])
              go_upto_region 8 with fail
              go_region
              all_goals
                go_wp2_with fail
                exact ⟨⟨j + 1, 1, some ⟨g, 0, none⟩, vc, hlt, by go_num, rfl, Lib.hid (by rw [HT2.out]; exact ⟨rfl, by omega⟩), Lib.hid (by rw [HT2.out]; exact row_drew (row_put ⟨fn, fv, ff, fe, fc', fz⟩ HR3.out)), Lib.hid (six_bel HB2.out g (HR2.out.lt g rfl).1 _ _ _ _ _ _).drew⟩, by simp [intOf]; omega⟩
            · have HT2 : Hid (fromW (l.take (j + 1)) fv = [⟨en, ev, ef, ee, ec, ez⟩]) := Lib.hid (by rw [HT.out, if_neg hless])
              go_upto_region 8 with fail
              go_region
              all_goals
                go_wp2_with fail
                exact ⟨⟨j + 1, 1, some ⟨g, 0, none⟩, vc, hlt, by go_num, rfl, Lib.hid (by rw [HT2.out]; exact ⟨rfl, by omega⟩), Lib.hid (by rw [HT2.out]; exact row_drew HR3.out), Lib.hid HB2.out.drew⟩, by simp [intOf]; omega⟩
    · obtain rfl : j = n := by omega
      have hq := HQ.out.1
      have hrow := HR.out
      rw [List.take_of_length_le (by rw [HN.out]; exact Nat.le_refl _)] at hq hrow
      obtain ⟨t0, t1, t2, t3⟩ := four_cells (KT.out wr HB.out)
      by_cases hm0 : m = 0
      · subst hm0
        have htn := takeT_nil (List.length_eq_zero_iff.1 hq.symm)
        rw [← HTT.out] at htn
        injection htn with g1 g2
        injection g2 with g2 g3
        injection g3 with g3 g4
        injection g4 with g4 g5
        subst g1 g2 g3 g4 g5
        obtain ⟨rfl, rfl⟩ := HKF.out
        have HBE := Lib.hid (below_mono HB0.out HB.out (Nat.le_refl _))
        clear hq hrow
        go_wp2_with fail
        go_ret
        exact ⟨rfl, HBE.out⟩
      · have hne : fromW l lv ≠ [] := fun h0 => hm0 (by rw [hq, h0]; rfl)
        obtain ⟨hin, hFL, htn⟩ := takeT_some hne
        rw [← HTT.out] at htn
        injection htn with g1 g2
        injection g2 with g2 g3
        injection g3 with g3 g4
        injection g4 with g4 g5
        subst g1 g2 g3 g5
        have hTM := g4
        clear g4
        obtain ⟨F, hF⟩ : ∃ F, F = fromW l tl := ⟨_, rfl⟩
        obtain ⟨l2, hl2⟩ : ∃ F, F = intoL l tl := ⟨_, rfl⟩
        have hl2' : l2 = (l.filter (byLvl (tl + 1))).filter (wiB (spanB F).1 (spanB F).2) := by rw [hl2, hF, hFL]; rfl
        have hkk := HKF.out
        have hrow2 := FlAt.row hrow hq
        have hmc := (got_row (w0 := w0) hrow hq (Nat.le_refl _)).1
        rw [← hF] at hkk hq hrow2
        rw [← hl2] at hkk
        rw [List.length_map, List.length_map] at hkk
        obtain rfl : kf = m := by rw [hkk.1, hq]
        have HM := Lib.hid hq
        have HKI := Lib.hid hkk.2
        have hm30 : kf ≤ 30 := HQ.out.2
        have HL2 : Hid (l2.length ≤ 39) := Lib.hid (by rw [hl2']; exact Nat.le_trans (List.length_filter_le _ _) (Nat.le_trans (List.length_filter_le _ _) (by rw [← HN.out]; omega)))
        have HMC := Lib.hid hmc
        have HFR := Lib.hid hrow2
        have HFV2 : Hid (∀ W, Below w.heap.size w W → VAt C fa ((F.map Fl.num).map (Value.int .i64)) W) := Lib.hid fun W hW => by rw [hF]; exact HFV.out W hW
        have HIV2 : Hid (∀ W, Below w.heap.size w W → VAt D ia ((l2.map Fl.num).map (Value.int .i64)) W) := Lib.hid fun W hW => by rw [hl2]; exact HIV.out W hW
        have HC2 : Hid (F.length ≤ fc ∧ l2.length ≤ ic) := Lib.hid (by have := HC1.out; rw [← hF, ← hl2, List.length_map, List.length_map] at this; exact this)
        have HL2' := Lib.hid hl2'
        have HTM : Hid (tm = (decide (0 < tl) && decide (l2.length = 0))) := Lib.hid (by rw [hl2]; exact hTM)
        have HPOS : Hid (0 < F.length) := Lib.hid (by rw [← hq]; omega)
        have HBT := Lib.hid (below_mono HB0.out HB.out (Nat.le_refl _))
        clear hTM hne hFL hrow hq hF hl2 hl2' hkk hrow2 hmc HFV HIV HC1 HKF HTT HQ HR
        obtain ⟨a, rfl⟩ := HFR.out.there HPOS.out
        obtain ⟨f, hf⟩ : ∃ f, F[0]? = some f := ⟨_, List.getElem?_eq_getElem HPOS.out⟩
        have hc0 := (HFR.out.cells a rfl HPOS.out).2 0 f hf
        rw [add_zero6] at hc0
        obtain ⟨c0, c1, c2, c3, c4, c5⟩ := hc0
        have HE1 : Hid (spanB (F.take 1) = (f.fst, f.lst)) := Lib.hid (by
          have := spanB_step (j := 0) hf
          rw [this]
          simp [spanB, mxT_nil])
        have k0 : (0 : Int) < (kf : Int) := by omega
        have k0n : 0 < kf := by omega
        have hm0' : ¬ (kf : Int) = 0 := by omega
        have hm0b : ((kf : Int) == 0) = false := by simpa using hm0'
        clear hf
        go_upto_region 13 with fail
        go_region_held3 (fun W => W.cell? ⟨a.block, a.off + 2, none⟩ = some (.string f.fst) ∧ W.cell? ⟨a.block, a.off + 3, none⟩ = some (.string f.lst))
          (first | exact ⟨c2, c3⟩ | (go_keep; done))
          (fail)
        have HK0 := Lib.hid k0n
        have HTW := Lib.hid ((Below.refl wr.heap.size wr).drew)
        go_upto_region 15 with fail
        obtain ⟨wd, hwd⟩ : ∃ x, x = wr.drew := ⟨_, rfl⟩
        rw [← hwd] at HTW ⊢
        clear hwd c0 c1 c2 c3 c4 c5
        go_loopw [12, 13, 14] (fun u v i W => ∃ (i' : Nat) (s t : ByteArray), 1 ≤ i' ∧ i' ≤ kf ∧ i = .int .i64 i' ∧ u = .string s ∧ v = .string t ∧ Hid (spanB (F.take i') = (s, t)) ∧ Hid (Below wr.heap.size wr W)) (fun _ _ i _ => kf - (intOf i).toNat)
        case atStart => exact ⟨1, _, _, Nat.le_refl _, HK0.out, rfl, rfl, rfl, HE1, HTW⟩
        case round =>
          obtain ⟨i, s, t, hi1, hik, rfl, rfl, rfl, HE, HBS⟩ := hrel
          by_cases hlt2 : i < kf
          · obtain ⟨f, hf⟩ : ∃ f, F[i]? = some f := ⟨_, List.getElem?_eq_getElem (by rw [← HM.out]; exact hlt2)⟩
            obtain ⟨c0, c1, c2, c3, c4, c5⟩ := ((HFR.out.under HBS.out).cells a rfl HPOS.out).2 i f hf
            have HST := Lib.hid (spanB_step hf)
            rw [HE.out] at HST
            have hi0 : i ≠ 0 := by omega
            have i0 : (0 : Int) ≤ (i : Int) := by omega
            have i1 : (i : Int) < (kf : Int) := by omega
            clear hf
            obtain ⟨fn, fv, ff, fe, fc', fz⟩ := f
            dsimp only at c0 c1 c2 c3 c4 c5 HST
            cases h1 : Op.bytesLess ff.toList s.toList
            · rcases le_cases fe t with hu | ⟨hl, hu⟩ | ⟨hl, hu⟩
              · have HLS := Lib.hid (And.intro h1 (hu))
                have HE2 : Hid (spanB (F.take (i + 1)) = (s, t)) := Lib.hid (by rw [HST.out, if_neg hi0, mn1 HLS.out.1, mx1 HLS.out.2])
                go_wp2_with fail
                go_roundw
                case rel => exact ⟨i + 1, _, _, by omega, hlt2, by go_num, rfl, rfl, HE2, HBS⟩
                case measure => simp [intOf]; omega
              · have HLS := Lib.hid (And.intro h1 (And.intro hl hu))
                have HE2 : Hid (spanB (F.take (i + 1)) = (s, t)) := Lib.hid (by rw [HST.out, if_neg hi0, mn1 HLS.out.1, mx2 HLS.out.2.2])
                go_wp2_with fail
                go_roundw
                case rel => exact ⟨i + 1, _, _, by omega, hlt2, by go_num, rfl, rfl, HE2, HBS⟩
                case measure => simp [intOf]; omega
              · have HLS := Lib.hid (And.intro h1 (And.intro hl hu))
                have HE2 : Hid (spanB (F.take (i + 1)) = (s, fe)) := Lib.hid (by rw [HST.out, if_neg hi0, mn1 HLS.out.1, mx3 HLS.out.2.1 HLS.out.2.2])
                go_wp2_with fail
                go_roundw
                case rel => exact ⟨i + 1, _, _, by omega, hlt2, by go_num, rfl, rfl, HE2, HBS⟩
                case measure => simp [intOf]; omega
            · rcases le_cases fe t with hu | ⟨hl, hu⟩ | ⟨hl, hu⟩
              · have HLS := Lib.hid (And.intro h1 (hu))
                have HE2 : Hid (spanB (F.take (i + 1)) = (ff, t)) := Lib.hid (by rw [HST.out, if_neg hi0, mn2 HLS.out.1, mx1 HLS.out.2])
                go_wp2_with fail
                go_roundw
                case rel => exact ⟨i + 1, _, _, by omega, hlt2, by go_num, rfl, rfl, HE2, HBS⟩
                case measure => simp [intOf]; omega
              · have HLS := Lib.hid (And.intro h1 (And.intro hl hu))
                have HE2 : Hid (spanB (F.take (i + 1)) = (ff, t)) := Lib.hid (by rw [HST.out, if_neg hi0, mn2 HLS.out.1, mx2 HLS.out.2.2])
                go_wp2_with fail
                go_roundw
                case rel => exact ⟨i + 1, _, _, by omega, hlt2, by go_num, rfl, rfl, HE2, HBS⟩
                case measure => simp [intOf]; omega
              · have HLS := Lib.hid (And.intro h1 (And.intro hl hu))
                have HE2 : Hid (spanB (F.take (i + 1)) = (ff, fe)) := Lib.hid (by rw [HST.out, if_neg hi0, mn2 HLS.out.1, mx3 HLS.out.2.1 HLS.out.2.2])
                go_wp2_with fail
                go_roundw
                case rel => exact ⟨i + 1, _, _, by omega, hlt2, by go_num, rfl, rfl, HE2, HBS⟩
                case measure => simp [intOf]; omega
          · obtain rfl : i = kf := by omega
            have hE := HE.out
            rw [List.take_of_length_le (by rw [HM.out]; exact Nat.le_refl _)] at hE
            have hl2 := HL2'.out
            rw [hE] at hl2
            dsimp only at hl2
            have HBE := Lib.hid (below_mono HBT.out HBS.out (Nat.le_refl _))
            have HZW := Lib.hid (below_mono HB.out HBS.out (Nat.le_refl _))
            have hw1 : IntKind.i64.wrap (tl + 1) = tl + 1 := IntWalk.i64_in _ (by omega)
            have CW : Hid (∀ W, Below w.heap.size w W → Calls Try.prog 17 #[verV lg nx sq ao j c, .int .i64 (tl + 1), .string s, .string t] W fun e w' => Mk l2 ki e w' ∧ Below W.heap.size W w') := Lib.hid fun W hW => by
              have h1 := wlaw_any (lg := lg) (nx := nx) (sq := sq) (HS.out W hW) (by have := hW.size; omega) (by rw [← HN.out]; exact hc) (by rw [← HN.out]; omega) (tl + 1) s t
              rw [← HN.out, lists_same, ← hl2] at h1
              exact h1.mono fun e w' ⟨hg, hb⟩ => ⟨hg.mk HKI.out, hb⟩
            have CV : Hid (∀ W, Below wr.heap.size wr W → Calls Try.prog 13 #[.agg #[.int .i64 0, .int .i64 0, .int .i64 0, .slice (some a) i vc]] W fun e w' => (∃ vb vd, e = .returned (.agg #[.int .i64 0, .int .i64 0, .int .i64 0, .slice vb i vd]) ∧ i ≤ vd ∧ FlAt w'.heap.size vb F w') ∧ Below W.heap.size W w') := Lib.hid fun W hW => by
              have h1 := version_any (lg := 0) (nx := 0) (sq := 0) (w := W) ((HFR.out.under (HBS.out.trans (hW.mono HBS.out.size)))) (by have := hW.size; have := HBS.out.size; omega) (by rw [← HM.out]; exact HMC.out) (by rw [← HM.out]; omega)
              rw [← HM.out] at h1
              refine h1.mono fun e w' ⟨hg, hb⟩ => ⟨?_, hb⟩
              obtain ⟨vb, vd, q1, q2, q3⟩ := hg
              rw [← HM.out] at q1 q2
              exact ⟨vb, vd, q1, q2, q3⟩
            have CSp : Hid (∀ W vb vd, i ≤ vd → FlAt W.heap.size vb F W → Calls Try.prog 27 #[.slice vb i vd] W fun e w' => e = .returned (.tuple #[.string s, .string t]) ∧ Below W.heap.size W w') := Lib.hid fun W vb vd q1 q2 => by
              have h1 := span_any q2 (Nat.le_refl _) (by rw [← HM.out]; exact q1) (by rw [← HM.out]; omega)
              rw [← HM.out, hE] at h1
              exact h1
            have CS1 : Hid (∀ W, Below wr.heap.size wr W → Calls Try.prog 33 #[.slice fa i fc, .slice (some a) i vc] W fun e w' => e = .returned (.bool true) ∧ Below W.heap.size W w') := Lib.hid fun W hW => by
              have h1 := same_nums (w := W) (HFV2.out W (HBE.out.trans (hW.mono HBE.out.size))) (HFR.out.under (HBS.out.trans (hW.mono HBS.out.size))) HC2.out.1 (by rw [← HM.out]; exact HMC.out) (by rw [← HM.out]; omega)
              rw [← HM.out] at h1
              exact h1
            have CS2 : Hid (∀ W, Below wr.heap.size wr W → ∀ vb vd, ki ≤ vd → FlAt W.heap.size vb l2 W → Calls Try.prog 33 #[.slice ia ki ic, .slice vb ki vd] W fun e w' => e = .returned (.bool true) ∧ Below W.heap.size W w') := Lib.hid fun W hW vb vd q1 q2 => by
              have h1 := same_nums (w := W) (HIV2.out W (HBE.out.trans (hW.mono HBE.out.size))) q2 HC2.out.2 (by rw [← HKI.out]; exact q1) HL2.out
              rw [← HKI.out] at h1
              exact h1
            have HTB : Hid (tm = (decide (0 < tl) && decide (ki = 0))) := Lib.hid (by rw [HKI.out]; exact HTM.out)
            obtain ⟨v0, v1, v2, v3⟩ := four_cells (KZ.out wr HZW.out)
            have HRF := run_field3 0 0 0
            clear hE hl2 HE HE1
            go_upto_region 22 with (go_at_call 17; (with_reducible refine (CW.out _ HBE.out).mono ?_); rintro e W1 ⟨⟨wb, wc, rfl, q1, q2⟩, hb⟩; have HW := Lib.hid (And.intro q1 q2); have HX1 := Lib.hid hb; clear q1 q2 hb v0 v1 v2 v3 CW)
            go_upto_region 23 with (first | (go_at_call 13; (with_reducible refine (CV.out _ HX1.out).mono ?_); rintro e W2 ⟨⟨vb, vd, rfl, q1, q2⟩, hb⟩; have HV := Lib.hid (And.intro q1 q2); have HX2 := Lib.hid (below_mono HX1.out hb (Nat.le_refl _)); have HY2 := Lib.hid hb; clear q1 q2 hb CV) | (go_at_call 27; (with_reducible refine (CSp.out _ _ _ HV.out.1 HV.out.2).mono ?_); rintro e W3 ⟨rfl, hb⟩; have HX3 := Lib.hid (below_mono HX2.out hb (Nat.le_refl _)); have HY3 := Lib.hid (below_mono HY2.out hb (Nat.le_refl _)); clear hb CSp))
            obtain ⟨t0, t1, t2, t3⟩ := four_cells (KT.out W3 (below_mono HZW.out HX3.out (Nat.le_refl _)))
            have HW3 := Lib.hid (And.intro HW.out.1 ((HW.out.2.under HY3.out).more HY3.out.size))
            have KT4 : Hid (∀ W, Below W3.heap.size W3 W → W.cell? ⟨x, 0, none⟩ = some (.int .i64 tl) ∧ W.cell? ⟨x, 1, none⟩ = some (.slice fa i fc) ∧ W.cell? ⟨x, 2, none⟩ = some (.slice ia ki ic) ∧ W.cell? ⟨x, 3, none⟩ = some (.bool tm)) := Lib.hid fun W hW => four_cells (KT.out W (below_mono (below_mono HZW.out HX3.out (Nat.le_refl _)) hW (Nat.le_refl _)))
            have HTE := HTB.out
            clear HW HV HX1 HX2 HY2 HY3
            by_cases hp : 0 < tl
            · by_cases hk : ki = 0
              · obtain rfl : tm = true := by rw [HTE]; simp [hp, hk]
                subst hk
                clear HTE
                go_wp2_with (go_at_call 33; first | ((with_reducible refine (CS1.out _ HX3.out).mono ?_); rintro e W4 ⟨rfl, hb⟩; have HX4 := Lib.hid (below_mono HX3.out hb (Nat.le_refl _)); have HW4 := Lib.hid ((HW3.out.2.under hb).more hb.size); clear t0 t1 t2 t3; obtain ⟨t0, t1, t2, t3⟩ := KT4.out W4 hb; have HK4 := Lib.hid hb; clear hb) | ((with_reducible refine (CS2.out _ HX4.out _ _ HW3.out.1 HW4.out).mono ?_); rintro e W5 ⟨rfl, hb⟩; have HX5 := Lib.hid (below_mono HX4.out hb (Nat.le_refl _)); clear t0 t1 t2 t3; obtain ⟨t0, t1, t2, t3⟩ := KT4.out W5 (below_mono HK4.out hb (Nat.le_refl _)); clear hb))
                go_ret
                exact ⟨by simp, below_mono HBE.out HX5.out (Nat.le_refl _)⟩
              · obtain rfl : tm = false := by rw [HTE]; simp [hk]
                have hk2 : ¬ (ki : Int) = 0 := by omega
                clear HTE
                go_wp2_with (go_at_call 33; first | ((with_reducible refine (CS1.out _ HX3.out).mono ?_); rintro e W4 ⟨rfl, hb⟩; have HX4 := Lib.hid (below_mono HX3.out hb (Nat.le_refl _)); have HW4 := Lib.hid ((HW3.out.2.under hb).more hb.size); clear t0 t1 t2 t3; obtain ⟨t0, t1, t2, t3⟩ := KT4.out W4 hb; have HK4 := Lib.hid hb; clear hb) | ((with_reducible refine (CS2.out _ HX4.out _ _ HW3.out.1 HW4.out).mono ?_); rintro e W5 ⟨rfl, hb⟩; have HX5 := Lib.hid (below_mono HX4.out hb (Nat.le_refl _)); clear t0 t1 t2 t3; obtain ⟨t0, t1, t2, t3⟩ := KT4.out W5 (below_mono HK4.out hb (Nat.le_refl _)); clear hb))
                go_ret
                exact ⟨(by simp; omega), below_mono HBE.out HX5.out (Nat.le_refl _)⟩
            · obtain rfl : tm = false := by rw [HTE]; simp [hp]
              clear HTE
              go_wp2_with (go_at_call 33; first | ((with_reducible refine (CS1.out _ HX3.out).mono ?_); rintro e W4 ⟨rfl, hb⟩; have HX4 := Lib.hid (below_mono HX3.out hb (Nat.le_refl _)); have HW4 := Lib.hid ((HW3.out.2.under hb).more hb.size); clear t0 t1 t2 t3; obtain ⟨t0, t1, t2, t3⟩ := KT4.out W4 hb; have HK4 := Lib.hid hb; clear hb) | ((with_reducible refine (CS2.out _ HX4.out _ _ HW3.out.1 HW4.out).mono ?_); rintro e W5 ⟨rfl, hb⟩; have HX5 := Lib.hid (below_mono HX4.out hb (Nat.le_refl _)); clear t0 t1 t2 t3; obtain ⟨t0, t1, t2, t3⟩ := KT4.out W5 (below_mono HK4.out hb (Nat.le_refl _)); clear hb))
              go_ret
              exact ⟨by simp, below_mono HBE.out HX5.out (Nat.le_refl _)⟩
end Go.Proofs.Ythodlkacfcnhnaa
