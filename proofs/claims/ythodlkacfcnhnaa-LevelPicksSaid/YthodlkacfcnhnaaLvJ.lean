/- Layer 15: a level's task, where it has files. Conditions: those written at each theorem. -/
import Derived.Test.YthodlkacfcnhnaaLvI
namespace Go.Proofs.Ythodlkacfcnhnaa
open Go.RowKit Go.Sort
set_option linter.unusedVariables false
set_option linter.unusedSimpArgs false
theorem six_set (w : World) (y : Nat) (a b c d e f : Value) (T : TypeId) (hb : w.heap[y]? = some (.cells #[a, b, c, d, e, f] T (0, 0))) (x0 x1 x2 x3 x4 x5 : Value) :
    ((((((w.setCell ⟨y, 0, none⟩ x0).setCell ⟨y, 1, none⟩ x1).setCell ⟨y, 2, none⟩ x2).setCell ⟨y, 3, none⟩ x3).setCell ⟨y, 4, none⟩ x4).setCell ⟨y, 5, none⟩ x5).heap[y]? = some (.cells #[x0, x1, x2, x3, x4, x5] T (0, 0)) := by
  have hset : ∀ (W : World) (i : Nat) (ds : Array Value) (u : Value), W.heap[y]? = some (.cells ds T (0, 0)) → (W.setCell ⟨y, i, none⟩ u).heap[y]? = some (.cells (ds.setIfInBounds i u) T (0, 0)) := by
    intro W i ds u h
    simp [World.setCell, Array.getElem?_modify, h]
  exact hset _ 5 _ x5 (hset _ 4 _ x4 (hset _ 3 _ x3 (hset _ 2 _ x2 (hset _ 1 _ x1 (hset _ 0 _ x0 hb)))))
theorem add_zero6 (a : Addr) : a.add (0 * 6) = a := by
  unfold Addr.add
  split <;> simp_all
theorem six_bel {B : Nat} {w W : World} (h : Below B w W) (y : Nat) (hy : B ≤ y) (x0 x1 x2 x3 x4 x5 : Value) :
    Below B w ((((((W.setCell ⟨y, 0, none⟩ x0).setCell ⟨y, 1, none⟩ x1).setCell ⟨y, 2, none⟩ x2).setCell ⟨y, 3, none⟩ x3).setCell ⟨y, 4, none⟩ x4).setCell ⟨y, 5, none⟩ x5) :=
  (((((h.setCell (p := ⟨y, 0, none⟩) hy _).setCell (p := ⟨y, 1, none⟩) hy _).setCell (p := ⟨y, 2, none⟩) hy _).setCell (p := ⟨y, 3, none⟩) hy _).setCell (p := ⟨y, 4, none⟩) hy _).setCell (p := ⟨y, 5, none⟩) hy _
set_option maxRecDepth 100000 in
set_option maxHeartbeats 8000000 in
theorem take_some {B : Nat} {lg nx sq : Int} {bo : Option Addr} {c : Nat} {L : List Fl} {w : World} (h : FlAt B bo L w) (hB : B ≤ w.heap.size) (hc : L.length ≤ c) (hl : L.length ≤ 39) (hs : Srt L) (lv : Int) (h0 : 0 ≤ lv) (h4 : lv < 4) (hn : L.filter (byLvl lv) ≠ []) :
    Calls Try.prog 20 #[.agg #[.int .i64 lg, .int .i64 nx, .int .i64 sq, .slice bo L.length c], .int .i64 lv] w fun e w' => TaskIs w lv ((fromL L lv).map Fl.num) ((intoL L lv).map Fl.num) (decide (0 < lv) && decide ((intoL L lv).length = 0)) true e w' ∧ Below w.heap.size w w' := by
  have CL : Hid (∀ W, Below w.heap.size w W → Calls Try.prog 31 #[.agg #[.int .i64 lg, .int .i64 nx, .int .i64 sq, .slice bo L.length c], .int .i64 lv] W fun e w' => Got W (L.filter (byLvl lv)) e w' ∧ Below W.heap.size W w') := Lib.hid fun W hW => level_any (h.under (hW.mono hB)) (by have := hW.size; omega) hc hl hs lv
  have CW : Hid (∀ s t W, Below w.heap.size w W → Calls Try.prog 16 #[.agg #[.int .i64 lg, .int .i64 nx, .int .i64 sq, .slice bo L.length c], .int .i64 (lv + 1), .string s, .string t] W fun e w' => Got W ((L.filter (byLvl (lv + 1))).filter (wiB s t)) e w' ∧ Below W.heap.size W w') := Lib.hid fun s t W hW => lwithin_any (h.under (hW.mono hB)) (by have := hW.size; omega) hc hl hs (lv + 1) s t
  obtain ⟨l0, hl0⟩ : ∃ l, l = L.filter (byLvl lv) := ⟨_, rfl⟩
  obtain ⟨n, hnn⟩ : ∃ n, n = l0.length := ⟨_, rfl⟩
  have hn39 : n ≤ 39 := by rw [hnn, hl0]; exact Nat.le_trans (List.length_filter_le _ _) hl
  have hn1 : 0 < n := by rw [hnn, hl0]; exact List.length_pos_iff.2 hn
  have HN := Lib.hid hnn
  obtain ⟨l1, hl1⟩ : ∃ l, l = fromL L lv := ⟨_, rfl⟩
  have HF1 : Hid ((lv = 0 → l1 = l0) ∧ (lv ≠ 0 → l1 = eldF l0)) := Lib.hid ⟨fun h => by rw [hl1, hl0]; unfold fromL; rw [if_pos h], fun h => by rw [hl1, hl0]; unfold fromL; rw [if_neg h]⟩
  have HW39 : Hid (∀ p : Fl → Bool, ((L.filter (byLvl (lv + 1))).filter p).length ≤ 39) := Lib.hid fun p => Nat.le_trans (List.length_filter_le _ _) (Nat.le_trans (List.length_filter_le _ _) hl)
  obtain ⟨s, hs0⟩ : ∃ s, s = (spanB l1).1 := ⟨_, rfl⟩
  obtain ⟨t, ht0⟩ : ∃ s, s = (spanB l1).2 := ⟨_, rfl⟩
  have HST0 := Lib.hid (And.intro hs0 ht0)
  obtain ⟨l2, hl2⟩ : ∃ l, l = intoL L lv := ⟨_, rfl⟩
  have hl3 : l2 = (L.filter (byLvl (lv + 1))).filter (wiB s t) := by rw [hl2, hs0, ht0, hl1]; rfl
  have CW2 := Lib.hid (CW.out s t)
  have HL39 : Hid (l2.length ≤ 39) := Lib.hid (by rw [hl3]; exact HW39.out _)
  rw [← hl3] at CW2
  rw [← hl2]
  clear CW HW39 hl3 hl2 hs0 ht0
  rw [← hl0] at CL
  rw [← hl1]
  obtain ⟨k, hk⟩ : ∃ k, k = L.length := ⟨_, rfl⟩
  rw [← hk] at CL CW2 ⊢
  clear h hB hc hl hs hn hk hl0 hl1 hnn
  have HM := Lib.hid (TkAt.made w lg nx sq bo k c)
  obtain ⟨z, hz⟩ : ∃ z, z = w.heap.size + 1 := ⟨_, rfl⟩
  have HZ := Lib.hid hz
  have h5 : ¬ lv < 0 := by omega
  have h6 : ¬ 4 ≤ lv := by omega
  have hlv1 : IntKind.i64.wrap (lv + 1) = lv + 1 := IntWalk.i64_in _ (by omega)
  go_enter Try.func20, Try.ntmps20
  go_upto_region 1 with fail
  refine wp_letter (fun W => TkAt w lg nx sq bo k c W) HM.out ?_
  clear HM
  intro W hT
  have HT := Lib.hid hT
  rw [← hz]
  obtain ⟨v0, v1, v2, v3⟩ := four_cells hT.ver
  clear hz hT
  go_upto_region 4 with (go_at_call 31; (with_reducible refine (CL.out _ HT.out.bel).mono ?_); rintro e w1 ⟨⟨ao, cc, rfl, hcc, hfl, hne⟩, hb⟩; have HT1 := Lib.hid (HT.out.next hb); have HFL := Lib.hid hfl; have HN0 := HN; rw [← HN0.out]; rw [← HN0.out] at hcc; have HCC := Lib.hid hcc; clear hb hcc hfl hne v0 v1 v2 v3 CL HT HN0)
  have hn0 : ¬ (n : Int) = 0 := by omega
  go_upto_region 6 with fail
  go_upto_if 28 with fail
  go_cut [6] (fun v wx => ∃ va n1 vc, v = .slice va n1 vc ∧ Hid (n1 = l1.length ∧ n1 ≤ vc ∧ n1 ≤ 39 ∧ FlAt wx.heap.size va l1 wx ∧ TkAt w lg nx sq bo k c wx))
  case first =>
    by_cases hz0 : lv = 0
    · subst hz0
      have HG : Hid (n = l1.length ∧ n ≤ cc ∧ n ≤ 39 ∧ FlAt w1.heap.size ao l1 w1 ∧ TkAt w lg nx sq bo k c w1) := Lib.hid ⟨by rw [HF1.out.1 rfl]; exact HN.out, HCC.out, hn39, by rw [HF1.out.1 rfl]; exact HFL.out, HT1.out⟩
      go_wp2_with fail
      go_meet
      exact ⟨ao, n, cc, rfl, HG⟩
    · have hz1 : 0 < lv := by omega
      have HF2 := Lib.hid (HF1.out.2 hz0)
      have HPOS : Hid (0 < l0.length) := Lib.hid (by rw [← HN.out]; exact hn1)
      obtain ⟨a, rfl⟩ := HFL.out.there HPOS.out
      obtain ⟨f, hf⟩ : ∃ f, l0[0]? = some f := ⟨_, List.getElem?_eq_getElem HPOS.out⟩
      have hc0 := (HFL.out.cells a rfl HPOS.out).2 0 f hf
      rw [add_zero6] at hc0
      obtain ⟨c0, c1, c2, c3, c4, c5⟩ := hc0
      have HF0 := Lib.hid hf
      have HY := Lib.hid (heap_alloc_new w1 (.cells #[.int .i64 f.num, .int .i64 f.lvl, .string f.fst, .string f.lst, .int .i64 f.cnt, .int .i64 f.sz] 60))
      have HB1 := Lib.hid ((Below.refl w1.heap.size w1).alloc (Nat.le_refl _) (.cells #[.int .i64 f.num, .int .i64 f.lvl, .string f.fst, .string f.lst, .int .i64 f.cnt, .int .i64 f.sz] 60))
      have HE0 : Hid (eldF (l0.take (max 0 1)) = [f]) := Lib.hid (by
        cases l0 with
        | nil => simp at hf
        | cons x t => simp at hf; subst hf; simp [eldF])
      have k0 : (0 : Int) < (n : Int) := by omega
      clear hf hz0 HF1
      obtain ⟨y, hy⟩ : ∃ y, y = w1.heap.size := ⟨_, rfl⟩
      have HYY := Lib.hid hy
      go_upto_region 9 with fail
      rw [← hy]
      refine wp_letter (fun W => Below w1.heap.size w1 W ∧ W.heap[y]? = some (.cells #[.int .i64 f.num, .int .i64 f.lvl, .string f.fst, .string f.lst, .int .i64 f.cnt, .int .i64 f.sz] 60 (0, 0))) ⟨HB1.out, by rw [hy]; exact HY.out⟩ ?_
      clear hy HB1 HY c0 c1 c2 c3 c4 c5
      rintro w2 ⟨hb2, hy2⟩
      have HB2 := Lib.hid hb2
      have HY2 := Lib.hid hy2
      clear hb2 hy2
      go_loopw [34] (fun i wr => ∃ (j : Nat) (e : Fl), j ≤ n ∧ i = .int .i64 j ∧ Hid (wr.heap[y]? = some (.cells #[.int .i64 e.num, .int .i64 e.lvl, .string e.fst, .string e.lst, .int .i64 e.cnt, .int .i64 e.sz] 60 (0, 0))) ∧ Hid (eldF (l0.take (max j 1)) = [e]) ∧ Hid (Below w1.heap.size w1 wr)) (fun i _ => n - (intOf i).toNat)
      case atStart => exact ⟨0, f, by omega, rfl, HY2, HE0, HB2⟩
      case round =>
        obtain ⟨j, e, hj, rfl, HY, HE, HB⟩ := hrel
        by_cases hlt : j < n
        · obtain ⟨g, hg⟩ : ∃ f, l0[j]? = some f := ⟨_, List.getElem?_eq_getElem (by rw [← HN.out]; exact hlt)⟩
          have hgc := (HFL.out.cells a rfl HPOS.out).2 j g hg
          obtain ⟨c0, c1, c2, c3, c4, c5⟩ := hgc.under (World.block_lt_of_cell? _ _ hgc.1) HB.out
          have HG := Lib.hid hg
          have HNW := Lib.hid (six_cells (heap_alloc_new wr (.cells #[.int .i64 g.num, .int .i64 g.lvl, .string g.fst, .string g.lst, .int .i64 g.cnt, .int .i64 g.sz] 60)))
          have HB3 := Lib.hid (HB.out.alloc HB.out.size (.cells #[.int .i64 g.num, .int .i64 g.lvl, .string g.fst, .string g.lst, .int .i64 g.cnt, .int .i64 g.sz] 60))
          have HY3 := Lib.hid ((((Below.refl wr.heap.size wr).alloc (Nat.le_refl _) (.cells #[.int .i64 g.num, .int .i64 g.lvl, .string g.fst, .string g.lst, .int .i64 g.cnt, .int .i64 g.sz] 60)).block y (lt_of_heap HY.out)).trans HY.out)
          have HST := Lib.hid (eldF_take HF0.out HE.out hg)
          clear hg hgc
          obtain ⟨gn, gv, gf, ge, gc, gz⟩ := g
          obtain ⟨en, ev, ef, ee, ec, ez⟩ := e
          dsimp only at c0 c1 c2 c3 c4 c5 HNW HB3 HY3 HST
          have hj1 : j + 1 ≤ n := hlt
          go_upto_region 11 with fail
          refine wp_letter (fun W => (Below w1.heap.size w1 W ∧ W.heap[y]? = some (.cells #[.int .i64 en, .int .i64 ev, .string ef, .string ee, .int .i64 ec, .int .i64 ez] 60 (0, 0))) ∧ W.cell? ⟨wr.heap.size, 0, none⟩ = some (.int .i64 gn) ∧ W.cell? ⟨wr.heap.size, 1, none⟩ = some (.int .i64 gv) ∧ W.cell? ⟨wr.heap.size, 2, none⟩ = some (.string gf) ∧ W.cell? ⟨wr.heap.size, 3, none⟩ = some (.string ge) ∧ W.cell? ⟨wr.heap.size, 4, none⟩ = some (.int .i64 gc) ∧ W.cell? ⟨wr.heap.size, 5, none⟩ = some (.int .i64 gz)) ⟨⟨HB3.out, HY3.out⟩, HNW.out⟩ ?_
          clear HB3 HY3 HNW c0 c1 c2 c3 c4 c5 HB HY
          rintro w3 ⟨⟨hb3, hy3⟩, e0, e1, e2, e3, e4, e5⟩
          have HB3 := Lib.hid hb3
          have HY3 := Lib.hid hy3
          obtain ⟨y0, y1, y2, y3, y4, y5⟩ := six_cells hy3
          have q0 : w3.frozen? ⟨y, 0, none⟩ = false := free_blk hy3 0
          have q1 : w3.frozen? ⟨y, 1, none⟩ = false := free_blk hy3 1
          have q2 : w3.frozen? ⟨y, 2, none⟩ = false := free_blk hy3 2
          have q3 : w3.frozen? ⟨y, 3, none⟩ = false := free_blk hy3 3
          have q4 : w3.frozen? ⟨y, 4, none⟩ = false := free_blk hy3 4
          have q5 : w3.frozen? ⟨y, 5, none⟩ = false := free_blk hy3 5
          have HYL := Lib.hid (lt_of_heap hy3)
          clear hb3 hy3
          by_cases hless : gn < en
          · have HST2 : Hid (eldF (l0.take (max (j + 1) 1)) = [⟨gn, gv, gf, ge, gc, gz⟩]) := Lib.hid (by rw [HST.out, if_pos hless])
            go_wp2_with fail
            go_roundw
            case rel => exact ⟨j + 1, ⟨gn, gv, gf, ge, gc, gz⟩, hj1, by go_num, Lib.hid (six_set w3 y _ _ _ _ _ _ _ HY3.out _ _ _ _ _ _), HST2, Lib.hid (six_bel HB3.out y (by rw [HYY.out]; exact Nat.le_refl _) _ _ _ _ _ _)⟩
            case measure => simp [intOf]; omega
          · have HST2 : Hid (eldF (l0.take (max (j + 1) 1)) = [⟨en, ev, ef, ee, ec, ez⟩]) := Lib.hid (by rw [HST.out, if_neg hless])
            go_wp2_with fail
            go_roundw
            case rel => exact ⟨j + 1, ⟨en, ev, ef, ee, ec, ez⟩, hj1, by go_num, HY3, HST2, HB3⟩
            case measure => simp [intOf]; omega
        · obtain rfl : j = n := by omega
          have HL1 : Hid (l1 = [e]) := Lib.hid (by
            have := HE.out
            rw [show max j 1 = j from by omega, List.take_of_length_le (by rw [HN.out]; exact Nat.le_refl _)] at this
            rw [HF2.out, this])
          obtain ⟨y0, y1, y2, y3, y4, y5⟩ := six_cells HY.out
          have H6 := Lib.hid (six_cells (heap_alloc_new wr (.cells #[.int .i64 e.num, .int .i64 e.lvl, .string e.fst, .string e.lst, .int .i64 e.cnt, .int .i64 e.sz] 60)))
          have HT2 := Lib.hid ((HT1.out.next HB.out).next ((Below.refl wr.heap.size wr).alloc (Nat.le_refl _) (.cells #[.int .i64 e.num, .int .i64 e.lvl, .string e.fst, .string e.lst, .int .i64 e.cnt, .int .i64 e.sz] 60)))
          obtain ⟨en, ev, ef, ee, ec, ez⟩ := e
          dsimp only at y0 y1 y2 y3 y4 y5 H6 HT2
          go_wp2_with fail
          go_meet
          refine ⟨some ⟨wr.heap.size, 0, none⟩, 1, 1, rfl, Lib.hid ⟨by rw [HL1.out]; rfl, Nat.le_refl _, by omega, ?_, HT2.out⟩⟩
          rw [HL1.out]
          refine ⟨fun _ => ⟨_, rfl⟩, fun a ha _ => ?_⟩
          cases ha
          refine ⟨by simp, fun i f hf => ?_⟩
          cases i with
          | zero => simp at hf; subst hf; exact H6.out
          | succ i => simp at hf
  case rest =>
    obtain ⟨va, n1, vc, rfl, HG⟩ := hcut
    have CS : Hid (Calls Try.prog 27 #[.slice va n1 vc] wc fun e w' => e = .returned (.tuple #[.string s, .string t]) ∧ Below wc.heap.size wc w') := Lib.hid (by
      obtain ⟨g1, g2, g3, g4, g5⟩ := HG.out
      rw [HST0.out.1, HST0.out.2, g1]
      exact span_any g4 (Nat.le_refl _) (by omega) (by omega))
    clear HFL HCC HN HF1 HT1
    go_upto_region 16 with (go_at_call 27; (with_reducible refine CS.out.mono ?_); rintro e w2 ⟨rfl, hb⟩; have HT2 := Lib.hid (HG.out.2.2.2.2.next hb); have HB2 := Lib.hid hb; clear hb CS)
    obtain ⟨v0, v1, v2, v3⟩ := four_cells HT2.out.ver
    go_upto_region 17 with (go_at_call 16; (with_reducible refine (CW2.out _ HT2.out.bel).mono ?_); rintro e w3 ⟨⟨wa, wc2, rfl, hcc, hfl, hne⟩, hb⟩; have HT3 := Lib.hid (HT2.out.next hb); have HB3 := Lib.hid (below_mono HB2.out hb (Nat.le_refl _)); have HW := Lib.hid (And.intro hcc hfl); clear hb hcc hfl hne v0 v1 v2 v3 CW2 HT2 HB2)
    obtain ⟨m2, hm2⟩ : ∃ m, m = l2.length := ⟨_, rfl⟩
    have CN1 : Hid (∀ W, Below wc.heap.size wc W → Calls Try.prog 32 #[.slice va n1 vc] W fun e w' => GotI W (l1.map Fl.num) e w' ∧ Below W.heap.size W w') := Lib.hid fun W hW => by
      obtain ⟨g1, g2, g3, g4, g5⟩ := HG.out
      rw [g1]
      exact numbers_any (g4.under hW) hW.size (by omega) (by omega)
    have CN2 : Hid (∀ W, Below w3.heap.size w3 W → Calls Try.prog 32 #[.slice wa m2 wc2] W fun e w' => GotI W (l2.map Fl.num) e w' ∧ Below W.heap.size W w') := Lib.hid fun W hW => by
      rw [hm2]
      exact numbers_any (HW.out.2.under hW) hW.size HW.out.1 HL39.out
    have HM2 := Lib.hid hm2
    rw [← hm2]
    clear hm2 HG HW HST0
    have HZL := Lib.hid (lt_of_heap HT3.out.tsk)
    by_cases hz1 : 0 < lv
    · have HMV : Hid ((decide (0 < lv) && decide (l2.length = 0)) = ((m2 : Int) == 0)) := Lib.hid (by
        rw [← HM2.out]
        by_cases h : m2 = 0 <;> simp [hz1, h])
      go_wp2_with (go_at_call 32; (first | ((with_reducible refine (CN1.out _ HB3.out).mono ?_); rintro e w4 ⟨⟨fa, fc, rfl, hfc, hfv, hfn⟩, hb⟩; have HB4 := Lib.hid hb; have HFA := Lib.hid (And.intro hfc (And.intro hfv hfn)); clear hb hfc hfv hfn CN1) | ((with_reducible refine (CN2.out _ HB4.out).mono ?_); rintro e w5 ⟨⟨ia, ic, rfl, hic, hiv, hin⟩, hb⟩; have HB5 := Lib.hid hb; have HIA := Lib.hid (And.intro hic (And.intro hiv hin)); have HT5 := Lib.hid ((HT3.out.next HB4.out).next hb); have bb := HT5.out.tsk; rw [← HZ.out] at bb; have d0 : w5.cell? ⟨z, 0, none⟩ = some (.int .i64 0) := cell_blk bb 0; have d1 : w5.cell? ⟨z, 1, none⟩ = some (.slice none 0 0) := cell_blk bb 1; have d2 : w5.cell? ⟨z, 2, none⟩ = some (.slice none 0 0) := cell_blk bb 2; have d3 : w5.cell? ⟨z, 3, none⟩ = some (.bool false) := cell_blk bb 3; have p0 : w5.frozen? ⟨z, 0, none⟩ = false := free_blk bb 0; have p1 : w5.frozen? ⟨z, 1, none⟩ = false := free_blk bb 1; have p2 : w5.frozen? ⟨z, 2, none⟩ = false := free_blk bb 2; have p3 : w5.frozen? ⟨z, 3, none⟩ = false := free_blk bb 3; have HL := Lib.hid (lt_of_heap bb); clear hb hic hiv hin CN2 bb)))
      all_goals exact bodyPost_ret (v := .tuple #[.agg #[.int .i64 lv, .slice fa l1.length fc, .slice ia l2.length ic, .bool ((m2 : Int) == 0)], .bool true]) (by simp [results, Try.results20, go_sem, d0, d1, d2, d3, p0, p1, p2, p3, HL.out]) rfl ⟨⟨fa, fc, ia, ic, by first | (rw [HMV.out]; simp) | (have h9 : ¬ 0 < lv := (by omega); simp [h9]), HFA.out.1, HIA.out.1, set4 ((HFA.out.2.1.under HB5.out).more HB5.out.size) (fun a ha => by have := HFA.out.2.2 a ha; have := HZL.out; have := HZ.out; omega) _ _ _ _, set4 HIA.out.2.1 (fun a ha => by have := HIA.out.2.2 a ha; have := HB4.out.size; have := HZL.out; have := HZ.out; omega) _ _ _ _, fun a ha => by have := HFA.out.2.2 a ha; have := HT3.out.bel.size; omega, fun a ha => by have := HIA.out.2.2 a ha; have := HB4.out.size; have := HT3.out.bel.size; omega⟩, (((HT5.out.bel.setCell (p := ⟨z, 0, none⟩) (by have := HZ.out; simp; omega) _).setCell (p := ⟨z, 1, none⟩) (by have := HZ.out; simp; omega) _).setCell (p := ⟨z, 2, none⟩) (by have := HZ.out; simp; omega) _).setCell (p := ⟨z, 3, none⟩) (by have := HZ.out; simp; omega) _⟩
    · have HMV : Hid ((decide (0 < lv) && decide (l2.length = 0)) = false) := Lib.hid (by simp [hz1])
      go_wp2_with (go_at_call 32; (first | ((with_reducible refine (CN1.out _ HB3.out).mono ?_); rintro e w4 ⟨⟨fa, fc, rfl, hfc, hfv, hfn⟩, hb⟩; have HB4 := Lib.hid hb; have HFA := Lib.hid (And.intro hfc (And.intro hfv hfn)); clear hb hfc hfv hfn CN1) | ((with_reducible refine (CN2.out _ HB4.out).mono ?_); rintro e w5 ⟨⟨ia, ic, rfl, hic, hiv, hin⟩, hb⟩; have HB5 := Lib.hid hb; have HIA := Lib.hid (And.intro hic (And.intro hiv hin)); have HT5 := Lib.hid ((HT3.out.next HB4.out).next hb); have bb := HT5.out.tsk; rw [← HZ.out] at bb; have d0 : w5.cell? ⟨z, 0, none⟩ = some (.int .i64 0) := cell_blk bb 0; have d1 : w5.cell? ⟨z, 1, none⟩ = some (.slice none 0 0) := cell_blk bb 1; have d2 : w5.cell? ⟨z, 2, none⟩ = some (.slice none 0 0) := cell_blk bb 2; have d3 : w5.cell? ⟨z, 3, none⟩ = some (.bool false) := cell_blk bb 3; have p0 : w5.frozen? ⟨z, 0, none⟩ = false := free_blk bb 0; have p1 : w5.frozen? ⟨z, 1, none⟩ = false := free_blk bb 1; have p2 : w5.frozen? ⟨z, 2, none⟩ = false := free_blk bb 2; have p3 : w5.frozen? ⟨z, 3, none⟩ = false := free_blk bb 3; have HL := Lib.hid (lt_of_heap bb); clear hb hic hiv hin CN2 bb)))
      all_goals exact bodyPost_ret (v := .tuple #[.agg #[.int .i64 lv, .slice fa l1.length fc, .slice ia l2.length ic, .bool false], .bool true]) (by simp [results, Try.results20, go_sem, d0, d1, d2, d3, p0, p1, p2, p3, HL.out]) rfl ⟨⟨fa, fc, ia, ic, by first | (rw [HMV.out]; simp) | (have h9 : ¬ 0 < lv := (by omega); simp [h9]), HFA.out.1, HIA.out.1, set4 ((HFA.out.2.1.under HB5.out).more HB5.out.size) (fun a ha => by have := HFA.out.2.2 a ha; have := HZL.out; have := HZ.out; omega) _ _ _ _, set4 HIA.out.2.1 (fun a ha => by have := HIA.out.2.2 a ha; have := HB4.out.size; have := HZL.out; have := HZ.out; omega) _ _ _ _, fun a ha => by have := HFA.out.2.2 a ha; have := HT3.out.bel.size; omega, fun a ha => by have := HIA.out.2.2 a ha; have := HB4.out.size; have := HT3.out.bel.size; omega⟩, (((HT5.out.bel.setCell (p := ⟨z, 0, none⟩) (by have := HZ.out; simp; omega) _).setCell (p := ⟨z, 1, none⟩) (by have := HZ.out; simp; omega) _).setCell (p := ⟨z, 2, none⟩) (by have := HZ.out; simp; omega) _).setCell (p := ⟨z, 3, none⟩) (by have := HZ.out; simp; omega) _⟩
end Go.Proofs.Ythodlkacfcnhnaa
