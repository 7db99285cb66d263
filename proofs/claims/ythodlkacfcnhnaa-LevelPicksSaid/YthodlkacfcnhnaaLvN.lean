/- Layer 15: the most pressing task, walked. Conditions: those written at each theorem. -/
import Derived.Test.YthodlkacfcnhnaaLvM
namespace Go.Proofs.Ythodlkacfcnhnaa
open Go.RowKit Go.Sort
set_option linter.unusedVariables false
set_option linter.unusedSimpArgs false
theorem heap_set2 {w : World} {y : Nat} {a b : Value} {T : TypeId} (hb : w.heap[y]? = some (.cells #[a, b] T (0, 0))) (x0 x1 : Value) :
    ((w.setCell ⟨y, 0, none⟩ x0).setCell ⟨y, 1, none⟩ x1).heap[y]? = some (.cells #[x0, x1] T (0, 0)) := by
  have hset : ∀ (W : World) (i : Nat) (ds : Array Value) (u : Value), W.heap[y]? = some (.cells ds T (0, 0)) → (W.setCell ⟨y, i, none⟩ u).heap[y]? = some (.cells (ds.setIfInBounds i u) T (0, 0)) := by
    intro W i ds u h
    simp [World.setCell, Array.getElem?_modify, h]
  exact hset _ 1 _ x1 (hset _ 0 _ x0 hb)
set_option maxRecDepth 100000 in
set_option maxHeartbeats 8000000 in
theorem pick_any {B : Nat} {lg nx sq : Int} {bo : Option Addr} {c : Nat} {L : List Fl} {w : World} (h : FlAt B bo L w) (hB : B ≤ w.heap.size) (hc : L.length ≤ c) (hl : L.length ≤ 39) (hs : Srt L) (hz : ∀ f ∈ L, 0 ≤ f.sz ∧ f.sz ≤ 1048576) (zr bs tm tb : Int) (t : Int × List Int × List Int × Bool × Bool) (ht : t = takeT L (pickM L (fitI zr 1 50) (fitI bs 1 1048576) (fitI tm 2 20))) :
    Calls Try.prog 22 #[verV lg nx sq bo L.length c, cfgV zr bs tm tb] w fun e w' => TaskIs w t.1 t.2.1 t.2.2.1 t.2.2.2.1 t.2.2.2.2 e w' ∧ Below w.heap.size w w' := by
  have CF := Lib.hid (Fit_any zr bs tm tb)
  have hp := fitI_in (n := zr) (lo := 1) (hi := 50) (by omega)
  have hq := fitI_in (n := bs) (lo := 1) (hi := 1048576) (by omega)
  have hr := fitI_in (n := tm) (lo := 2) (hi := 20) (by omega)
  obtain ⟨p, hp0⟩ : ∃ x, x = fitI zr 1 50 := ⟨_, rfl⟩
  obtain ⟨q, hq0⟩ : ∃ x, x = fitI bs 1 1048576 := ⟨_, rfl⟩
  obtain ⟨r, hr0⟩ : ∃ x, x = fitI tm 2 20 := ⟨_, rfl⟩
  obtain ⟨s, hs0⟩ : ∃ x, x = fitI tb 64 262144 := ⟨_, rfl⟩
  rw [← hp0, ← hq0, ← hr0, ← hs0] at CF
  rw [← hp0, ← hq0, ← hr0] at ht
  rw [← hp0] at hp
  rw [← hq0] at hq
  rw [← hr0] at hr
  clear hp0 hq0 hr0 hs0
  have CS : Hid (∀ n : Nat, n ≤ 3 → ∀ W, Below w.heap.size w W → Calls Try.prog 34 #[verV lg nx sq bo L.length c, cfgV p q r s, .int .i64 n] W fun e w' => e = .returned (.agg #[.int .i64 (scN L n), .int .i64 (scD p q r n)]) ∧ Below W.heap.size W w') := Lib.hid fun n hn W hW => score_any (h.under (hW.mono hB)) (by have := hW.size; omega) hc hl hs hz p q r s hq.1 hq.2 hr.1 hr.2 n hn
  have CT : Hid (∀ W, Below w.heap.size w W → Calls Try.prog 20 #[verV lg nx sq bo L.length c, .int .i64 (pickM L p q r)] W fun e w' => TaskIs W t.1 t.2.1 t.2.2.1 t.2.2.2.1 t.2.2.2.2 e w' ∧ Below W.heap.size W w') := Lib.hid fun W hW => by
    rw [ht]
    exact take_any (h.under (hW.mono hB)) (by have := hW.size; omega) hc hl hs _
  have HPI := Lib.hid (pickS_in hl hz hp.1 hp.2 hq.1 hq.2 hr.1 hr.2)
  have HNI := Lib.hid (scN_in hl hz)
  have HDI := Lib.hid (fun n hn => scD_in hp.1 hp.2 hq.1 hq.2 hr.1 hr.2 n hn)
  obtain ⟨lv, hlv⟩ : ∃ x, x = pickM L p q r := ⟨_, rfl⟩
  have HLV := Lib.hid hlv
  rw [← hlv] at CT
  obtain ⟨tl, tf, ti, tm', tok⟩ := t
  dsimp only at CT ⊢
  obtain ⟨k, hk⟩ : ∃ k, k = L.length := ⟨_, rfl⟩
  rw [← hk] at CS CT ⊢
  clear h hB hc hl hs hz ht hp hq hr hk hlv
  have HM := Lib.hid (PkAt.made w lg nx sq bo k c zr bs tm tb)
  obtain ⟨z, hz⟩ : ∃ z, z = w.heap.size := ⟨_, rfl⟩
  obtain ⟨y, hy⟩ : ∃ y, y = w.heap.size + 1 := ⟨_, rfl⟩
  obtain ⟨x, hx⟩ : ∃ x, x = w.heap.size + 2 := ⟨_, rfl⟩
  have HZ := Lib.hid (And.intro hz (And.intro hy hx))
  go_enter Try.func22, Try.ntmps22
  go_upto_region 1 with fail
  refine wp_letter (fun W => PkAt w lg nx sq bo k c zr bs tm tb W) HM.out ?_
  clear HM
  intro W hT
  have HT := Lib.hid hT
  rw [show w.heap.size + 1 + 1 = x from by omega, ← hy, ← hz]
  have bc := hT.cfg
  rw [← hy] at bc
  obtain ⟨u0, u1, u2, u3⟩ := four_cells bc
  clear hz hy hx hT bc
  go_upto_region 2 with (go_at_call 9; (with_reducible refine (CF.out _).mono ?_); rintro e w1 ⟨rfl, hb⟩; have HT1 := Lib.hid (HT.out.next hb); have bc := HT1.out.cfg; rw [← HZ.out.2.1] at bc; clear hb u0 u1 u2 u3 CF HT; obtain ⟨u0, u1, u2, u3⟩ := four_cells bc; have p0 : w1.frozen? ⟨y, 0, none⟩ = false := free_blk bc 0; have p1 : w1.frozen? ⟨y, 1, none⟩ = false := free_blk bc 1; have p2 : w1.frozen? ⟨y, 2, none⟩ = false := free_blk bc 2; have p3 : w1.frozen? ⟨y, 3, none⟩ = false := free_blk bc 3; have HL1 := Lib.hid (lt_of_heap bc); clear bc)
  clear u0 u1 u2 u3 p0 p1 p2 p3
  refine wp_letter (fun W => PkAt w lg nx sq bo k c p q r s W) (HT1.out.cfgSet HZ.out.2.1) ?_
  clear HT1 HL1
  intro w2 hT
  have HT2 := Lib.hid hT
  clear hT
  obtain ⟨b7, hb7⟩ : ∃ b, b = w2.heap.size := ⟨_, rfl⟩
  have HB7 := Lib.hid hb7
  have HR7 := Lib.hid (heap_alloc_new w2 (.cells #[.int .i64 1, .int .i64 1] 74))
  have HT3 := Lib.hid (HT2.out.next ((Below.refl w2.heap.size w2).alloc (Nat.le_refl _) (.cells #[.int .i64 1, .int .i64 1] 74)))
  have HB3 := Lib.hid ((Below.refl w2.heap.size w2).alloc (Nat.le_refl _) (.cells #[.int .i64 1, .int .i64 1] 74))
  go_upto_region 4 with fail
  rw [← hb7]
  refine wp_letter (fun W => Below w2.heap.size w2 W ∧ W.heap[b7]? = some (.cells #[.int .i64 1, .int .i64 1] 74 (0, 0))) ⟨HB3.out, by rw [hb7]; exact HR7.out⟩ ?_
  clear HB3 HT3 HR7 hb7
  rintro w3 ⟨hb3, hr3⟩
  have HB3 := Lib.hid hb3
  have HR3 := Lib.hid hr3
  clear hb3 hr3
  go_loopw [6, 15] (fun v i wr => ∃ (n : Nat) (best mn md : Int), n ≤ 4 ∧ i = .int .i64 n ∧ v = .int .i64 best ∧ Hid (pickS L p q r n = (best, mn, md)) ∧ Hid (wr.heap[b7]? = some (.cells #[.int .i64 mn, .int .i64 md] 74 (0, 0))) ∧ Hid (Below w2.heap.size w2 wr)) (fun _ i _ => 4 - (intOf i).toNat)
  case atStart => exact ⟨0, -1, 1, 1, by omega, rfl, rfl, Lib.hid rfl, HR3, HB3⟩
  case round =>
    obtain ⟨n, best, mn, md, hn, rfl, rfl, HE, HR, HB⟩ := hrel
    by_cases hlt : n < 4
    · have HTR := Lib.hid (HT2.out.next HB.out)
      have bc := HTR.out.cfg
      rw [← HZ.out.2.1] at bc
      obtain ⟨u0, u1, u2, u3⟩ := four_cells bc
      have bv := HTR.out.ver
      rw [← HZ.out.1] at bv
      obtain ⟨v0, v1, v2, v3⟩ := four_cells bv
      clear bc bv
      have CSN := CS.out n (by omega)
      have hni := HNI.out n
      have hdi := HDI.out n (by omega)
      have hpi := (HPI.out n hn).2
      rw [HE.out] at hpi
      dsimp only at hpi
      obtain ⟨N, hN⟩ : ∃ N, N = scN L n := ⟨_, rfl⟩
      obtain ⟨D, hD⟩ : ∃ N, N = scD p q r n := ⟨_, rfl⟩
      rw [← hN, ← hD] at CSN
      rw [← hN] at hni
      rw [← hD] at hdi
      have CSN2 := Lib.hid CSN
      have CR : Hid (∀ W, Calls Try.prog 35 #[.agg #[.int .i64 N, .int .i64 D], .agg #[.int .i64 mn, .int .i64 md]] W fun e w' => e = .returned (.tuple #[.int .i64 (Nu.rcmp N D mn md), .bool true]) ∧ Below W.heap.size W w') := Lib.hid fun W => (Nu.ratcmp_any N D mn md (by omega) (by omega) (by omega) (by omega) (by omega) (by omega) (by omega) (by omega) W).mono (by
        rintro e w' ⟨g, ok, rfl, h1, _, h3⟩
        obtain ⟨rfl, rfl⟩ := h1 ⟨by omega, by omega⟩
        exact ⟨rfl, h3⟩)
      obtain ⟨ρ, hρ⟩ : ∃ x, x = Nu.rcmp N D mn md := ⟨_, rfl⟩
      rw [← hρ] at CR
      have HST : Hid (pickS L p q r (n + 1) = if 0 < ρ ∨ (ρ = 0 ∧ best < 0) then ((n : Int), N, D) else (best, mn, md)) := Lib.hid (by
        show (if _ then _ else _) = _
        rw [HE.out, ← hN, ← hD]
        dsimp only
        rw [← hρ])
      clear CSN hni hdi hpi hN hD hρ
      go_upto_region 7 with (go_at_call 34; (with_reducible refine (CSN2.out _ HTR.out.bel).mono ?_); rintro e w4 ⟨rfl, hb⟩; have HB4 := Lib.hid (below_mono HB.out hb (Nat.le_refl _)); have HR4 := Lib.hid ((hb.block b7 (lt_of_heap HR.out)).trans HR.out); have HR9 := Lib.hid (heap_alloc_new w4 (.cells #[.int .i64 N, .int .i64 D] 74)); have HK := Lib.hid ((Below.refl w4.heap.size w4).alloc (Nat.le_refl _) (.cells #[.int .i64 N, .int .i64 D] 74)); clear hb v0 v1 v2 v3 u0 u1 u2 u3 CSN2 HB HR)
      obtain ⟨b9, hb9⟩ : ∃ b, b = w4.heap.size := ⟨_, rfl⟩
      rw [← hb9]
      have h79 : b7 < b9 := by rw [hb9]; exact lt_of_heap HR4.out
      refine wp_letter (fun W => (Below w2.heap.size w2 W ∧ W.heap[b7]? = some (.cells #[.int .i64 mn, .int .i64 md] 74 (0, 0))) ∧ W.heap[b9]? = some (.cells #[.int .i64 N, .int .i64 D] 74 (0, 0))) ⟨⟨below_mono HB4.out HK.out (Nat.le_refl _), (HK.out.block b7 (lt_of_heap HR4.out)).trans HR4.out⟩, by rw [hb9]; exact HR9.out⟩ ?_
      clear HB4 HR4 HR9 HK hb9 HTR
      rintro w5 ⟨⟨hb5, h7⟩, h9⟩
      have HB5 := Lib.hid hb5
      have H7 := Lib.hid h7
      have H9 := Lib.hid h9
      obtain ⟨a0, a1⟩ := two_cells h7
      obtain ⟨g0, g1⟩ := two_cells h9
      have H79 := Lib.hid h79
      clear hb5 h7 h9 h79
      go_upto_region 8 with (go_at_call 35; (with_reducible refine (CR.out _).mono ?_); rintro e w6 ⟨rfl, hb⟩; have HB6 := Lib.hid (below_mono HB5.out hb (Nat.le_refl _)); have H76 := Lib.hid ((hb.block b7 (lt_of_heap H7.out)).trans H7.out); have H96 := Lib.hid ((hb.block b9 (lt_of_heap H9.out)).trans H9.out); clear hb a0 a1 g0 g1 H7 H9 HB5 CR)
      obtain ⟨a0, a1⟩ := two_cells H76.out
      obtain ⟨g0, g1⟩ := two_cells H96.out
      have f0 : w6.frozen? ⟨b7, 0, none⟩ = false := free_blk H76.out 0
      have f1 : w6.frozen? ⟨b7, 1, none⟩ = false := free_blk H76.out 1
      have HL7 := Lib.hid (lt_of_heap H76.out)
      have hne79 : b7 ≠ b9 := by have := H79.out; omega
      have hn1 : n + 1 ≤ 4 := hlt
      by_cases hc1 : 0 < ρ
      · have HS2 : Hid (pickS L p q r (n + 1) = ((n : Int), N, D)) := Lib.hid (by rw [HST.out, if_pos (.inl hc1)])
        have hc2 : ¬ ρ = 0 := by omega
        have HW2 := Lib.hid (And.intro (heap_set2 (T := 74) H76.out (.int .i64 N) (.int .i64 D)) ((HB6.out.setCell (p := ⟨b7, 0, none⟩) (by rw [HB7.out]; exact Nat.le_refl _) (.int .i64 N)).setCell (p := ⟨b7, 1, none⟩) (by rw [HB7.out]; exact Nat.le_refl _) (.int .i64 D)))
        go_wp2_with fail
        go_region
        go_wp2_with fail
        go_roundw
        case rel => exact ⟨n + 1, _, N, D, hn1, by go_num, rfl, HS2, Lib.hid HW2.out.1, Lib.hid (by first | exact HW2.out.2 | exact HW2.out.2.drew)⟩
        case measure => simp [intOf]; omega
      · by_cases hc2 : ρ = 0
        · subst hc2
          by_cases hb0 : best < 0
          · have HS2 : Hid (pickS L p q r (n + 1) = ((n : Int), N, D)) := Lib.hid (by rw [HST.out, if_pos (.inr ⟨rfl, hb0⟩)])
            have HW2 := Lib.hid (And.intro (heap_set2 (T := 74) H76.out (.int .i64 N) (.int .i64 D)) ((HB6.out.setCell (p := ⟨b7, 0, none⟩) (by rw [HB7.out]; exact Nat.le_refl _) (.int .i64 N)).setCell (p := ⟨b7, 1, none⟩) (by rw [HB7.out]; exact Nat.le_refl _) (.int .i64 D)))
            go_wp2_with fail
            go_region
            go_wp2_with fail
            go_roundw
            case rel => exact ⟨n + 1, _, N, D, hn1, by go_num, rfl, HS2, Lib.hid HW2.out.1, Lib.hid (by first | exact HW2.out.2 | exact HW2.out.2.drew)⟩
            case measure => simp [intOf]; omega
          · have HS2 : Hid (pickS L p q r (n + 1) = (best, mn, md)) := Lib.hid (by rw [HST.out, if_neg (by rintro (h | ⟨_, h⟩); exact absurd h (by omega); exact hb0 h)])
            go_wp2_with fail
            go_roundw
            case rel => exact ⟨n + 1, best, mn, md, hn1, by go_num, rfl, HS2, H76, HB6⟩
            case measure => simp [intOf]; omega
        · have HS2 : Hid (pickS L p q r (n + 1) = (best, mn, md)) := Lib.hid (by rw [HST.out, if_neg (by rintro (h | ⟨h, _⟩); exact hc1 h; exact hc2 h)])
          go_wp2_with fail
          go_roundw
          case rel => exact ⟨n + 1, best, mn, md, hn1, by go_num, rfl, HS2, H76, HB6⟩
          case measure => simp [intOf]; omega
    · obtain rfl : n = 4 := by omega
      have hbl : best = lv := by
        rw [HLV.out]
        show best = (pickS L p q r 4).1
        rw [HE.out]
      subst hbl
      have HTR := Lib.hid (HT2.out.next HB.out)
      have bv := HTR.out.ver
      rw [← HZ.out.1] at bv
      obtain ⟨v0, v1, v2, v3⟩ := four_cells bv
      clear bv
      go_wp2_with (go_at_call 20; (with_reducible refine (CT.out _ HTR.out.bel).mono ?_); rintro e w4 ⟨⟨fa, fc, ia, ic, rfl, hfc, hic, hfv, hiv, hfn, hin⟩, hb⟩; have HT4 := Lib.hid (HTR.out.next hb); have HV := Lib.hid (And.intro hfc (And.intro hic (And.intro hfv (And.intro hiv (And.intro hfn hin))))); have bb := HT4.out.tsk; rw [← HZ.out.2.2] at bb; have d0 : w4.cell? ⟨x, 0, none⟩ = some (.int .i64 0) := cell_blk bb 0; have d1 : w4.cell? ⟨x, 1, none⟩ = some (.slice none 0 0) := cell_blk bb 1; have d2 : w4.cell? ⟨x, 2, none⟩ = some (.slice none 0 0) := cell_blk bb 2; have d3 : w4.cell? ⟨x, 3, none⟩ = some (.bool false) := cell_blk bb 3; have p0 : w4.frozen? ⟨x, 0, none⟩ = false := free_blk bb 0; have p1 : w4.frozen? ⟨x, 1, none⟩ = false := free_blk bb 1; have p2 : w4.frozen? ⟨x, 2, none⟩ = false := free_blk bb 2; have p3 : w4.frozen? ⟨x, 3, none⟩ = false := free_blk bb 3; have HL := Lib.hid (lt_of_heap bb); clear hb hfc hic hfv hiv hfn hin v0 v1 v2 v3 CT bb)
      have HXL := Lib.hid (lt_of_heap HTR.out.tsk)
      have HXS := Lib.hid (HTR.out.bel.size)
      exact bodyPost_ret (v := .tuple #[.agg #[.int .i64 tl, .slice fa tf.length fc, .slice ia ti.length ic, .bool tm'], .bool tok]) (by simp [results, Try.results22, go_sem, d0, d1, d2, d3, p0, p1, p2, p3, HL.out]) rfl ⟨⟨fa, fc, ia, ic, rfl, HV.out.1, HV.out.2.1, set4 HV.out.2.2.1 (fun a ha => by have := HV.out.2.2.2.2.1 a ha; have := HXL.out; have := HZ.out.2.2; omega) _ _ _ _, set4 HV.out.2.2.2.1 (fun a ha => by have := HV.out.2.2.2.2.2 a ha; have := HXL.out; have := HZ.out.2.2; omega) _ _ _ _, fun a ha => by have := HV.out.2.2.2.2.1 a ha; have := HXS.out; omega, fun a ha => by have := HV.out.2.2.2.2.2 a ha; have := HXS.out; omega⟩, (((HT4.out.bel.setCell (p := ⟨x, 0, none⟩) (by have := HZ.out.2.2; simp; omega) _).setCell (p := ⟨x, 1, none⟩) (by have := HZ.out.2.2; simp; omega) _).setCell (p := ⟨x, 2, none⟩) (by have := HZ.out.2.2; simp; omega) _).setCell (p := ⟨x, 3, none⟩) (by have := HZ.out.2.2; simp; omega) _⟩
end Go.Proofs.Ythodlkacfcnhnaa
