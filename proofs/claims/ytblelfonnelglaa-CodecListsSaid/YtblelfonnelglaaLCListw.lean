/- The law CodecLists walked. -/
import Derived.Test.YtblelfonnelglaaLCLists
namespace Go.Proofs.Ytblelfonnelglaa
open Go.RowKit
set_option linter.unusedSimpArgs false
set_option linter.unusedVariables false

theorem below_le {B B0 : Nat} {w w' : World} (h : Below B w w') (hb : B0 ≤ B) : Below B0 w w' := ⟨h.os, h.tape, h.output, h.size, fun k hk => h.block k (by omega)⟩
set_option maxRecDepth 100000 in
set_option maxHeartbeats 4000000 in
theorem codecLists_walk (ao bo : Option Addr) (cap cap' : Nat) (l : List ByteArray) (m : List Int) (hl : ∀ x ∈ l, x.size ≤ maxLen) (hln : l.length ≤ maxLen) (hmn : m.length ≤ maxLen) (hm : ∀ x ∈ m, -9223372036854775808 ≤ x ∧ x ≤ 9223372036854775807) (most : Int) (hm1 : -9223372036854775808 ≤ most) (hm2 : most ≤ 9223372036854775807) (w : World)
    (ha : SAt w.heap.size ao (strs l) w) (hb : SAt w.heap.size bo (ints m) w) :
    Calls Try.prog 6 #[.slice ao l.length cap, .slice bo m.length cap', .int .i64 most] w fun e w' => e = .returned (.bool true) ∧ Below w.heap.size w w' := by
  have HA := Lib.hid ha
  have HB := Lib.hid hb
  have HM := Lib.hid hm
  unfold maxLen at hln hmn
  obtain ⟨nl, hnl⟩ : ∃ n : Nat, n = l.length := ⟨_, rfl⟩
  obtain ⟨nm, hnm⟩ : ∃ n : Nat, n = m.length := ⟨_, rfl⟩
  have HNL := Lib.hid hnl
  have HNM := Lib.hid hnm
  have HG : Hid (Calls Try.prog 32 #[.slice ao nl cap] w fun e w' => GreatPost nl l e ∧ w = w') := Lib.hid (by rw [hnl]; exact great_any ao cap l hl (by unfold maxLen; omega) w.heap.size w ha)
  rw [← hnl, ← hnm]
  rw [← hnl] at hln
  rw [← hnm] at hmn
  clear ha hb hm hl hnl hnm
  go_enter Try.func6, Try.ntmps6
  go_wp2_with fail
  refine (HG.out).mono ?_
  rintro e w' ⟨⟨g, rfl, hg⟩, rfl⟩
  have HGG := Lib.hid hg
  clear hg
  cases g with
  | true =>
    go_wp2_with (go_at_call 10; refine (awake_any _).mono ?_; rintro e w11 ⟨rfl, h11⟩)
    go_ret
    exact ⟨rfl, h11⟩
  | false =>
    by_cases hm100 : nm ≤ 100
    · obtain ⟨hl100, hsz⟩ := HGG.out rfl
      have HSZ := Lib.hid hsz
      have hsz0 := hsz
      clear hsz
      have fl := lens_txt l hsz0
      have fm := lens_int m HM.out
      have HFL := Lib.hid fl
      have HFM := Lib.hid fm
      clear fl fm hsz0
      have P1 : Hid (∀ w3 : World, w3 = twoW w → Calls Try.prog 33 #[.pointer (some ⟨w.heap.size, 0, none⟩), .slice ao nl cap] w3 fun e w' => e = .returned (.tuple #[]) ∧ WrB (twoW w).heap.size w.heap.size (grp nl ++ flat l) w' ∧ Beside (twoW w).heap.size w.heap.size (twoW w) w') := Lib.hid (by
        rintro w3 rfl
        have := putsPutTexts w.heap.size [] ao cap l HSZ.out (by simp) (by rw [← HNL.out]; omega) (twoW w) (twoW w).heap.size w.heap.size (by rw [twoW_size]; omega) (Nat.le_refl _) (Nat.le_refl _) (WrB.of_nil (twoW_fst w)) (HA.out.under (twoW_below w))
        rw [HNL.out]
        simpa using this)
      go_wp2_with fail
      refine (P1.out _ rfl).mono ?_
      rintro e w3 ⟨rfl, h3, k3⟩
      have H3 := Lib.hid h3
      have K3 := Lib.hid k3
      have B3 := Lib.hid ((twoW_below w).trans (k3.below (by rw [twoW_size]; omega) (Nat.le_refl _)))
      have S3 := Lib.hid (show w3.heap[w.heap.size + 1]? = _ from (k3.block (w.heap.size + 1) (by rw [twoW_size]; omega) (by omega)).trans (twoW_snd w))
      have Z3 := Lib.hid (show w.heap.size + 2 ≤ w3.heap.size from by rw [← twoW_size]; exact k3.size)
      clear h3 k3
      have P2 : Hid (Calls Try.prog 34 #[.pointer (some ⟨w.heap.size + 1, 0, none⟩), .slice bo nm cap'] w3 fun e w' => e = .returned (.tuple #[]) ∧ WrB w3.heap.size (w.heap.size + 1) (grp nm ++ flatI m) w' ∧ Beside w3.heap.size (w.heap.size + 1) w3 w') := Lib.hid (by
        have := putsPutInts (w.heap.size + 1) [] bo cap' m HM.out (by simp) (by rw [← HNM.out]; omega) w3 w3.heap.size w.heap.size (by have := Z3.out; omega) (by omega) (Nat.le_refl _) (WrB.of_nil S3.out) (HB.out.under B3.out)
        rw [HNM.out]
        simpa using this)
      go_wp2_with fail
      refine (P2.out).mono ?_
      rintro e w4 ⟨rfl, h4, k4⟩
      have H4 := Lib.hid h4
      have H4' := Lib.hid (H3.out.other k4 (by omega) (by rw [twoW_size]; omega))
      have B4 := Lib.hid (B3.out.trans (k4.below (by have := Z3.out; omega) (by omega)))
      have Z4 := Lib.hid (Nat.le_trans Z3.out k4.size)
      clear h4 k4
      obtain ⟨tl, htl⟩ : ∃ t : ByteArray, t = ⟨(grp nl ++ flat l).toArray⟩ := ⟨_, rfl⟩
      obtain ⟨tm, htm⟩ : ∃ t : ByteArray, t = ⟨(grp nm ++ flatI m).toArray⟩ := ⟨_, rfl⟩
      have Y1 : Hid (∀ w5 : World, WrB (twoW w).heap.size w.heap.size (grp nl ++ flat l) w5 → Calls Try.prog 21 #[.pointer (some ⟨w.heap.size, 0, none⟩)] w5 fun e w' => e = .returned (.string tl) ∧ w5 = w') := Lib.hid (by rw [htl]; exact fun w5 h => vbytes_any _ _ _ w5 h)
      have Y2 : Hid (∀ w5 : World, WrB w3.heap.size (w.heap.size + 1) (grp nm ++ flatI m) w5 → Calls Try.prog 21 #[.pointer (some ⟨w.heap.size + 1, 0, none⟩)] w5 fun e w' => e = .returned (.string tm) ∧ w5 = w') := Lib.hid (by rw [htm]; exact fun w5 h => vbytes_any _ _ _ w5 h)
      have R1 : Hid (∀ w5 : World, Below w.heap.size w w5 → Calls Try.prog 35 #[.slice ao nl cap] w5 fun e w' => e = .returned (.string tl) ∧ Below w5.heap.size w5 w') := Lib.hid (by
        rw [htl, HNL.out]; exact fun w5 k => refS ao cap l HSZ.out (by rw [← HNL.out]; omega) w5 ((HA.out.under k).mono k.size))
      have R2 : Hid (∀ w5 : World, Below w.heap.size w w5 → Calls Try.prog 36 #[.slice bo nm cap'] w5 fun e w' => e = .returned (.string tm) ∧ Below w5.heap.size w5 w') := Lib.hid (by
        rw [htm, HNM.out]; exact fun w5 k => refI bo cap' m HM.out (by rw [← HNM.out]; omega) w5 ((HB.out.under k).mono k.size))
      have HTL := Lib.hid htl
      have HTM := Lib.hid htm
      clear htl htm
      go_wp2_with fail
      refine (Y1.out _ H4'.out).mono ?_
      rintro e w' ⟨rfl, rfl⟩
      go_wp2_with fail
      refine (R1.out _ B4.out).mono ?_
      rintro e w5 ⟨rfl, k5⟩
      have B5 := Lib.hid (below_mono B4.out k5 (Nat.le_refl _))
      have X5 := Lib.hid (H4'.out.keep k5)
      have V5 := Lib.hid (H4.out.keep k5)
      clear k5
      go_wp2_with fail
      refine (Y2.out _ V5.out).mono ?_
      rintro e w' ⟨rfl, rfl⟩
      go_wp2_with fail
      refine (R2.out _ B5.out).mono ?_
      rintro e w6 ⟨rfl, k6⟩
      have B6 := Lib.hid (below_mono B5.out k6 (Nat.le_refl _))
      have X6 := Lib.hid (X5.out.keep k6)
      have V6 := Lib.hid (V5.out.keep k6)
      clear k6
      go_wp2_with fail
      refine (Y1.out _ X6.out).mono ?_
      rintro e w' ⟨rfl, rfl⟩
      go_wp2_with fail
      refine (read_new tl _).mono ?_
      rintro e w7 ⟨rfl, r7, k7, l7⟩
      have Q7 := Lib.hid r7
      have B7 := Lib.hid (below_mono B6.out k7 (Nat.le_refl _))
      have V7 := Lib.hid (V6.out.keep k7)
      have L7 := Lib.hid l7
      clear r7 k7 l7
      go_wp2_with fail
      refine (Y2.out _ V7.out).mono ?_
      rintro e w' ⟨rfl, rfl⟩
      go_wp2_with fail
      refine (read_new tm _).mono ?_
      rintro e w8 ⟨rfl, r8, k8, l8⟩
      have P8 := Lib.hid r8
      have Q8 := Lib.hid (show RdAt w6.heap.size tl false w8 from (k8.block _ L7.out).trans Q7.out)
      have B8 := Lib.hid (below_mono B7.out k8 (Nat.le_refl _))
      have L8 := Lib.hid l8
      clear r8 k8 l8
      have GT : Hid (Calls Try.prog 37 #[.pointer (some ⟨w6.heap.size, 0, none⟩), .int .i64 most] w8 (Got w6.heap.size nl (strs l) most w8)) := Lib.hid (by
        rw [HNL.out]
        exact got_texts _ l HSZ.out (by rw [← HNL.out]; omega) most hm1 hm2 w8 (by rw [← HNL.out, ← HTL.out]; exact Q8.out))
      have GI : Hid (∀ W, RdAt w7.heap.size tm false W → Calls Try.prog 38 #[.pointer (some ⟨w7.heap.size, 0, none⟩), .int .i64 most] W (Got w7.heap.size nm (ints m) most W)) := Lib.hid (fun W h => by
        rw [HNM.out]
        exact got_ints _ m HM.out (by rw [← HNM.out]; omega) most hm1 hm2 W (by rw [← HNM.out, ← HTM.out]; exact h))
      go_wp2_with fail
      refine (GT.out).mono ?_
      rintro e w9 ⟨k9, h9⟩
      have P9 := Lib.hid (show RdAt w7.heap.size tm false w9 from (k9.block _ L8.out (by have := L7.out; omega)).trans P8.out)
      have B9 := Lib.hid (B8.out.trans (k9.below (B0 := w.heap.size) B8.out.size B6.out.size))
      have Z9 := Lib.hid k9.size
      clear k9
      rcases h9 with ⟨t1, r9, a1, c1, rfl, s9, p9⟩ | ⟨t1, rfl, r9⟩
      · have R9 := Lib.hid r9
        have S9 := Lib.hid s9
        have HP9 := Lib.hid p9
        clear r9 s9 p9
        go_wp2_with fail
        refine (GI.out _ P9.out).mono ?_
        rintro e w10 ⟨k10, h10⟩
        have B10 := Lib.hid (B9.out.trans (k10.below (B0 := w.heap.size) B9.out.size B7.out.size))
        have R10 := Lib.hid (show RdAt w6.heap.size ⟨#[]⟩ false w10 from (k10.block _ (R9.out.lt) (by have := L7.out; omega)).trans R9.out)
        have S10 := Lib.hid ((S9.out.past HP9.out L8.out k10).mono k10.size)
        clear k10
        have D0 := Lib.hid (Below.refl w10.heap.size w10)
        rcases h10 with ⟨u1, q10, a2, c2, rfl, s10, p10⟩ | ⟨u1, rfl, q10⟩
        · have Q10 := Lib.hid q10
          have S11 := Lib.hid s10
          clear q10 s10 p10
          have C1 : Hid (∀ W, Below w10.heap.size w10 W → Calls Try.prog 39 #[.slice a1 nl c1, .slice ao nl cap] W fun e w' => e = .returned (.bool true) ∧ Below w10.heap.size w10 w') := Lib.hid (fun W k => by
            rw [HNL.out]
            exact (sameS a1 ao c1 cap l (by rw [← HNL.out]; omega) W w10.heap.size (S10.out.under k) (((HA.out.under B10.out).mono B10.out.size).under k)).mono fun e w' ⟨he, m, hm⟩ => ⟨he, by rw [hm]; exact below_drewN k m⟩)
          have C2 : Hid (∀ W, Below w10.heap.size w10 W → Calls Try.prog 31 #[.pointer (some ⟨w6.heap.size, 0, none⟩)] W fun e w' => e = .returned (.bool true) ∧ Below w10.heap.size w10 w') := Lib.hid (fun W k => by
            have h := end_good w6.heap.size ⟨#[]⟩ W ((k.block _ R10.out.lt).trans R10.out)
            rw [isEmpty_true (by rfl)] at h
            exact h.mono fun e w' ⟨he, hw⟩ => ⟨he, by rw [← hw]; exact k⟩)
          have C3 : Hid (∀ W, Below w10.heap.size w10 W → Calls Try.prog 40 #[.slice a2 nm c2, .slice bo nm cap'] W fun e w' => e = .returned (.bool true) ∧ Below w10.heap.size w10 w') := Lib.hid (fun W k => by
            rw [HNM.out]
            exact (sameI a2 bo c2 cap' m (by rw [← HNM.out]; omega) W w10.heap.size (S11.out.under k) (((HB.out.under B10.out).mono B10.out.size).under k)).mono fun e w' ⟨he, m, hm⟩ => ⟨he, by rw [hm]; exact below_drewN k m⟩)
          have C4 : Hid (∀ W, Below w10.heap.size w10 W → Calls Try.prog 31 #[.pointer (some ⟨w7.heap.size, 0, none⟩)] W fun e w' => e = .returned (.bool true) ∧ Below w10.heap.size w10 w') := Lib.hid (fun W k => by
            have h := end_good w7.heap.size ⟨#[]⟩ W ((k.block _ Q10.out.lt).trans Q10.out)
            rw [isEmpty_true (by rfl)] at h
            exact h.mono fun e w' ⟨he, hw⟩ => ⟨he, by rw [← hw]; exact k⟩)
          clear S9 HP9 R9 P9 GT GI
          go_wp2_with fail
          refine (C1.out _ D0.out).mono ?_
          rintro e x1 ⟨rfl, d1⟩
          have D1 := Lib.hid d1
          clear d1
          go_wp2_with fail
          refine (C2.out _ D1.out).mono ?_
          rintro e x2 ⟨rfl, d2⟩
          have D2 := Lib.hid d2
          clear d2
          go_wp2_with fail
          refine (C3.out _ D2.out).mono ?_
          rintro e x3 ⟨rfl, d3⟩
          have D3 := Lib.hid d3
          clear d3
          go_wp2_with fail
          refine (C4.out _ D3.out).mono ?_
          rintro e x4 ⟨rfl, d4⟩
          have D4 := Lib.hid d4
          clear d4
          go_wp2_with fail
          refine (awake_any _).mono ?_
          rintro e x5 ⟨rfl, d5⟩
          have D5 := Lib.hid (below_mono (B10.out.trans (below_le D4.out B10.out.size)) d5 (Nat.le_refl _))
          clear d5
          go_wp2_with fail
          go_ret
          exact ⟨rfl, D5.out⟩
        · have Q10 := Lib.hid q10
          have un : ¬ ((nm : Int) ≤ most) := by omega
          clear q10
          have C1 : Hid (∀ W, Below w10.heap.size w10 W → Calls Try.prog 39 #[.slice a1 nl c1, .slice ao nl cap] W fun e w' => e = .returned (.bool true) ∧ Below w10.heap.size w10 w') := Lib.hid (fun W k => by
            rw [HNL.out]
            exact (sameS a1 ao c1 cap l (by rw [← HNL.out]; omega) W w10.heap.size (S10.out.under k) (((HA.out.under B10.out).mono B10.out.size).under k)).mono fun e w' ⟨he, m, hm⟩ => ⟨he, by rw [hm]; exact below_drewN k m⟩)
          have C2 : Hid (∀ W, Below w10.heap.size w10 W → Calls Try.prog 31 #[.pointer (some ⟨w6.heap.size, 0, none⟩)] W fun e w' => e = .returned (.bool true) ∧ Below w10.heap.size w10 w') := Lib.hid (fun W k => by
            have h := end_good w6.heap.size ⟨#[]⟩ W ((k.block _ R10.out.lt).trans R10.out)
            rw [isEmpty_true (by rfl)] at h
            exact h.mono fun e w' ⟨he, hw⟩ => ⟨he, by rw [← hw]; exact k⟩)
          have C3 : Hid (∀ W, Below w10.heap.size w10 W → Calls Try.prog 26 #[.pointer (some ⟨w7.heap.size, 0, none⟩)] W fun e w' => e = .returned (.bool false) ∧ Below w10.heap.size w10 w') := Lib.hid (fun W k => by
            exact (good_any w7.heap.size ⟨#[]⟩ true W ((k.block _ Q10.out.lt).trans Q10.out)).mono fun e w' ⟨he, hw⟩ => ⟨he, by rw [← hw]; exact k⟩)
          clear S9 HP9 R9 P9 GT GI
          go_wp2_with fail
          refine (C1.out _ D0.out).mono ?_
          rintro e x1 ⟨rfl, d1⟩
          have D1 := Lib.hid d1
          clear d1
          go_wp2_with fail
          refine (C2.out _ D1.out).mono ?_
          rintro e x2 ⟨rfl, d2⟩
          have D2 := Lib.hid d2
          clear d2
          go_wp2_with fail
          refine (C3.out _ D2.out).mono ?_
          rintro e x3 ⟨rfl, d3⟩
          have D3 := Lib.hid d3
          clear d3
          go_wp2_with fail
          refine (awake_any _).mono ?_
          rintro e x4 ⟨rfl, d4⟩
          have D4 := Lib.hid (below_mono (B10.out.trans (below_le D3.out B10.out.size)) d4 (Nat.le_refl _))
          clear d4
          go_wp2_with fail
          go_ret
          exact ⟨rfl, D4.out⟩
      · have R9 := Lib.hid r9
        have tn : ¬ ((nl : Int) ≤ most) := by omega
        clear r9
        go_wp2_with fail
        refine (GI.out _ P9.out).mono ?_
        rintro e w10 ⟨k10, h10⟩
        have B10 := Lib.hid (B9.out.trans (k10.below (B0 := w.heap.size) B9.out.size B7.out.size))
        have R10 := Lib.hid (show RdAt w6.heap.size ⟨#[]⟩ true w10 from (k10.block _ (R9.out.lt) (by have := L7.out; omega)).trans R9.out)
        clear k10
        have D0 := Lib.hid (Below.refl w10.heap.size w10)
        rcases h10 with ⟨u1, q10, a2, c2, rfl, s10, p10⟩ | ⟨u1, rfl, q10⟩
        · have Q10 := Lib.hid q10
          have S11 := Lib.hid s10
          clear q10 s10 p10
          have C1 : Hid (∀ W, Below w10.heap.size w10 W → Calls Try.prog 26 #[.pointer (some ⟨w6.heap.size, 0, none⟩)] W fun e w' => e = .returned (.bool false) ∧ Below w10.heap.size w10 w') := Lib.hid (fun W k => by
            exact (good_any w6.heap.size ⟨#[]⟩ true W ((k.block _ R10.out.lt).trans R10.out)).mono fun e w' ⟨he, hw⟩ => ⟨he, by rw [← hw]; exact k⟩)
          have C3 : Hid (∀ W, Below w10.heap.size w10 W → Calls Try.prog 40 #[.slice a2 nm c2, .slice bo nm cap'] W fun e w' => e = .returned (.bool true) ∧ Below w10.heap.size w10 w') := Lib.hid (fun W k => by
            rw [HNM.out]
            exact (sameI a2 bo c2 cap' m (by rw [← HNM.out]; omega) W w10.heap.size (S11.out.under k) (((HB.out.under B10.out).mono B10.out.size).under k)).mono fun e w' ⟨he, m, hm⟩ => ⟨he, by rw [hm]; exact below_drewN k m⟩)
          have C4 : Hid (∀ W, Below w10.heap.size w10 W → Calls Try.prog 31 #[.pointer (some ⟨w7.heap.size, 0, none⟩)] W fun e w' => e = .returned (.bool true) ∧ Below w10.heap.size w10 w') := Lib.hid (fun W k => by
            have h := end_good w7.heap.size ⟨#[]⟩ W ((k.block _ Q10.out.lt).trans Q10.out)
            rw [isEmpty_true (by rfl)] at h
            exact h.mono fun e w' ⟨he, hw⟩ => ⟨he, by rw [← hw]; exact k⟩)
          clear R9 P9 GT GI
          go_wp2_with fail
          refine (C1.out _ D0.out).mono ?_
          rintro e x1 ⟨rfl, d1⟩
          have D1 := Lib.hid d1
          clear d1
          go_wp2_with fail
          refine (C3.out _ D1.out).mono ?_
          rintro e x2 ⟨rfl, d2⟩
          have D2 := Lib.hid d2
          clear d2
          go_wp2_with fail
          refine (C4.out _ D2.out).mono ?_
          rintro e x3 ⟨rfl, d3⟩
          have D3 := Lib.hid d3
          clear d3
          go_wp2_with fail
          refine (awake_any _).mono ?_
          rintro e x4 ⟨rfl, d4⟩
          have D4 := Lib.hid (below_mono (B10.out.trans (below_le D3.out B10.out.size)) d4 (Nat.le_refl _))
          clear d4
          go_wp2_with fail
          go_ret
          exact ⟨rfl, D4.out⟩
        · have Q10 := Lib.hid q10
          have un : ¬ ((nm : Int) ≤ most) := by omega
          clear q10
          have C1 : Hid (∀ W, Below w10.heap.size w10 W → Calls Try.prog 26 #[.pointer (some ⟨w6.heap.size, 0, none⟩)] W fun e w' => e = .returned (.bool false) ∧ Below w10.heap.size w10 w') := Lib.hid (fun W k => by
            exact (good_any w6.heap.size ⟨#[]⟩ true W ((k.block _ R10.out.lt).trans R10.out)).mono fun e w' ⟨he, hw⟩ => ⟨he, by rw [← hw]; exact k⟩)
          have C3 : Hid (∀ W, Below w10.heap.size w10 W → Calls Try.prog 26 #[.pointer (some ⟨w7.heap.size, 0, none⟩)] W fun e w' => e = .returned (.bool false) ∧ Below w10.heap.size w10 w') := Lib.hid (fun W k => by
            exact (good_any w7.heap.size ⟨#[]⟩ true W ((k.block _ Q10.out.lt).trans Q10.out)).mono fun e w' ⟨he, hw⟩ => ⟨he, by rw [← hw]; exact k⟩)
          clear R9 P9 GT GI
          go_wp2_with fail
          refine (C1.out _ D0.out).mono ?_
          rintro e x1 ⟨rfl, d1⟩
          have D1 := Lib.hid d1
          clear d1
          go_wp2_with fail
          refine (C3.out _ D1.out).mono ?_
          rintro e x2 ⟨rfl, d2⟩
          have D2 := Lib.hid d2
          clear d2
          go_wp2_with fail
          refine (awake_any _).mono ?_
          rintro e x3 ⟨rfl, d3⟩
          have D3 := Lib.hid (below_mono (B10.out.trans (below_le D2.out B10.out.size)) d3 (Nat.le_refl _))
          clear d3
          go_wp2_with fail
          go_ret
          exact ⟨rfl, D3.out⟩
    · go_wp2_with (go_at_call 10; refine (awake_any _).mono ?_; rintro e w11 ⟨rfl, h11⟩)
      go_ret
      exact ⟨rfl, h11⟩
end Go.Proofs.Ytblelfonnelglaa
