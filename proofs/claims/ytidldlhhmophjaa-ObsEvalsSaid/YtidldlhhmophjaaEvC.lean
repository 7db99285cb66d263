/- Layer 22: the document's Eval of a joint of two truths. Conditions: those written at each theorem. -/
import Derived.Test.YtidldlhhmophjaaEvB
namespace Go.Proofs.Ytidldlhhmophjaa
open Go.RowKit Go.PlainAid Go.Sort
set_option linter.unusedVariables false
set_option linter.unusedSimpArgs false
theorem can_n {v : Vl} (h : Can v) (hk : v.kind ≠ 1) : v.n = 0 := by
  rcases h with rfl | ⟨n, rfl⟩ | ⟨t, rfl⟩ | rfl
  · rfl
  · exact absurd rfl hk
  · rfl
  · rfl
set_option maxRecDepth 100000 in
set_option maxHeartbeats 16000000 in
theorem rjoined_17 {xn : Int} {xs : ByteArray} {a : Addr} {k : Nat} {day : Int} {fa : Option Addr} {fm fc : Nat} (v0 v1 : Vl) (w : World) {yo yn : Int} {ys : ByteArray} {co : Option Addr} {cm ck : Nat} {zo zn : Int} {zs : ByteArray} {co1 : Option Addr} {dm ck1 : Nat} (hcan0 : Can v0) (hcan1 : Can v1) (hk0 : v0.kind ≠ 1) (hk1 : v1.kind ≠ 1) (ha : a.block < w.heap.size)
    (hf0 : FourX w a (.int .i64 yo) (.int .i64 yn) (.string ys) (.slice co cm ck)) (hf1 : FourX w ⟨a.block, a.off + 4, none⟩ (.int .i64 zo) (.int .i64 zn) (.string zs) (.slice co1 dm ck1))
    (h0 : ∀ V, Below w.heap.size w V → Calls Try.prog 39 #[.agg #[.int .i64 yo, .int .i64 yn, .string ys, .slice co cm ck], .agg #[.int .i64 day, .slice fa fm fc]] V fun e w' => e = .returned (wdV v0) ∧ Below V.heap.size V w')
    (h1 : ∀ V, Below w.heap.size w V → Calls Try.prog 39 #[.agg #[.int .i64 zo, .int .i64 zn, .string zs, .slice co1 dm ck1], .agg #[.int .i64 day, .slice fa fm fc]] V fun e w' => e = .returned (wdV v1) ∧ Below V.heap.size V w') :
    Calls Try.prog 39 #[.agg #[.int .i64 17, .int .i64 xn, .string xs, .slice (some a) 2 k], .agg #[.int .i64 day, .slice fa fm fc]] w fun e w' => e = .returned (wdV (jnV false v0 v1)) ∧ Below w.heap.size w w' := by
  have GA := Lib.hid (rentry_made (.int .i64 17) (.int .i64 xn) (.string xs) (.slice (some a) 2 k) (.int .i64 day) (.slice fa fm fc) w)
  have HCAN0 := Lib.hid hcan0
  have HCAN1 := Lib.hid hcan1
  have HK0 := Lib.hid hk0
  have HK1 := Lib.hid hk1
  have C0 := Lib.hid h0
  have C1 := Lib.hid h1
  have HAB := Lib.hid ha
  have HC0 : Hid (∀ V, Below w.heap.size w V → FourX V a (.int .i64 yo) (.int .i64 yn) (.string ys) (.slice co cm ck)) := Lib.hid fun V hV => hf0.stay (hV.block _ ha)
  have HC1 : Hid (∀ V, Below w.heap.size w V → FourX V ⟨a.block, a.off + 4, none⟩ (.int .i64 zo) (.int .i64 zn) (.string zs) (.slice co1 dm ck1)) := Lib.hid fun V hV => hf1.stay (hV.block _ ha)
  obtain ⟨s0, hs0⟩ : ∃ r, r = wdS v0 := ⟨_, rfl⟩
  obtain ⟨n0, hn0⟩ : ∃ r, r = v0.n := ⟨_, rfl⟩
  have HN0 : Hid (n0 = 0) := Lib.hid (hn0.trans (can_n hcan0 hk0))
  have HW0 : Hid (wdV v0 = .agg #[.string s0, .int .i64 n0]) := Lib.hid (by rw [hs0, hn0])
  rw [HW0.out] at C0
  obtain ⟨s1, hs1⟩ : ∃ r, r = wdS v1 := ⟨_, rfl⟩
  obtain ⟨n1, hn1⟩ : ∃ r, r = v1.n := ⟨_, rfl⟩
  have HN1 : Hid (n1 = 0) := Lib.hid (hn1.trans (can_n hcan1 hk1))
  have HW1 : Hid (wdV v1 = .agg #[.string s1, .int .i64 n1]) := Lib.hid (by rw [hs1, hn1])
  rw [HW1.out] at C1
  have HS0 := Lib.hid hs0
  have HS1 := Lib.hid hs1
  have CT : Hid (∀ V, Calls Try.prog 65 #[.bool false] V fun e w' => e = .returned (.agg #[.string ⟨#[102]⟩, .int .i64 0]) ∧ Below V.heap.size V w') := Lib.hid fun V => rtruth_any false V
  clear hcan0 hcan1 hk0 hk1 h0 h1 hf0 hf1 ha hs0 hs1 hn0 hn1
  go_enter Try.func39, Try.ntmps39
  go_upto_region 1 with fail
  obtain ⟨W, hW⟩ : ∃ X, ((w.alloc (.cells #[.int .i64 17, .int .i64 xn, .string xs, .slice (some a) 2 k] 34)).alloc (.cells #[.int .i64 day, .slice fa fm fc] 58)).alloc (.cells #[.string ⟨#[]⟩, .int .i64 0] 69) = X := ⟨_, rfl⟩
  obtain ⟨g1, b1, b2, b3⟩ := GA.out W hW
  obtain ⟨z, hz⟩ : ∃ z, z = w.heap.size := ⟨_, rfl⟩
  rw [hW, ← hz]
  rw [← hz] at b1 b2 b3
  have HE0 : Hid (ErB z #[.int .i64 17, .int .i64 xn, .string xs, .slice (some a) 2 k] #[.int .i64 day, .slice fa fm fc] w W) := Lib.hid ⟨g1, b1, b2, b3, by omega⟩
  clear hW b1 b2 b3 g1 GA hz
  obtain ⟨c0, c1, c2, c3⟩ := quad HE0.out.ex
  go_upto_region 2 with fail
  go_cut [5] (fun p wx => ∃ z5 : Nat, p = .pointer (some ⟨z5, 0, none⟩) ∧ Hid (Below W.heap.size W wx ∧ wx.heap[z5]? = some (.cells #[.string ⟨#[102]⟩, .int .i64 0] 69 (0, 0))))
  case first =>
    as_aux_lemma =>
      go_wp2_with (go_at_call 65; (with_reducible refine (CT.out _).mono ?_); rintro e w2 ⟨rfl, hb⟩; have HB2 := Lib.hid hb; clear hb c0 c1 c2 c3; obtain ⟨⟨n0', n1'⟩, p0, p1⟩ := two_zero w2 (.string ⟨#[]⟩) (.int .i64 0) 69)
      clear n0' n1' p0 p1
      obtain ⟨W5, hW5⟩ : ∃ X, w2.alloc (.cells #[.string ⟨#[102]⟩, .int .i64 0] 69) = X := ⟨_, rfl⟩
      obtain ⟨k5, x5, _⟩ := two_made (.string ⟨#[102]⟩) (.int .i64 0) 69 w2 W5 hW5
      rw [hW5]
      go_meet
      exact ⟨_, rfl, Lib.hid ⟨below_mono HB2.out k5 (Nat.le_refl _), x5⟩⟩
  case rest =>
  obtain ⟨z5, rfl, HX50⟩ := hcut
  obtain ⟨W5, hW5⟩ : ∃ X, X = wc := ⟨_, rfl⟩
  rw [← hW5] at HX50 ⊢
  clear hW5 c0 c1 c2 c3
  have HX5 := Lib.hid HX50.out.2
  have HE := Lib.hid (HE0.out.next HX50.out.1)
  obtain ⟨c0, c1, c2, c3⟩ := quad HE.out.ex
  obtain ⟨e0, e1⟩ := duo HE.out.en
  obtain ⟨y0, y1, y2, y3⟩ := HC0.out W5 HE.out.bel
  go_upto_region 3 with fail
  go_cut [6] (fun p wx => ∃ u : Nat, p = .pointer (some ⟨u, 0, none⟩) ∧ Hid (Below W5.heap.size W5 wx ∧ W5.heap.size ≤ u ∧ wx.heap[u]? = some (.cells #[.string s0, .int .i64 n0] 69 (0, 0))))
  case first =>
    as_aux_lemma =>
      have HBA : Hid (Below W5.heap.size W5 (W5.alloc (.cells #[.string ⟨#[]⟩, .int .i64 0] 69)).drew ∧ (W5.alloc (.cells #[.string ⟨#[]⟩, .int .i64 0] 69)).drew.heap[W5.heap.size]? = some (.cells #[.string ⟨#[]⟩, .int .i64 0] 69 (0, 0))) := Lib.hid ⟨((Below.refl _ _).alloc (Nat.le_refl _) _).drew, heap_alloc_new _ _⟩
      have HBD : Hid (Below W5.heap.size W5 W5.drew) := Lib.hid (Below.refl _ _).drew
      have HSF : Hid (∀ V, Below W5.heap.size W5 V → V.cell? ⟨z, 3, none⟩ = some (.slice (some a) 2 k) ∧ V.cell? ⟨z + 1, 0, none⟩ = some (.int .i64 day) ∧ V.cell? ⟨z + 1, 1, none⟩ = some (.slice fa fm fc) ∧ V.cell? a = some (.int .i64 yo) ∧ V.cell? ⟨a.block, a.off + 1, none⟩ = some (.int .i64 yn) ∧ V.cell? ⟨a.block, a.off + 2, none⟩ = some (.string ys) ∧ V.cell? ⟨a.block, a.off + 3, none⟩ = some (.slice co cm ck)) := Lib.hid fun V hV => ⟨cell_blk (HE.out.next hV).ex 3, (duo (HE.out.next hV).en).1, (duo (HE.out.next hV).en).2, (HC0.out V (HE.out.next hV).bel).1, (HC0.out V (HE.out.next hV).bel).2.1, (HC0.out V (HE.out.next hV).bel).2.2.1, (HC0.out V (HE.out.next hV).bel).2.2.2⟩
      go_region_held3 (fun w' => w'.cell? ⟨z, 3, none⟩ = some (.slice (some a) 2 k) ∧ w'.cell? ⟨z + 1, 0, none⟩ = some (.int .i64 day) ∧ w'.cell? ⟨z + 1, 1, none⟩ = some (.slice fa fm fc) ∧ w'.cell? a = some (.int .i64 yo) ∧ w'.cell? ⟨a.block, a.off + 1, none⟩ = some (.int .i64 yn) ∧ w'.cell? ⟨a.block, a.off + 2, none⟩ = some (.string ys) ∧ w'.cell? ⟨a.block, a.off + 3, none⟩ = some (.slice co cm ck))
        (first | exact HSF.out _ HB4.out | exact HSF.out _ (below_mono HB4.out ((Below.refl _ _).alloc (Nat.le_refl _) _) (Nat.le_refl _)) | exact HSF.out _ ((HB4.out.setCell (p := ⟨W5.heap.size, 0, none⟩) (Nat.le_refl _) _).setCell (p := ⟨W5.heap.size, 1, none⟩) (Nat.le_refl _) _) | (go_keep; done))
        (first
          | (go_at_call 39; (with_reducible refine (C0.out _ (HE.out.next HBD.out).bel).mono ?_); rintro e w4 ⟨rfl, hb⟩; have HB4 := Lib.hid (HBD.out.trans hb); clear hb; obtain ⟨⟨n0', n1'⟩, p0, p1⟩ := two_zero w4 (.string ⟨#[]⟩) (.int .i64 0) 69)
          | (go_at_call 39; (with_reducible refine (C0.out _ (HE.out.next HBA.out.1).bel).mono ?_); rintro e w4 ⟨rfl, hb⟩; have HB4 := Lib.hid (HBA.out.1.trans (hb.mono (by simp))); have HX4 := Lib.hid ((hb.block _ (by simp)).trans HBA.out.2); obtain ⟨n0', n1'⟩ := duo HX4.out; have p0 : w4.frozen? ⟨W5.heap.size, 0, none⟩ = false := free_blk HX4.out 0; have p1 : w4.frozen? ⟨W5.heap.size, 1, none⟩ = false := free_blk HX4.out 1; clear hb))
      · go_wp2_with fail
        go_meet
        exact ⟨w4.heap.size, rfl, Lib.hid ⟨below_mono HB4.out ((Below.refl _ _).alloc (Nat.le_refl _) _) (Nat.le_refl _), HB4.out.size, heap_alloc_new _ _⟩⟩
      · go_wp2_with fail
        go_meet
        obtain ⟨k9, _, _, x9⟩ := two_set w4 W5.heap.size (.string s0) (.int .i64 n0) _ _ ⟨_, _, rfl⟩ HX4.out _ rfl
        exact ⟨W5.heap.size, rfl, Lib.hid ⟨HB4.out.trans k9, Nat.le_refl _, x9⟩⟩
  case rest =>
    as_aux_lemma =>
      obtain ⟨u, rfl, HU⟩ := hcut
      obtain rfl : n0 = 0 := HN0.out
      clear c0 c1 c2 c3 e0 e1 y0 y1 y2 y3
      have HE6 := Lib.hid (HE.out.next HU.out.1)
      have HXU := Lib.hid HU.out.2.2
      have HX56 := Lib.hid ((HU.out.1.block z5 (lt_of_heap HX5.out)).trans HX5.out)
      obtain ⟨k0, k1⟩ := duo HXU.out
      obtain ⟨m0, m1⟩ := duo HX56.out
      rcases HCAN0.out with hcn | ⟨nn, hcn⟩ | ⟨tt, hcn⟩ | hcn
      · obtain rfl : s0 = ⟨#[63]⟩ := by rw [HS0.out, hcn]; rfl
        have HQ : ∀ V, (Op.equalIn 10000 69 (.agg #[.string ⟨#[63]⟩, .int .i64 0]) (.agg #[.string ⟨#[102]⟩, .int .i64 0])).run Try.prog V = .ok false V := fun V => by simp [go_sem] <;> decide
        go_upto_region 6 with fail
        clear HQ
        obtain ⟨c0, c1, c2, c3⟩ := quad HE6.out.ex
        obtain ⟨e0, e1⟩ := duo HE6.out.en
        obtain ⟨y0, y1, y2, y3⟩ := HC1.out wc HE6.out.bel
        clear k0 k1 m0 m1
        go_cut [7] (fun p wx => ∃ u : Nat, p = .pointer (some ⟨u, 0, none⟩) ∧ Hid (Below wc.heap.size wc wx ∧ wc.heap.size ≤ u ∧ wx.heap[u]? = some (.cells #[.string s1, .int .i64 n1] 69 (0, 0))))
        case first =>
          as_aux_lemma =>
            have HBA : Hid (Below wc.heap.size wc (wc.alloc (.cells #[.string ⟨#[]⟩, .int .i64 0] 69)).drew ∧ (wc.alloc (.cells #[.string ⟨#[]⟩, .int .i64 0] 69)).drew.heap[wc.heap.size]? = some (.cells #[.string ⟨#[]⟩, .int .i64 0] 69 (0, 0))) := Lib.hid ⟨((Below.refl _ _).alloc (Nat.le_refl _) _).drew, heap_alloc_new _ _⟩
            have HBD : Hid (Below wc.heap.size wc wc.drew) := Lib.hid (Below.refl _ _).drew
            have HSF : Hid (∀ V, Below wc.heap.size wc V → V.cell? ⟨z, 3, none⟩ = some (.slice (some a) 2 k) ∧ V.cell? ⟨z + 1, 0, none⟩ = some (.int .i64 day) ∧ V.cell? ⟨z + 1, 1, none⟩ = some (.slice fa fm fc) ∧ V.cell? ⟨a.block, a.off + 4, none⟩ = some (.int .i64 zo) ∧ V.cell? ⟨a.block, a.off + 4 + 1, none⟩ = some (.int .i64 zn) ∧ V.cell? ⟨a.block, a.off + 4 + 2, none⟩ = some (.string zs) ∧ V.cell? ⟨a.block, a.off + 4 + 3, none⟩ = some (.slice co1 dm ck1)) := Lib.hid fun V hV => ⟨cell_blk (HE6.out.next hV).ex 3, (duo (HE6.out.next hV).en).1, (duo (HE6.out.next hV).en).2, (HC1.out V (HE6.out.next hV).bel).1, (HC1.out V (HE6.out.next hV).bel).2.1, (HC1.out V (HE6.out.next hV).bel).2.2.1, (HC1.out V (HE6.out.next hV).bel).2.2.2⟩
            go_region_held3 (fun w' => w'.cell? ⟨z, 3, none⟩ = some (.slice (some a) 2 k) ∧ w'.cell? ⟨z + 1, 0, none⟩ = some (.int .i64 day) ∧ w'.cell? ⟨z + 1, 1, none⟩ = some (.slice fa fm fc) ∧ w'.cell? ⟨a.block, a.off + 4, none⟩ = some (.int .i64 zo) ∧ w'.cell? ⟨a.block, a.off + 4 + 1, none⟩ = some (.int .i64 zn) ∧ w'.cell? ⟨a.block, a.off + 4 + 2, none⟩ = some (.string zs) ∧ w'.cell? ⟨a.block, a.off + 4 + 3, none⟩ = some (.slice co1 dm ck1))
              (first | exact HSF.out _ HB4.out | exact HSF.out _ (below_mono HB4.out ((Below.refl _ _).alloc (Nat.le_refl _) _) (Nat.le_refl _)) | exact HSF.out _ ((HB4.out.setCell (p := ⟨wc.heap.size, 0, none⟩) (Nat.le_refl _) _).setCell (p := ⟨wc.heap.size, 1, none⟩) (Nat.le_refl _) _) | (go_keep; done))
              (first
                | (go_at_call 39; (with_reducible refine (C1.out _ (HE6.out.next HBD.out).bel).mono ?_); rintro e w4 ⟨rfl, hb⟩; have HB4 := Lib.hid (HBD.out.trans hb); clear hb; obtain ⟨⟨n0', n1'⟩, p0, p1⟩ := two_zero w4 (.string ⟨#[]⟩) (.int .i64 0) 69)
                | (go_at_call 39; (with_reducible refine (C1.out _ (HE6.out.next HBA.out.1).bel).mono ?_); rintro e w4 ⟨rfl, hb⟩; have HB4 := Lib.hid (HBA.out.1.trans (hb.mono (by simp))); have HX4 := Lib.hid ((hb.block _ (by simp)).trans HBA.out.2); obtain ⟨n0', n1'⟩ := duo HX4.out; have p0 : w4.frozen? ⟨wc.heap.size, 0, none⟩ = false := free_blk HX4.out 0; have p1 : w4.frozen? ⟨wc.heap.size, 1, none⟩ = false := free_blk HX4.out 1; clear hb))
            · go_wp2_with fail
              go_meet
              exact ⟨w4.heap.size, rfl, Lib.hid ⟨below_mono HB4.out ((Below.refl _ _).alloc (Nat.le_refl _) _) (Nat.le_refl _), HB4.out.size, heap_alloc_new _ _⟩⟩
            · go_wp2_with fail
              go_meet
              obtain ⟨k9, _, _, x9⟩ := two_set w4 wc.heap.size (.string s1) (.int .i64 n1) _ _ ⟨_, _, rfl⟩ HX4.out _ rfl
              exact ⟨wc.heap.size, rfl, Lib.hid ⟨HB4.out.trans k9, Nat.le_refl _, x9⟩⟩
        case rest =>
          as_aux_lemma =>
            obtain ⟨u7, rfl, HU7⟩ := hcut
            obtain rfl : n1 = 0 := HN1.out
            clear c0 c1 c2 c3 e0 e1 y0 y1 y2 y3
            have HE7 := Lib.hid (HE6.out.next HU7.out.1)
            have HXU7 := Lib.hid HU7.out.2.2
            have HX67 := Lib.hid ((HU7.out.1.block u (lt_of_heap HXU.out)).trans HXU.out)
            have HX57 := Lib.hid ((HU7.out.1.block z5 (lt_of_heap HX56.out)).trans HX56.out)
            obtain ⟨k0, k1⟩ := duo HX67.out
            obtain ⟨m0, m1⟩ := duo HX57.out
            obtain ⟨j0, j1⟩ := duo HXU7.out
            rcases HCAN1.out with hcm | ⟨nn, hcm⟩ | ⟨tt, hcm⟩ | hcm
            · obtain rfl : s1 = ⟨#[63]⟩ := by rw [HS1.out, hcm]; rfl
              have HQ1 : ∀ V, (Op.equalIn 10000 69 (.agg #[.string ⟨#[63]⟩, .int .i64 0]) (.agg #[.string ⟨#[102]⟩, .int .i64 0])).run Try.prog V = .ok false V := fun V => by simp [go_sem] <;> decide
              have HR : Hid (jnV false v0 v1 = v0) := Lib.hid (by rw [hcn, hcm]; rfl)
              go_upto_region 8 with fail
              obtain ⟨q0', q1'⟩ := duo HE7.out.va
              have p0 : wc.frozen? ⟨z + 1 + 1, 0, none⟩ = false := free_blk HE7.out.va 0
              have p1 : wc.frozen? ⟨z + 1 + 1, 1, none⟩ = false := free_blk HE7.out.va 1
              go_wp2_with fail
              have HS9 := Lib.hid (two_set wc (z + 1 + 1) (.string ⟨#[63]⟩) (.int .i64 0) _ _ ⟨_, _, rfl⟩ HE7.out.va)
              clear q0' q1' p0 p1
              obtain ⟨W9, hW9⟩ : ∃ X, ((wc.setCell ⟨z + 1 + 1, 0, none⟩ (.string ⟨#[63]⟩)).setCell ⟨z + 1 + 1, 1, none⟩ (.int .i64 0)) = X := ⟨_, rfl⟩
              obtain ⟨k9, _, _, x9⟩ := HS9.out W9 hW9
              rw [hW9]
              obtain ⟨d0, d1⟩ := duo x9
              exact bodyPost_ret (v := .agg #[.string ⟨#[63]⟩, .int .i64 0]) (by simp [results, Try.results39, go_sem, d0, d1]) rfl ⟨by first | rw [HR.out, HW0.out] | rfl | (rw [HR.out]; rfl), HE7.out.bel.trans (k9.mono (by have := HE7.out.le; omega))⟩
            · exact absurd (by rw [hcm]; rfl) HK1.out

            · cases tt with
              | false =>
                obtain rfl : s1 = ⟨#[102]⟩ := by rw [HS1.out, hcm]; rfl
                have HQ1 : ∀ V, (Op.equalIn 10000 69 (.agg #[.string ⟨#[102]⟩, .int .i64 0]) (.agg #[.string ⟨#[102]⟩, .int .i64 0])).run Try.prog V = .ok true V := fun V => by simp [go_sem] <;> decide
                have HR : Hid (jnV false v0 v1 = v1) := Lib.hid (by rw [hcn, hcm]; rfl)
                go_upto_region 9 with fail
                obtain ⟨q0', q1'⟩ := duo HE7.out.va
                have p0 : wc.frozen? ⟨z + 1 + 1, 0, none⟩ = false := free_blk HE7.out.va 0
                have p1 : wc.frozen? ⟨z + 1 + 1, 1, none⟩ = false := free_blk HE7.out.va 1
                go_wp2_with fail
                have HS9 := Lib.hid (two_set wc (z + 1 + 1) (.string ⟨#[102]⟩) (.int .i64 0) _ _ ⟨_, _, rfl⟩ HE7.out.va)
                clear q0' q1' p0 p1
                obtain ⟨W9, hW9⟩ : ∃ X, ((wc.setCell ⟨z + 1 + 1, 0, none⟩ (.string ⟨#[102]⟩)).setCell ⟨z + 1 + 1, 1, none⟩ (.int .i64 0)) = X := ⟨_, rfl⟩
                obtain ⟨k9, _, _, x9⟩ := HS9.out W9 hW9
                rw [hW9]
                obtain ⟨d0, d1⟩ := duo x9
                exact bodyPost_ret (v := .agg #[.string ⟨#[102]⟩, .int .i64 0]) (by simp [results, Try.results39, go_sem, d0, d1]) rfl ⟨by first | rw [HR.out, HW1.out] | rfl | (rw [HR.out]; rfl), HE7.out.bel.trans (k9.mono (by have := HE7.out.le; omega))⟩
              | true =>
                obtain rfl : s1 = ⟨#[116]⟩ := by rw [HS1.out, hcm]; rfl
                have HQ1 : ∀ V, (Op.equalIn 10000 69 (.agg #[.string ⟨#[116]⟩, .int .i64 0]) (.agg #[.string ⟨#[102]⟩, .int .i64 0])).run Try.prog V = .ok false V := fun V => by simp [go_sem] <;> decide
                have HR : Hid (jnV false v0 v1 = v0) := Lib.hid (by rw [hcn, hcm]; rfl)
                go_upto_region 8 with fail
                obtain ⟨q0', q1'⟩ := duo HE7.out.va
                have p0 : wc.frozen? ⟨z + 1 + 1, 0, none⟩ = false := free_blk HE7.out.va 0
                have p1 : wc.frozen? ⟨z + 1 + 1, 1, none⟩ = false := free_blk HE7.out.va 1
                go_wp2_with fail
                have HS9 := Lib.hid (two_set wc (z + 1 + 1) (.string ⟨#[63]⟩) (.int .i64 0) _ _ ⟨_, _, rfl⟩ HE7.out.va)
                clear q0' q1' p0 p1
                obtain ⟨W9, hW9⟩ : ∃ X, ((wc.setCell ⟨z + 1 + 1, 0, none⟩ (.string ⟨#[63]⟩)).setCell ⟨z + 1 + 1, 1, none⟩ (.int .i64 0)) = X := ⟨_, rfl⟩
                obtain ⟨k9, _, _, x9⟩ := HS9.out W9 hW9
                rw [hW9]
                obtain ⟨d0, d1⟩ := duo x9
                exact bodyPost_ret (v := .agg #[.string ⟨#[63]⟩, .int .i64 0]) (by simp [results, Try.results39, go_sem, d0, d1]) rfl ⟨by first | rw [HR.out, HW0.out] | rfl | (rw [HR.out]; rfl), HE7.out.bel.trans (k9.mono (by have := HE7.out.le; omega))⟩
            · obtain rfl : s1 = ⟨#[33]⟩ := by rw [HS1.out, hcm]; rfl
              have HQ1 : ∀ V, (Op.equalIn 10000 69 (.agg #[.string ⟨#[33]⟩, .int .i64 0]) (.agg #[.string ⟨#[102]⟩, .int .i64 0])).run Try.prog V = .ok false V := fun V => by simp [go_sem] <;> decide
              have HR : Hid (jnV false v0 v1 = v1) := Lib.hid (by rw [hcn, hcm]; rfl)
              go_upto_region 9 with fail
              obtain ⟨q0', q1'⟩ := duo HE7.out.va
              have p0 : wc.frozen? ⟨z + 1 + 1, 0, none⟩ = false := free_blk HE7.out.va 0
              have p1 : wc.frozen? ⟨z + 1 + 1, 1, none⟩ = false := free_blk HE7.out.va 1
              go_wp2_with fail
              have HS9 := Lib.hid (two_set wc (z + 1 + 1) (.string ⟨#[33]⟩) (.int .i64 0) _ _ ⟨_, _, rfl⟩ HE7.out.va)
              clear q0' q1' p0 p1
              obtain ⟨W9, hW9⟩ : ∃ X, ((wc.setCell ⟨z + 1 + 1, 0, none⟩ (.string ⟨#[33]⟩)).setCell ⟨z + 1 + 1, 1, none⟩ (.int .i64 0)) = X := ⟨_, rfl⟩
              obtain ⟨k9, _, _, x9⟩ := HS9.out W9 hW9
              rw [hW9]
              obtain ⟨d0, d1⟩ := duo x9
              exact bodyPost_ret (v := .agg #[.string ⟨#[33]⟩, .int .i64 0]) (by simp [results, Try.results39, go_sem, d0, d1]) rfl ⟨by first | rw [HR.out, HW1.out] | rfl | (rw [HR.out]; rfl), HE7.out.bel.trans (k9.mono (by have := HE7.out.le; omega))⟩
      · exact absurd (by rw [hcn]; rfl) HK0.out

      · cases tt with
        | false =>
          obtain rfl : s0 = ⟨#[102]⟩ := by rw [HS0.out, hcn]; rfl
          have HQ : ∀ V, (Op.equalIn 10000 69 (.agg #[.string ⟨#[102]⟩, .int .i64 0]) (.agg #[.string ⟨#[102]⟩, .int .i64 0])).run Try.prog V = .ok true V := fun V => by simp [go_sem] <;> decide
          have HR : Hid (jnV false v0 v1 = v0) := Lib.hid (by rw [hcn]; rfl)
          go_upto_region 5 with fail
          obtain ⟨q0', q1'⟩ := duo HE6.out.va
          have p0 : wc.frozen? ⟨z + 1 + 1, 0, none⟩ = false := free_blk HE6.out.va 0
          have p1 : wc.frozen? ⟨z + 1 + 1, 1, none⟩ = false := free_blk HE6.out.va 1
          go_wp2_with fail
          have HS9 := Lib.hid (two_set wc (z + 1 + 1) (.string ⟨#[102]⟩) (.int .i64 0) _ _ ⟨_, _, rfl⟩ HE6.out.va)
          clear q0' q1' p0 p1
          obtain ⟨W9, hW9⟩ : ∃ X, ((wc.setCell ⟨z + 1 + 1, 0, none⟩ (.string ⟨#[102]⟩)).setCell ⟨z + 1 + 1, 1, none⟩ (.int .i64 0)) = X := ⟨_, rfl⟩
          obtain ⟨k9, _, _, x9⟩ := HS9.out W9 hW9
          rw [hW9]
          obtain ⟨d0, d1⟩ := duo x9
          exact bodyPost_ret (v := .agg #[.string ⟨#[102]⟩, .int .i64 0]) (by simp [results, Try.results39, go_sem, d0, d1]) rfl ⟨by first | rw [HR.out, HW0.out] | rfl | (rw [HR.out]; rfl), HE6.out.bel.trans (k9.mono (by have := HE6.out.le; omega))⟩
        | true =>
          obtain rfl : s0 = ⟨#[116]⟩ := by rw [HS0.out, hcn]; rfl
          have HQ : ∀ V, (Op.equalIn 10000 69 (.agg #[.string ⟨#[116]⟩, .int .i64 0]) (.agg #[.string ⟨#[102]⟩, .int .i64 0])).run Try.prog V = .ok false V := fun V => by simp [go_sem] <;> decide
          go_upto_region 6 with fail
          clear HQ
          obtain ⟨c0, c1, c2, c3⟩ := quad HE6.out.ex
          obtain ⟨e0, e1⟩ := duo HE6.out.en
          obtain ⟨y0, y1, y2, y3⟩ := HC1.out wc HE6.out.bel
          clear k0 k1 m0 m1
          go_cut [7] (fun p wx => ∃ u : Nat, p = .pointer (some ⟨u, 0, none⟩) ∧ Hid (Below wc.heap.size wc wx ∧ wc.heap.size ≤ u ∧ wx.heap[u]? = some (.cells #[.string s1, .int .i64 n1] 69 (0, 0))))
          case first =>
            as_aux_lemma =>
              have HBA : Hid (Below wc.heap.size wc (wc.alloc (.cells #[.string ⟨#[]⟩, .int .i64 0] 69)).drew ∧ (wc.alloc (.cells #[.string ⟨#[]⟩, .int .i64 0] 69)).drew.heap[wc.heap.size]? = some (.cells #[.string ⟨#[]⟩, .int .i64 0] 69 (0, 0))) := Lib.hid ⟨((Below.refl _ _).alloc (Nat.le_refl _) _).drew, heap_alloc_new _ _⟩
              have HBD : Hid (Below wc.heap.size wc wc.drew) := Lib.hid (Below.refl _ _).drew
              have HSF : Hid (∀ V, Below wc.heap.size wc V → V.cell? ⟨z, 3, none⟩ = some (.slice (some a) 2 k) ∧ V.cell? ⟨z + 1, 0, none⟩ = some (.int .i64 day) ∧ V.cell? ⟨z + 1, 1, none⟩ = some (.slice fa fm fc) ∧ V.cell? ⟨a.block, a.off + 4, none⟩ = some (.int .i64 zo) ∧ V.cell? ⟨a.block, a.off + 4 + 1, none⟩ = some (.int .i64 zn) ∧ V.cell? ⟨a.block, a.off + 4 + 2, none⟩ = some (.string zs) ∧ V.cell? ⟨a.block, a.off + 4 + 3, none⟩ = some (.slice co1 dm ck1)) := Lib.hid fun V hV => ⟨cell_blk (HE6.out.next hV).ex 3, (duo (HE6.out.next hV).en).1, (duo (HE6.out.next hV).en).2, (HC1.out V (HE6.out.next hV).bel).1, (HC1.out V (HE6.out.next hV).bel).2.1, (HC1.out V (HE6.out.next hV).bel).2.2.1, (HC1.out V (HE6.out.next hV).bel).2.2.2⟩
              go_region_held3 (fun w' => w'.cell? ⟨z, 3, none⟩ = some (.slice (some a) 2 k) ∧ w'.cell? ⟨z + 1, 0, none⟩ = some (.int .i64 day) ∧ w'.cell? ⟨z + 1, 1, none⟩ = some (.slice fa fm fc) ∧ w'.cell? ⟨a.block, a.off + 4, none⟩ = some (.int .i64 zo) ∧ w'.cell? ⟨a.block, a.off + 4 + 1, none⟩ = some (.int .i64 zn) ∧ w'.cell? ⟨a.block, a.off + 4 + 2, none⟩ = some (.string zs) ∧ w'.cell? ⟨a.block, a.off + 4 + 3, none⟩ = some (.slice co1 dm ck1))
                (first | exact HSF.out _ HB4.out | exact HSF.out _ (below_mono HB4.out ((Below.refl _ _).alloc (Nat.le_refl _) _) (Nat.le_refl _)) | exact HSF.out _ ((HB4.out.setCell (p := ⟨wc.heap.size, 0, none⟩) (Nat.le_refl _) _).setCell (p := ⟨wc.heap.size, 1, none⟩) (Nat.le_refl _) _) | (go_keep; done))
                (first
                  | (go_at_call 39; (with_reducible refine (C1.out _ (HE6.out.next HBD.out).bel).mono ?_); rintro e w4 ⟨rfl, hb⟩; have HB4 := Lib.hid (HBD.out.trans hb); clear hb; obtain ⟨⟨n0', n1'⟩, p0, p1⟩ := two_zero w4 (.string ⟨#[]⟩) (.int .i64 0) 69)
                  | (go_at_call 39; (with_reducible refine (C1.out _ (HE6.out.next HBA.out.1).bel).mono ?_); rintro e w4 ⟨rfl, hb⟩; have HB4 := Lib.hid (HBA.out.1.trans (hb.mono (by simp))); have HX4 := Lib.hid ((hb.block _ (by simp)).trans HBA.out.2); obtain ⟨n0', n1'⟩ := duo HX4.out; have p0 : w4.frozen? ⟨wc.heap.size, 0, none⟩ = false := free_blk HX4.out 0; have p1 : w4.frozen? ⟨wc.heap.size, 1, none⟩ = false := free_blk HX4.out 1; clear hb))
              · go_wp2_with fail
                go_meet
                exact ⟨w4.heap.size, rfl, Lib.hid ⟨below_mono HB4.out ((Below.refl _ _).alloc (Nat.le_refl _) _) (Nat.le_refl _), HB4.out.size, heap_alloc_new _ _⟩⟩
              · go_wp2_with fail
                go_meet
                obtain ⟨k9, _, _, x9⟩ := two_set w4 wc.heap.size (.string s1) (.int .i64 n1) _ _ ⟨_, _, rfl⟩ HX4.out _ rfl
                exact ⟨wc.heap.size, rfl, Lib.hid ⟨HB4.out.trans k9, Nat.le_refl _, x9⟩⟩
          case rest =>
            as_aux_lemma =>
              obtain ⟨u7, rfl, HU7⟩ := hcut
              obtain rfl : n1 = 0 := HN1.out
              clear c0 c1 c2 c3 e0 e1 y0 y1 y2 y3
              have HE7 := Lib.hid (HE6.out.next HU7.out.1)
              have HXU7 := Lib.hid HU7.out.2.2
              have HX67 := Lib.hid ((HU7.out.1.block u (lt_of_heap HXU.out)).trans HXU.out)
              have HX57 := Lib.hid ((HU7.out.1.block z5 (lt_of_heap HX56.out)).trans HX56.out)
              obtain ⟨k0, k1⟩ := duo HX67.out
              obtain ⟨m0, m1⟩ := duo HX57.out
              obtain ⟨j0, j1⟩ := duo HXU7.out
              have HR : Hid (jnV false v0 v1 = v1) := Lib.hid (by rw [hcn]; unfold jnV isT; simp [truV])
              have HCN := Lib.hid hcn
              clear hcn
              go_upto_region 9 with fail
              obtain ⟨q0', q1'⟩ := duo HE7.out.va
              have p0 : wc.frozen? ⟨z + 1 + 1, 0, none⟩ = false := free_blk HE7.out.va 0
              have p1 : wc.frozen? ⟨z + 1 + 1, 1, none⟩ = false := free_blk HE7.out.va 1
              go_wp2_with fail
              have HS9 := Lib.hid (two_set wc (z + 1 + 1) (.string s1) (.int .i64 0) _ _ ⟨_, _, rfl⟩ HE7.out.va)
              clear q0' q1' p0 p1
              obtain ⟨W9, hW9⟩ : ∃ X, ((wc.setCell ⟨z + 1 + 1, 0, none⟩ (.string s1)).setCell ⟨z + 1 + 1, 1, none⟩ (.int .i64 0)) = X := ⟨_, rfl⟩
              obtain ⟨k9, _, _, x9⟩ := HS9.out W9 hW9
              rw [hW9]
              obtain ⟨d0, d1⟩ := duo x9
              exact bodyPost_ret (v := .agg #[.string s1, .int .i64 0]) (by simp [results, Try.results39, go_sem, d0, d1]) rfl ⟨by first | rw [HR.out, HW1.out] | rfl | (rw [HR.out]; rfl), HE7.out.bel.trans (k9.mono (by have := HE7.out.le; omega))⟩
      · obtain rfl : s0 = ⟨#[33]⟩ := by rw [HS0.out, hcn]; rfl
        have HQ : ∀ V, (Op.equalIn 10000 69 (.agg #[.string ⟨#[33]⟩, .int .i64 0]) (.agg #[.string ⟨#[102]⟩, .int .i64 0])).run Try.prog V = .ok false V := fun V => by simp [go_sem] <;> decide
        have HR : Hid (jnV false v0 v1 = v0) := Lib.hid (by rw [hcn]; rfl)
        go_upto_region 5 with fail
        obtain ⟨q0', q1'⟩ := duo HE6.out.va
        have p0 : wc.frozen? ⟨z + 1 + 1, 0, none⟩ = false := free_blk HE6.out.va 0
        have p1 : wc.frozen? ⟨z + 1 + 1, 1, none⟩ = false := free_blk HE6.out.va 1
        go_wp2_with fail
        have HS9 := Lib.hid (two_set wc (z + 1 + 1) (.string ⟨#[33]⟩) (.int .i64 0) _ _ ⟨_, _, rfl⟩ HE6.out.va)
        clear q0' q1' p0 p1
        obtain ⟨W9, hW9⟩ : ∃ X, ((wc.setCell ⟨z + 1 + 1, 0, none⟩ (.string ⟨#[33]⟩)).setCell ⟨z + 1 + 1, 1, none⟩ (.int .i64 0)) = X := ⟨_, rfl⟩
        obtain ⟨k9, _, _, x9⟩ := HS9.out W9 hW9
        rw [hW9]
        obtain ⟨d0, d1⟩ := duo x9
        exact bodyPost_ret (v := .agg #[.string ⟨#[33]⟩, .int .i64 0]) (by simp [results, Try.results39, go_sem, d0, d1]) rfl ⟨by first | rw [HR.out, HW0.out] | rfl | (rw [HR.out]; rfl), HE6.out.bel.trans (k9.mono (by have := HE6.out.le; omega))⟩
set_option maxRecDepth 100000 in
set_option maxHeartbeats 16000000 in
theorem rjoined_18 {xn : Int} {xs : ByteArray} {a : Addr} {k : Nat} {day : Int} {fa : Option Addr} {fm fc : Nat} (v0 v1 : Vl) (w : World) {yo yn : Int} {ys : ByteArray} {co : Option Addr} {cm ck : Nat} {zo zn : Int} {zs : ByteArray} {co1 : Option Addr} {dm ck1 : Nat} (hcan0 : Can v0) (hcan1 : Can v1) (hk0 : v0.kind ≠ 1) (hk1 : v1.kind ≠ 1) (ha : a.block < w.heap.size)
    (hf0 : FourX w a (.int .i64 yo) (.int .i64 yn) (.string ys) (.slice co cm ck)) (hf1 : FourX w ⟨a.block, a.off + 4, none⟩ (.int .i64 zo) (.int .i64 zn) (.string zs) (.slice co1 dm ck1))
    (h0 : ∀ V, Below w.heap.size w V → Calls Try.prog 39 #[.agg #[.int .i64 yo, .int .i64 yn, .string ys, .slice co cm ck], .agg #[.int .i64 day, .slice fa fm fc]] V fun e w' => e = .returned (wdV v0) ∧ Below V.heap.size V w')
    (h1 : ∀ V, Below w.heap.size w V → Calls Try.prog 39 #[.agg #[.int .i64 zo, .int .i64 zn, .string zs, .slice co1 dm ck1], .agg #[.int .i64 day, .slice fa fm fc]] V fun e w' => e = .returned (wdV v1) ∧ Below V.heap.size V w') :
    Calls Try.prog 39 #[.agg #[.int .i64 18, .int .i64 xn, .string xs, .slice (some a) 2 k], .agg #[.int .i64 day, .slice fa fm fc]] w fun e w' => e = .returned (wdV (jnV true v0 v1)) ∧ Below w.heap.size w w' := by
  have GA := Lib.hid (rentry_made (.int .i64 18) (.int .i64 xn) (.string xs) (.slice (some a) 2 k) (.int .i64 day) (.slice fa fm fc) w)
  have HCAN0 := Lib.hid hcan0
  have HCAN1 := Lib.hid hcan1
  have HK0 := Lib.hid hk0
  have HK1 := Lib.hid hk1
  have C0 := Lib.hid h0
  have C1 := Lib.hid h1
  have HAB := Lib.hid ha
  have HC0 : Hid (∀ V, Below w.heap.size w V → FourX V a (.int .i64 yo) (.int .i64 yn) (.string ys) (.slice co cm ck)) := Lib.hid fun V hV => hf0.stay (hV.block _ ha)
  have HC1 : Hid (∀ V, Below w.heap.size w V → FourX V ⟨a.block, a.off + 4, none⟩ (.int .i64 zo) (.int .i64 zn) (.string zs) (.slice co1 dm ck1)) := Lib.hid fun V hV => hf1.stay (hV.block _ ha)
  obtain ⟨s0, hs0⟩ : ∃ r, r = wdS v0 := ⟨_, rfl⟩
  obtain ⟨n0, hn0⟩ : ∃ r, r = v0.n := ⟨_, rfl⟩
  have HN0 : Hid (n0 = 0) := Lib.hid (hn0.trans (can_n hcan0 hk0))
  have HW0 : Hid (wdV v0 = .agg #[.string s0, .int .i64 n0]) := Lib.hid (by rw [hs0, hn0])
  rw [HW0.out] at C0
  obtain ⟨s1, hs1⟩ : ∃ r, r = wdS v1 := ⟨_, rfl⟩
  obtain ⟨n1, hn1⟩ : ∃ r, r = v1.n := ⟨_, rfl⟩
  have HN1 : Hid (n1 = 0) := Lib.hid (hn1.trans (can_n hcan1 hk1))
  have HW1 : Hid (wdV v1 = .agg #[.string s1, .int .i64 n1]) := Lib.hid (by rw [hs1, hn1])
  rw [HW1.out] at C1
  have HS0 := Lib.hid hs0
  have HS1 := Lib.hid hs1
  have CT : Hid (∀ V, Calls Try.prog 65 #[.bool true] V fun e w' => e = .returned (.agg #[.string ⟨#[116]⟩, .int .i64 0]) ∧ Below V.heap.size V w') := Lib.hid fun V => rtruth_any true V
  clear hcan0 hcan1 hk0 hk1 h0 h1 hf0 hf1 ha hs0 hs1 hn0 hn1
  go_enter Try.func39, Try.ntmps39
  go_upto_region 1 with fail
  obtain ⟨W, hW⟩ : ∃ X, ((w.alloc (.cells #[.int .i64 18, .int .i64 xn, .string xs, .slice (some a) 2 k] 34)).alloc (.cells #[.int .i64 day, .slice fa fm fc] 58)).alloc (.cells #[.string ⟨#[]⟩, .int .i64 0] 69) = X := ⟨_, rfl⟩
  obtain ⟨g1, b1, b2, b3⟩ := GA.out W hW
  obtain ⟨z, hz⟩ : ∃ z, z = w.heap.size := ⟨_, rfl⟩
  rw [hW, ← hz]
  rw [← hz] at b1 b2 b3
  have HE0 : Hid (ErB z #[.int .i64 18, .int .i64 xn, .string xs, .slice (some a) 2 k] #[.int .i64 day, .slice fa fm fc] w W) := Lib.hid ⟨g1, b1, b2, b3, by omega⟩
  clear hW b1 b2 b3 g1 GA hz
  obtain ⟨c0, c1, c2, c3⟩ := quad HE0.out.ex
  go_upto_region 2 with fail
  go_cut [5] (fun p wx => ∃ z5 : Nat, p = .pointer (some ⟨z5, 0, none⟩) ∧ Hid (Below W.heap.size W wx ∧ wx.heap[z5]? = some (.cells #[.string ⟨#[116]⟩, .int .i64 0] 69 (0, 0))))
  case first =>
    as_aux_lemma =>
      go_wp2_with (go_at_call 65; (with_reducible refine (CT.out _).mono ?_); rintro e w2 ⟨rfl, hb⟩; have HB2 := Lib.hid hb; clear hb c0 c1 c2 c3; obtain ⟨⟨n0', n1'⟩, p0, p1⟩ := two_zero w2 (.string ⟨#[]⟩) (.int .i64 0) 69)
      clear n0' n1' p0 p1
      obtain ⟨W5, hW5⟩ : ∃ X, w2.alloc (.cells #[.string ⟨#[116]⟩, .int .i64 0] 69) = X := ⟨_, rfl⟩
      obtain ⟨k5, x5, _⟩ := two_made (.string ⟨#[116]⟩) (.int .i64 0) 69 w2 W5 hW5
      rw [hW5]
      go_meet
      exact ⟨_, rfl, Lib.hid ⟨below_mono HB2.out k5 (Nat.le_refl _), x5⟩⟩
  case rest =>
  obtain ⟨z5, rfl, HX50⟩ := hcut
  obtain ⟨W5, hW5⟩ : ∃ X, X = wc := ⟨_, rfl⟩
  rw [← hW5] at HX50 ⊢
  clear hW5 c0 c1 c2 c3
  have HX5 := Lib.hid HX50.out.2
  have HE := Lib.hid (HE0.out.next HX50.out.1)
  obtain ⟨c0, c1, c2, c3⟩ := quad HE.out.ex
  obtain ⟨e0, e1⟩ := duo HE.out.en
  obtain ⟨y0, y1, y2, y3⟩ := HC0.out W5 HE.out.bel
  go_upto_region 3 with fail
  go_cut [6] (fun p wx => ∃ u : Nat, p = .pointer (some ⟨u, 0, none⟩) ∧ Hid (Below W5.heap.size W5 wx ∧ W5.heap.size ≤ u ∧ wx.heap[u]? = some (.cells #[.string s0, .int .i64 n0] 69 (0, 0))))
  case first =>
    as_aux_lemma =>
      have HBA : Hid (Below W5.heap.size W5 (W5.alloc (.cells #[.string ⟨#[]⟩, .int .i64 0] 69)).drew ∧ (W5.alloc (.cells #[.string ⟨#[]⟩, .int .i64 0] 69)).drew.heap[W5.heap.size]? = some (.cells #[.string ⟨#[]⟩, .int .i64 0] 69 (0, 0))) := Lib.hid ⟨((Below.refl _ _).alloc (Nat.le_refl _) _).drew, heap_alloc_new _ _⟩
      have HBD : Hid (Below W5.heap.size W5 W5.drew) := Lib.hid (Below.refl _ _).drew
      have HSF : Hid (∀ V, Below W5.heap.size W5 V → V.cell? ⟨z, 3, none⟩ = some (.slice (some a) 2 k) ∧ V.cell? ⟨z + 1, 0, none⟩ = some (.int .i64 day) ∧ V.cell? ⟨z + 1, 1, none⟩ = some (.slice fa fm fc) ∧ V.cell? a = some (.int .i64 yo) ∧ V.cell? ⟨a.block, a.off + 1, none⟩ = some (.int .i64 yn) ∧ V.cell? ⟨a.block, a.off + 2, none⟩ = some (.string ys) ∧ V.cell? ⟨a.block, a.off + 3, none⟩ = some (.slice co cm ck)) := Lib.hid fun V hV => ⟨cell_blk (HE.out.next hV).ex 3, (duo (HE.out.next hV).en).1, (duo (HE.out.next hV).en).2, (HC0.out V (HE.out.next hV).bel).1, (HC0.out V (HE.out.next hV).bel).2.1, (HC0.out V (HE.out.next hV).bel).2.2.1, (HC0.out V (HE.out.next hV).bel).2.2.2⟩
      go_region_held3 (fun w' => w'.cell? ⟨z, 3, none⟩ = some (.slice (some a) 2 k) ∧ w'.cell? ⟨z + 1, 0, none⟩ = some (.int .i64 day) ∧ w'.cell? ⟨z + 1, 1, none⟩ = some (.slice fa fm fc) ∧ w'.cell? a = some (.int .i64 yo) ∧ w'.cell? ⟨a.block, a.off + 1, none⟩ = some (.int .i64 yn) ∧ w'.cell? ⟨a.block, a.off + 2, none⟩ = some (.string ys) ∧ w'.cell? ⟨a.block, a.off + 3, none⟩ = some (.slice co cm ck))
        (first | exact HSF.out _ HB4.out | exact HSF.out _ (below_mono HB4.out ((Below.refl _ _).alloc (Nat.le_refl _) _) (Nat.le_refl _)) | exact HSF.out _ ((HB4.out.setCell (p := ⟨W5.heap.size, 0, none⟩) (Nat.le_refl _) _).setCell (p := ⟨W5.heap.size, 1, none⟩) (Nat.le_refl _) _) | (go_keep; done))
        (first
          | (go_at_call 39; (with_reducible refine (C0.out _ (HE.out.next HBD.out).bel).mono ?_); rintro e w4 ⟨rfl, hb⟩; have HB4 := Lib.hid (HBD.out.trans hb); clear hb; obtain ⟨⟨n0', n1'⟩, p0, p1⟩ := two_zero w4 (.string ⟨#[]⟩) (.int .i64 0) 69)
          | (go_at_call 39; (with_reducible refine (C0.out _ (HE.out.next HBA.out.1).bel).mono ?_); rintro e w4 ⟨rfl, hb⟩; have HB4 := Lib.hid (HBA.out.1.trans (hb.mono (by simp))); have HX4 := Lib.hid ((hb.block _ (by simp)).trans HBA.out.2); obtain ⟨n0', n1'⟩ := duo HX4.out; have p0 : w4.frozen? ⟨W5.heap.size, 0, none⟩ = false := free_blk HX4.out 0; have p1 : w4.frozen? ⟨W5.heap.size, 1, none⟩ = false := free_blk HX4.out 1; clear hb))
      · go_wp2_with fail
        go_meet
        exact ⟨w4.heap.size, rfl, Lib.hid ⟨below_mono HB4.out ((Below.refl _ _).alloc (Nat.le_refl _) _) (Nat.le_refl _), HB4.out.size, heap_alloc_new _ _⟩⟩
      · go_wp2_with fail
        go_meet
        obtain ⟨k9, _, _, x9⟩ := two_set w4 W5.heap.size (.string s0) (.int .i64 n0) _ _ ⟨_, _, rfl⟩ HX4.out _ rfl
        exact ⟨W5.heap.size, rfl, Lib.hid ⟨HB4.out.trans k9, Nat.le_refl _, x9⟩⟩
  case rest =>
    as_aux_lemma =>
      obtain ⟨u, rfl, HU⟩ := hcut
      obtain rfl : n0 = 0 := HN0.out
      clear c0 c1 c2 c3 e0 e1 y0 y1 y2 y3
      have HE6 := Lib.hid (HE.out.next HU.out.1)
      have HXU := Lib.hid HU.out.2.2
      have HX56 := Lib.hid ((HU.out.1.block z5 (lt_of_heap HX5.out)).trans HX5.out)
      obtain ⟨k0, k1⟩ := duo HXU.out
      obtain ⟨m0, m1⟩ := duo HX56.out
      rcases HCAN0.out with hcn | ⟨nn, hcn⟩ | ⟨tt, hcn⟩ | hcn
      · obtain rfl : s0 = ⟨#[63]⟩ := by rw [HS0.out, hcn]; rfl
        have HQ : ∀ V, (Op.equalIn 10000 69 (.agg #[.string ⟨#[63]⟩, .int .i64 0]) (.agg #[.string ⟨#[116]⟩, .int .i64 0])).run Try.prog V = .ok false V := fun V => by simp [go_sem] <;> decide
        go_upto_region 6 with fail
        clear HQ
        obtain ⟨c0, c1, c2, c3⟩ := quad HE6.out.ex
        obtain ⟨e0, e1⟩ := duo HE6.out.en
        obtain ⟨y0, y1, y2, y3⟩ := HC1.out wc HE6.out.bel
        clear k0 k1 m0 m1
        go_cut [7] (fun p wx => ∃ u : Nat, p = .pointer (some ⟨u, 0, none⟩) ∧ Hid (Below wc.heap.size wc wx ∧ wc.heap.size ≤ u ∧ wx.heap[u]? = some (.cells #[.string s1, .int .i64 n1] 69 (0, 0))))
        case first =>
          as_aux_lemma =>
            have HBA : Hid (Below wc.heap.size wc (wc.alloc (.cells #[.string ⟨#[]⟩, .int .i64 0] 69)).drew ∧ (wc.alloc (.cells #[.string ⟨#[]⟩, .int .i64 0] 69)).drew.heap[wc.heap.size]? = some (.cells #[.string ⟨#[]⟩, .int .i64 0] 69 (0, 0))) := Lib.hid ⟨((Below.refl _ _).alloc (Nat.le_refl _) _).drew, heap_alloc_new _ _⟩
            have HBD : Hid (Below wc.heap.size wc wc.drew) := Lib.hid (Below.refl _ _).drew
            have HSF : Hid (∀ V, Below wc.heap.size wc V → V.cell? ⟨z, 3, none⟩ = some (.slice (some a) 2 k) ∧ V.cell? ⟨z + 1, 0, none⟩ = some (.int .i64 day) ∧ V.cell? ⟨z + 1, 1, none⟩ = some (.slice fa fm fc) ∧ V.cell? ⟨a.block, a.off + 4, none⟩ = some (.int .i64 zo) ∧ V.cell? ⟨a.block, a.off + 4 + 1, none⟩ = some (.int .i64 zn) ∧ V.cell? ⟨a.block, a.off + 4 + 2, none⟩ = some (.string zs) ∧ V.cell? ⟨a.block, a.off + 4 + 3, none⟩ = some (.slice co1 dm ck1)) := Lib.hid fun V hV => ⟨cell_blk (HE6.out.next hV).ex 3, (duo (HE6.out.next hV).en).1, (duo (HE6.out.next hV).en).2, (HC1.out V (HE6.out.next hV).bel).1, (HC1.out V (HE6.out.next hV).bel).2.1, (HC1.out V (HE6.out.next hV).bel).2.2.1, (HC1.out V (HE6.out.next hV).bel).2.2.2⟩
            go_region_held3 (fun w' => w'.cell? ⟨z, 3, none⟩ = some (.slice (some a) 2 k) ∧ w'.cell? ⟨z + 1, 0, none⟩ = some (.int .i64 day) ∧ w'.cell? ⟨z + 1, 1, none⟩ = some (.slice fa fm fc) ∧ w'.cell? ⟨a.block, a.off + 4, none⟩ = some (.int .i64 zo) ∧ w'.cell? ⟨a.block, a.off + 4 + 1, none⟩ = some (.int .i64 zn) ∧ w'.cell? ⟨a.block, a.off + 4 + 2, none⟩ = some (.string zs) ∧ w'.cell? ⟨a.block, a.off + 4 + 3, none⟩ = some (.slice co1 dm ck1))
              (first | exact HSF.out _ HB4.out | exact HSF.out _ (below_mono HB4.out ((Below.refl _ _).alloc (Nat.le_refl _) _) (Nat.le_refl _)) | exact HSF.out _ ((HB4.out.setCell (p := ⟨wc.heap.size, 0, none⟩) (Nat.le_refl _) _).setCell (p := ⟨wc.heap.size, 1, none⟩) (Nat.le_refl _) _) | (go_keep; done))
              (first
                | (go_at_call 39; (with_reducible refine (C1.out _ (HE6.out.next HBD.out).bel).mono ?_); rintro e w4 ⟨rfl, hb⟩; have HB4 := Lib.hid (HBD.out.trans hb); clear hb; obtain ⟨⟨n0', n1'⟩, p0, p1⟩ := two_zero w4 (.string ⟨#[]⟩) (.int .i64 0) 69)
                | (go_at_call 39; (with_reducible refine (C1.out _ (HE6.out.next HBA.out.1).bel).mono ?_); rintro e w4 ⟨rfl, hb⟩; have HB4 := Lib.hid (HBA.out.1.trans (hb.mono (by simp))); have HX4 := Lib.hid ((hb.block _ (by simp)).trans HBA.out.2); obtain ⟨n0', n1'⟩ := duo HX4.out; have p0 : w4.frozen? ⟨wc.heap.size, 0, none⟩ = false := free_blk HX4.out 0; have p1 : w4.frozen? ⟨wc.heap.size, 1, none⟩ = false := free_blk HX4.out 1; clear hb))
            · go_wp2_with fail
              go_meet
              exact ⟨w4.heap.size, rfl, Lib.hid ⟨below_mono HB4.out ((Below.refl _ _).alloc (Nat.le_refl _) _) (Nat.le_refl _), HB4.out.size, heap_alloc_new _ _⟩⟩
            · go_wp2_with fail
              go_meet
              obtain ⟨k9, _, _, x9⟩ := two_set w4 wc.heap.size (.string s1) (.int .i64 n1) _ _ ⟨_, _, rfl⟩ HX4.out _ rfl
              exact ⟨wc.heap.size, rfl, Lib.hid ⟨HB4.out.trans k9, Nat.le_refl _, x9⟩⟩
        case rest =>
          as_aux_lemma =>
            obtain ⟨u7, rfl, HU7⟩ := hcut
            obtain rfl : n1 = 0 := HN1.out
            clear c0 c1 c2 c3 e0 e1 y0 y1 y2 y3
            have HE7 := Lib.hid (HE6.out.next HU7.out.1)
            have HXU7 := Lib.hid HU7.out.2.2
            have HX67 := Lib.hid ((HU7.out.1.block u (lt_of_heap HXU.out)).trans HXU.out)
            have HX57 := Lib.hid ((HU7.out.1.block z5 (lt_of_heap HX56.out)).trans HX56.out)
            obtain ⟨k0, k1⟩ := duo HX67.out
            obtain ⟨m0, m1⟩ := duo HX57.out
            obtain ⟨j0, j1⟩ := duo HXU7.out
            rcases HCAN1.out with hcm | ⟨nn, hcm⟩ | ⟨tt, hcm⟩ | hcm
            · obtain rfl : s1 = ⟨#[63]⟩ := by rw [HS1.out, hcm]; rfl
              have HQ1 : ∀ V, (Op.equalIn 10000 69 (.agg #[.string ⟨#[63]⟩, .int .i64 0]) (.agg #[.string ⟨#[116]⟩, .int .i64 0])).run Try.prog V = .ok false V := fun V => by simp [go_sem] <;> decide
              have HR : Hid (jnV true v0 v1 = v0) := Lib.hid (by rw [hcn, hcm]; rfl)
              go_upto_region 8 with fail
              obtain ⟨q0', q1'⟩ := duo HE7.out.va
              have p0 : wc.frozen? ⟨z + 1 + 1, 0, none⟩ = false := free_blk HE7.out.va 0
              have p1 : wc.frozen? ⟨z + 1 + 1, 1, none⟩ = false := free_blk HE7.out.va 1
              go_wp2_with fail
              have HS9 := Lib.hid (two_set wc (z + 1 + 1) (.string ⟨#[63]⟩) (.int .i64 0) _ _ ⟨_, _, rfl⟩ HE7.out.va)
              clear q0' q1' p0 p1
              obtain ⟨W9, hW9⟩ : ∃ X, ((wc.setCell ⟨z + 1 + 1, 0, none⟩ (.string ⟨#[63]⟩)).setCell ⟨z + 1 + 1, 1, none⟩ (.int .i64 0)) = X := ⟨_, rfl⟩
              obtain ⟨k9, _, _, x9⟩ := HS9.out W9 hW9
              rw [hW9]
              obtain ⟨d0, d1⟩ := duo x9
              exact bodyPost_ret (v := .agg #[.string ⟨#[63]⟩, .int .i64 0]) (by simp [results, Try.results39, go_sem, d0, d1]) rfl ⟨by first | rw [HR.out, HW0.out] | rfl | (rw [HR.out]; rfl), HE7.out.bel.trans (k9.mono (by have := HE7.out.le; omega))⟩
            · exact absurd (by rw [hcm]; rfl) HK1.out

            · cases tt with
              | true =>
                obtain rfl : s1 = ⟨#[116]⟩ := by rw [HS1.out, hcm]; rfl
                have HQ1 : ∀ V, (Op.equalIn 10000 69 (.agg #[.string ⟨#[116]⟩, .int .i64 0]) (.agg #[.string ⟨#[116]⟩, .int .i64 0])).run Try.prog V = .ok true V := fun V => by simp [go_sem] <;> decide
                have HR : Hid (jnV true v0 v1 = v1) := Lib.hid (by rw [hcn, hcm]; rfl)
                go_upto_region 9 with fail
                obtain ⟨q0', q1'⟩ := duo HE7.out.va
                have p0 : wc.frozen? ⟨z + 1 + 1, 0, none⟩ = false := free_blk HE7.out.va 0
                have p1 : wc.frozen? ⟨z + 1 + 1, 1, none⟩ = false := free_blk HE7.out.va 1
                go_wp2_with fail
                have HS9 := Lib.hid (two_set wc (z + 1 + 1) (.string ⟨#[116]⟩) (.int .i64 0) _ _ ⟨_, _, rfl⟩ HE7.out.va)
                clear q0' q1' p0 p1
                obtain ⟨W9, hW9⟩ : ∃ X, ((wc.setCell ⟨z + 1 + 1, 0, none⟩ (.string ⟨#[116]⟩)).setCell ⟨z + 1 + 1, 1, none⟩ (.int .i64 0)) = X := ⟨_, rfl⟩
                obtain ⟨k9, _, _, x9⟩ := HS9.out W9 hW9
                rw [hW9]
                obtain ⟨d0, d1⟩ := duo x9
                exact bodyPost_ret (v := .agg #[.string ⟨#[116]⟩, .int .i64 0]) (by simp [results, Try.results39, go_sem, d0, d1]) rfl ⟨by first | rw [HR.out, HW1.out] | rfl | (rw [HR.out]; rfl), HE7.out.bel.trans (k9.mono (by have := HE7.out.le; omega))⟩
              | false =>
                obtain rfl : s1 = ⟨#[102]⟩ := by rw [HS1.out, hcm]; rfl
                have HQ1 : ∀ V, (Op.equalIn 10000 69 (.agg #[.string ⟨#[102]⟩, .int .i64 0]) (.agg #[.string ⟨#[116]⟩, .int .i64 0])).run Try.prog V = .ok false V := fun V => by simp [go_sem] <;> decide
                have HR : Hid (jnV true v0 v1 = v0) := Lib.hid (by rw [hcn, hcm]; rfl)
                go_upto_region 8 with fail
                obtain ⟨q0', q1'⟩ := duo HE7.out.va
                have p0 : wc.frozen? ⟨z + 1 + 1, 0, none⟩ = false := free_blk HE7.out.va 0
                have p1 : wc.frozen? ⟨z + 1 + 1, 1, none⟩ = false := free_blk HE7.out.va 1
                go_wp2_with fail
                have HS9 := Lib.hid (two_set wc (z + 1 + 1) (.string ⟨#[63]⟩) (.int .i64 0) _ _ ⟨_, _, rfl⟩ HE7.out.va)
                clear q0' q1' p0 p1
                obtain ⟨W9, hW9⟩ : ∃ X, ((wc.setCell ⟨z + 1 + 1, 0, none⟩ (.string ⟨#[63]⟩)).setCell ⟨z + 1 + 1, 1, none⟩ (.int .i64 0)) = X := ⟨_, rfl⟩
                obtain ⟨k9, _, _, x9⟩ := HS9.out W9 hW9
                rw [hW9]
                obtain ⟨d0, d1⟩ := duo x9
                exact bodyPost_ret (v := .agg #[.string ⟨#[63]⟩, .int .i64 0]) (by simp [results, Try.results39, go_sem, d0, d1]) rfl ⟨by first | rw [HR.out, HW0.out] | rfl | (rw [HR.out]; rfl), HE7.out.bel.trans (k9.mono (by have := HE7.out.le; omega))⟩
            · obtain rfl : s1 = ⟨#[33]⟩ := by rw [HS1.out, hcm]; rfl
              have HQ1 : ∀ V, (Op.equalIn 10000 69 (.agg #[.string ⟨#[33]⟩, .int .i64 0]) (.agg #[.string ⟨#[116]⟩, .int .i64 0])).run Try.prog V = .ok false V := fun V => by simp [go_sem] <;> decide
              have HR : Hid (jnV true v0 v1 = v1) := Lib.hid (by rw [hcn, hcm]; rfl)
              go_upto_region 9 with fail
              obtain ⟨q0', q1'⟩ := duo HE7.out.va
              have p0 : wc.frozen? ⟨z + 1 + 1, 0, none⟩ = false := free_blk HE7.out.va 0
              have p1 : wc.frozen? ⟨z + 1 + 1, 1, none⟩ = false := free_blk HE7.out.va 1
              go_wp2_with fail
              have HS9 := Lib.hid (two_set wc (z + 1 + 1) (.string ⟨#[33]⟩) (.int .i64 0) _ _ ⟨_, _, rfl⟩ HE7.out.va)
              clear q0' q1' p0 p1
              obtain ⟨W9, hW9⟩ : ∃ X, ((wc.setCell ⟨z + 1 + 1, 0, none⟩ (.string ⟨#[33]⟩)).setCell ⟨z + 1 + 1, 1, none⟩ (.int .i64 0)) = X := ⟨_, rfl⟩
              obtain ⟨k9, _, _, x9⟩ := HS9.out W9 hW9
              rw [hW9]
              obtain ⟨d0, d1⟩ := duo x9
              exact bodyPost_ret (v := .agg #[.string ⟨#[33]⟩, .int .i64 0]) (by simp [results, Try.results39, go_sem, d0, d1]) rfl ⟨by first | rw [HR.out, HW1.out] | rfl | (rw [HR.out]; rfl), HE7.out.bel.trans (k9.mono (by have := HE7.out.le; omega))⟩
      · exact absurd (by rw [hcn]; rfl) HK0.out

      · cases tt with
        | true =>
          obtain rfl : s0 = ⟨#[116]⟩ := by rw [HS0.out, hcn]; rfl
          have HQ : ∀ V, (Op.equalIn 10000 69 (.agg #[.string ⟨#[116]⟩, .int .i64 0]) (.agg #[.string ⟨#[116]⟩, .int .i64 0])).run Try.prog V = .ok true V := fun V => by simp [go_sem] <;> decide
          have HR : Hid (jnV true v0 v1 = v0) := Lib.hid (by rw [hcn]; rfl)
          go_upto_region 5 with fail
          obtain ⟨q0', q1'⟩ := duo HE6.out.va
          have p0 : wc.frozen? ⟨z + 1 + 1, 0, none⟩ = false := free_blk HE6.out.va 0
          have p1 : wc.frozen? ⟨z + 1 + 1, 1, none⟩ = false := free_blk HE6.out.va 1
          go_wp2_with fail
          have HS9 := Lib.hid (two_set wc (z + 1 + 1) (.string ⟨#[116]⟩) (.int .i64 0) _ _ ⟨_, _, rfl⟩ HE6.out.va)
          clear q0' q1' p0 p1
          obtain ⟨W9, hW9⟩ : ∃ X, ((wc.setCell ⟨z + 1 + 1, 0, none⟩ (.string ⟨#[116]⟩)).setCell ⟨z + 1 + 1, 1, none⟩ (.int .i64 0)) = X := ⟨_, rfl⟩
          obtain ⟨k9, _, _, x9⟩ := HS9.out W9 hW9
          rw [hW9]
          obtain ⟨d0, d1⟩ := duo x9
          exact bodyPost_ret (v := .agg #[.string ⟨#[116]⟩, .int .i64 0]) (by simp [results, Try.results39, go_sem, d0, d1]) rfl ⟨by first | rw [HR.out, HW0.out] | rfl | (rw [HR.out]; rfl), HE6.out.bel.trans (k9.mono (by have := HE6.out.le; omega))⟩
        | false =>
          obtain rfl : s0 = ⟨#[102]⟩ := by rw [HS0.out, hcn]; rfl
          have HQ : ∀ V, (Op.equalIn 10000 69 (.agg #[.string ⟨#[102]⟩, .int .i64 0]) (.agg #[.string ⟨#[116]⟩, .int .i64 0])).run Try.prog V = .ok false V := fun V => by simp [go_sem] <;> decide
          go_upto_region 6 with fail
          clear HQ
          obtain ⟨c0, c1, c2, c3⟩ := quad HE6.out.ex
          obtain ⟨e0, e1⟩ := duo HE6.out.en
          obtain ⟨y0, y1, y2, y3⟩ := HC1.out wc HE6.out.bel
          clear k0 k1 m0 m1
          go_cut [7] (fun p wx => ∃ u : Nat, p = .pointer (some ⟨u, 0, none⟩) ∧ Hid (Below wc.heap.size wc wx ∧ wc.heap.size ≤ u ∧ wx.heap[u]? = some (.cells #[.string s1, .int .i64 n1] 69 (0, 0))))
          case first =>
            as_aux_lemma =>
              have HBA : Hid (Below wc.heap.size wc (wc.alloc (.cells #[.string ⟨#[]⟩, .int .i64 0] 69)).drew ∧ (wc.alloc (.cells #[.string ⟨#[]⟩, .int .i64 0] 69)).drew.heap[wc.heap.size]? = some (.cells #[.string ⟨#[]⟩, .int .i64 0] 69 (0, 0))) := Lib.hid ⟨((Below.refl _ _).alloc (Nat.le_refl _) _).drew, heap_alloc_new _ _⟩
              have HBD : Hid (Below wc.heap.size wc wc.drew) := Lib.hid (Below.refl _ _).drew
              have HSF : Hid (∀ V, Below wc.heap.size wc V → V.cell? ⟨z, 3, none⟩ = some (.slice (some a) 2 k) ∧ V.cell? ⟨z + 1, 0, none⟩ = some (.int .i64 day) ∧ V.cell? ⟨z + 1, 1, none⟩ = some (.slice fa fm fc) ∧ V.cell? ⟨a.block, a.off + 4, none⟩ = some (.int .i64 zo) ∧ V.cell? ⟨a.block, a.off + 4 + 1, none⟩ = some (.int .i64 zn) ∧ V.cell? ⟨a.block, a.off + 4 + 2, none⟩ = some (.string zs) ∧ V.cell? ⟨a.block, a.off + 4 + 3, none⟩ = some (.slice co1 dm ck1)) := Lib.hid fun V hV => ⟨cell_blk (HE6.out.next hV).ex 3, (duo (HE6.out.next hV).en).1, (duo (HE6.out.next hV).en).2, (HC1.out V (HE6.out.next hV).bel).1, (HC1.out V (HE6.out.next hV).bel).2.1, (HC1.out V (HE6.out.next hV).bel).2.2.1, (HC1.out V (HE6.out.next hV).bel).2.2.2⟩
              go_region_held3 (fun w' => w'.cell? ⟨z, 3, none⟩ = some (.slice (some a) 2 k) ∧ w'.cell? ⟨z + 1, 0, none⟩ = some (.int .i64 day) ∧ w'.cell? ⟨z + 1, 1, none⟩ = some (.slice fa fm fc) ∧ w'.cell? ⟨a.block, a.off + 4, none⟩ = some (.int .i64 zo) ∧ w'.cell? ⟨a.block, a.off + 4 + 1, none⟩ = some (.int .i64 zn) ∧ w'.cell? ⟨a.block, a.off + 4 + 2, none⟩ = some (.string zs) ∧ w'.cell? ⟨a.block, a.off + 4 + 3, none⟩ = some (.slice co1 dm ck1))
                (first | exact HSF.out _ HB4.out | exact HSF.out _ (below_mono HB4.out ((Below.refl _ _).alloc (Nat.le_refl _) _) (Nat.le_refl _)) | exact HSF.out _ ((HB4.out.setCell (p := ⟨wc.heap.size, 0, none⟩) (Nat.le_refl _) _).setCell (p := ⟨wc.heap.size, 1, none⟩) (Nat.le_refl _) _) | (go_keep; done))
                (first
                  | (go_at_call 39; (with_reducible refine (C1.out _ (HE6.out.next HBD.out).bel).mono ?_); rintro e w4 ⟨rfl, hb⟩; have HB4 := Lib.hid (HBD.out.trans hb); clear hb; obtain ⟨⟨n0', n1'⟩, p0, p1⟩ := two_zero w4 (.string ⟨#[]⟩) (.int .i64 0) 69)
                  | (go_at_call 39; (with_reducible refine (C1.out _ (HE6.out.next HBA.out.1).bel).mono ?_); rintro e w4 ⟨rfl, hb⟩; have HB4 := Lib.hid (HBA.out.1.trans (hb.mono (by simp))); have HX4 := Lib.hid ((hb.block _ (by simp)).trans HBA.out.2); obtain ⟨n0', n1'⟩ := duo HX4.out; have p0 : w4.frozen? ⟨wc.heap.size, 0, none⟩ = false := free_blk HX4.out 0; have p1 : w4.frozen? ⟨wc.heap.size, 1, none⟩ = false := free_blk HX4.out 1; clear hb))
              · go_wp2_with fail
                go_meet
                exact ⟨w4.heap.size, rfl, Lib.hid ⟨below_mono HB4.out ((Below.refl _ _).alloc (Nat.le_refl _) _) (Nat.le_refl _), HB4.out.size, heap_alloc_new _ _⟩⟩
              · go_wp2_with fail
                go_meet
                obtain ⟨k9, _, _, x9⟩ := two_set w4 wc.heap.size (.string s1) (.int .i64 n1) _ _ ⟨_, _, rfl⟩ HX4.out _ rfl
                exact ⟨wc.heap.size, rfl, Lib.hid ⟨HB4.out.trans k9, Nat.le_refl _, x9⟩⟩
          case rest =>
            as_aux_lemma =>
              obtain ⟨u7, rfl, HU7⟩ := hcut
              obtain rfl : n1 = 0 := HN1.out
              clear c0 c1 c2 c3 e0 e1 y0 y1 y2 y3
              have HE7 := Lib.hid (HE6.out.next HU7.out.1)
              have HXU7 := Lib.hid HU7.out.2.2
              have HX67 := Lib.hid ((HU7.out.1.block u (lt_of_heap HXU.out)).trans HXU.out)
              have HX57 := Lib.hid ((HU7.out.1.block z5 (lt_of_heap HX56.out)).trans HX56.out)
              obtain ⟨k0, k1⟩ := duo HX67.out
              obtain ⟨m0, m1⟩ := duo HX57.out
              obtain ⟨j0, j1⟩ := duo HXU7.out
              have HR : Hid (jnV true v0 v1 = v1) := Lib.hid (by rw [hcn]; unfold jnV isT; simp [truV])
              have HCN := Lib.hid hcn
              clear hcn
              go_upto_region 9 with fail
              obtain ⟨q0', q1'⟩ := duo HE7.out.va
              have p0 : wc.frozen? ⟨z + 1 + 1, 0, none⟩ = false := free_blk HE7.out.va 0
              have p1 : wc.frozen? ⟨z + 1 + 1, 1, none⟩ = false := free_blk HE7.out.va 1
              go_wp2_with fail
              have HS9 := Lib.hid (two_set wc (z + 1 + 1) (.string s1) (.int .i64 0) _ _ ⟨_, _, rfl⟩ HE7.out.va)
              clear q0' q1' p0 p1
              obtain ⟨W9, hW9⟩ : ∃ X, ((wc.setCell ⟨z + 1 + 1, 0, none⟩ (.string s1)).setCell ⟨z + 1 + 1, 1, none⟩ (.int .i64 0)) = X := ⟨_, rfl⟩
              obtain ⟨k9, _, _, x9⟩ := HS9.out W9 hW9
              rw [hW9]
              obtain ⟨d0, d1⟩ := duo x9
              exact bodyPost_ret (v := .agg #[.string s1, .int .i64 0]) (by simp [results, Try.results39, go_sem, d0, d1]) rfl ⟨by first | rw [HR.out, HW1.out] | rfl | (rw [HR.out]; rfl), HE7.out.bel.trans (k9.mono (by have := HE7.out.le; omega))⟩
      · obtain rfl : s0 = ⟨#[33]⟩ := by rw [HS0.out, hcn]; rfl
        have HQ : ∀ V, (Op.equalIn 10000 69 (.agg #[.string ⟨#[33]⟩, .int .i64 0]) (.agg #[.string ⟨#[116]⟩, .int .i64 0])).run Try.prog V = .ok false V := fun V => by simp [go_sem] <;> decide
        have HR : Hid (jnV true v0 v1 = v0) := Lib.hid (by rw [hcn]; rfl)
        go_upto_region 5 with fail
        obtain ⟨q0', q1'⟩ := duo HE6.out.va
        have p0 : wc.frozen? ⟨z + 1 + 1, 0, none⟩ = false := free_blk HE6.out.va 0
        have p1 : wc.frozen? ⟨z + 1 + 1, 1, none⟩ = false := free_blk HE6.out.va 1
        go_wp2_with fail
        have HS9 := Lib.hid (two_set wc (z + 1 + 1) (.string ⟨#[33]⟩) (.int .i64 0) _ _ ⟨_, _, rfl⟩ HE6.out.va)
        clear q0' q1' p0 p1
        obtain ⟨W9, hW9⟩ : ∃ X, ((wc.setCell ⟨z + 1 + 1, 0, none⟩ (.string ⟨#[33]⟩)).setCell ⟨z + 1 + 1, 1, none⟩ (.int .i64 0)) = X := ⟨_, rfl⟩
        obtain ⟨k9, _, _, x9⟩ := HS9.out W9 hW9
        rw [hW9]
        obtain ⟨d0, d1⟩ := duo x9
        exact bodyPost_ret (v := .agg #[.string ⟨#[33]⟩, .int .i64 0]) (by simp [results, Try.results39, go_sem, d0, d1]) rfl ⟨by first | rw [HR.out, HW0.out] | rfl | (rw [HR.out]; rfl), HE6.out.bel.trans (k9.mono (by have := HE6.out.le; omega))⟩
end Go.Proofs.Ytidldlhhmophjaa
