/- Layer 15: what a version that the document calls right is. Conditions: those written at each theorem. -/
import Derived.Test.YthodlkacfcnhnaaLvP
namespace Go.Proofs.Ythodlkacfcnhnaa
open Go.RowKit Go.Sort
set_option linter.unusedVariables false
set_option linter.unusedSimpArgs false
/-- What is taken of a right version. -/
def RightP (l : List Fl) : Prop := l.length ≤ 100 ∧ Srt l ∧ ∀ f ∈ l, 0 ≤ f.sz ∧ f.sz ≤ 1048576
def Rt (l : List Fl) (e : Ending) : Prop := ∃ r : Bool, e = .returned (.bool r) ∧ (r = true → RightP l)
theorem Rt.yes {l : List Fl} (h : RightP l) : Rt l (.returned (.bool true)) := ⟨_, rfl, fun _ => h⟩
theorem Rt.no (l : List Fl) : Rt l (.returned (.bool false)) := ⟨_, rfl, fun h => by cases h⟩
def UpTo (l : List Fl) (i : Nat) : Prop := (∀ (a b : Nat) f g, a < b → b < i → l[a]? = some f → l[b]? = some g → LeF f g) ∧ ∀ (a : Nat) f, a < i → l[a]? = some f → 0 ≤ f.sz ∧ f.sz ≤ 1048576
theorem UpTo.zero (l : List Fl) : UpTo l 0 := ⟨fun a b f g _ h => by omega, fun a f h => by omega⟩
theorem UpTo.next {l : List Fl} {i : Nat} {f : Fl} (h : UpTo l i) (hf : l[i]? = some f) (hs : 0 ≤ f.sz ∧ f.sz ≤ 1048576) (ha : ∀ (a : Nat) g, a < i → l[a]? = some g → LeF g f) : UpTo l (i + 1) := by
  refine ⟨fun a b x y hab hb hx hy => ?_, fun a x hx hl => ?_⟩
  · by_cases e : b = i
    · subst e
      rw [hf] at hy
      cases hy
      exact ha a x hab hx
    · exact h.1 a b x y hab (by omega) hx hy
  · by_cases e : a = i
    · subst e
      rw [hf] at hl
      cases hl
      exact hs
    · exact h.2 a x (by omega) hl
theorem UpTo.all {l : List Fl} (h : UpTo l l.length) (hl : l.length ≤ 100) : RightP l := by
  refine ⟨hl, fun i j f g hij hf hg => h.1 i j f g hij (List.getElem?_eq_some_iff.1 hg).1 hf hg, fun f hf => ?_⟩
  obtain ⟨i, hi, rfl⟩ := List.mem_iff_getElem.1 hf
  exact h.2 i _ hi (List.getElem?_eq_getElem hi)
set_option maxRecDepth 100000 in
set_option maxHeartbeats 16000000 in
theorem right_any {B : Nat} {lg nx sq : Int} {ao : Option Addr} {c : Nat} {l : List Fl} {w : World} (h : FlAt B ao l w) (hB : B ≤ w.heap.size) (hc : l.length ≤ c) (hm : c ≤ maxLen) :
    Calls Try.prog 30 #[verV lg nx sq ao l.length c] w fun e w' => Rt l e ∧ Below w.heap.size w w' := by
  obtain ⟨n, hn⟩ : ∃ n, n = l.length := ⟨_, rfl⟩
  have HN := Lib.hid hn
  rw [← hn] at hc ⊢
  have HS : Hid (∀ W, Below w.heap.size w W → FlAt B ao l W) := Lib.hid fun W hW => h.under (hW.mono hB)
  have HBX := Lib.hid (heap_alloc_new w (.cells #[.int .i64 lg, .int .i64 nx, .int .i64 sq, .slice ao n c] 30))
  have HB0 := Lib.hid ((Below.refl w.heap.size w).alloc (Nat.le_refl _) (.cells #[.int .i64 lg, .int .i64 nx, .int .i64 sq, .slice ao n c] 30))
  clear hn h
  go_enter Try.func30, Try.ntmps30
  go_upto_region 1 with fail
  refine wp_letter (fun W => Below w.heap.size w W ∧ W.heap[w.heap.size]? = some (.cells #[.int .i64 lg, .int .i64 nx, .int .i64 sq, .slice ao n c] 30 (0, 0))) ⟨HB0.out, HBX.out⟩ ?_
  clear HB0 HBX
  rintro w0 ⟨hw0, hbx⟩
  have HB0 := Lib.hid hw0
  have KX : Hid (∀ W, Below w0.heap.size w0 W → W.heap[w.heap.size]? = some (.cells #[.int .i64 lg, .int .i64 nx, .int .i64 sq, .slice ao n c] 30 (0, 0))) := Lib.hid fun W hW => (hW.block _ (lt_of_heap hbx)).trans hbx
  clear hw0 hbx
  obtain ⟨v0, v1, v2, v3⟩ := four_cells (KX.out w0 (Below.refl _ _))
  by_cases g1 : lg < 0
  · (go_wp2_with fail; go_ret; exact ⟨Rt.no _, HB0.out⟩)
  by_cases g2 : 999999 < lg
  · (go_wp2_with fail; go_ret; exact ⟨Rt.no _, HB0.out⟩)
  by_cases g3 : nx < 0
  · (go_wp2_with fail; go_ret; exact ⟨Rt.no _, HB0.out⟩)
  by_cases g4 : 999999 < nx
  · (go_wp2_with fail; go_ret; exact ⟨Rt.no _, HB0.out⟩)
  by_cases g5 : sq < 0
  · (go_wp2_with fail; go_ret; exact ⟨Rt.no _, HB0.out⟩)
  by_cases g6 : 4611686018427387904 < sq
  · (go_wp2_with fail; go_ret; exact ⟨Rt.no _, HB0.out⟩)
  by_cases g7 : 100 < (n : Int)
  · (go_wp2_with fail; go_ret; exact ⟨Rt.no _, HB0.out⟩)
  have hl100 : n ≤ 100 := by omega
  go_upto_region 4 with fail
  clear v0 v1 v2 v3
  go_loopw [3] (fun v wr => ∃ i : Nat, i ≤ n ∧ v = .int .i64 i ∧ Hid (UpTo l i) ∧ Hid (Below w0.heap.size w0 wr)) (fun v _ => n - (intOf v).toNat)
  case atStart => exact ⟨0, by omega, rfl, Lib.hid (UpTo.zero l), Lib.hid (Below.refl _ _)⟩
  case round =>
    obtain ⟨i, hi, rfl, HU, HB⟩ := hrel
    obtain ⟨v0, v1, v2, v3⟩ := four_cells (KX.out wr HB.out)
    have HBW := Lib.hid (below_mono HB0.out HB.out (Nat.le_refl _))
    by_cases hlt : i < n
    · have hpos : 0 < l.length := by rw [← HN.out]; omega
      have HPOS := Lib.hid hpos
      obtain ⟨a, rfl⟩ := (HS.out wr HBW.out).there hpos
      obtain ⟨f, hf⟩ : ∃ f, l[i]? = some f := ⟨_, List.getElem?_eq_getElem (by rw [← HN.out]; exact hlt)⟩
      obtain ⟨c0, c1, c2, c3, c4, c5⟩ := ((HS.out wr HBW.out).cells a rfl hpos).2 i f hf
      have HF := Lib.hid hf
      have i0 : (i : Int) < (n : Int) := by omega
      clear hpos hf
      have HOF := Lib.hid (fun (g : Fl) => ahead_any g f)
      obtain ⟨fn, fv, ff, fe, fc, fz⟩ := f
      dsimp only at c0 c1 c2 c3 c4 c5 HOF
      have HBF := Lib.hid ((Below.refl wr.heap.size wr).alloc (Nat.le_refl _) (.cells #[.int .i64 fn, .int .i64 fv, .string ff, .string fe, .int .i64 fc, .int .i64 fz] 37))
      have HXF := Lib.hid (heap_alloc_new wr (.cells #[.int .i64 fn, .int .i64 fv, .string ff, .string fe, .int .i64 fc, .int .i64 fz] 37))
      obtain ⟨k0, k1, k2, k3⟩ := four_cells (KX.out _ (HB.out.alloc HB.out.size (.cells #[.int .i64 fn, .int .i64 fv, .string ff, .string fe, .int .i64 fc, .int .i64 fz] 37)))
      by_cases b1 : fn < 1
      · (go_wp2_with fail; go_ret; exact ⟨Rt.no _, below_mono HBW.out HBF.out (Nat.le_refl _)⟩)
      by_cases b2 : nx ≤ fn
      · (go_wp2_with fail; go_ret; exact ⟨Rt.no _, below_mono HBW.out HBF.out (Nat.le_refl _)⟩)
      by_cases b3 : fv < 0
      · (go_wp2_with fail; go_ret; exact ⟨Rt.no _, below_mono HBW.out HBF.out (Nat.le_refl _)⟩)
      by_cases b4 : 4 < fv
      · (go_wp2_with fail; go_ret; exact ⟨Rt.no _, below_mono HBW.out HBF.out (Nat.le_refl _)⟩)
      by_cases b5 : (ff.size : Int) < 1
      · (go_wp2_with fail; go_ret; exact ⟨Rt.no _, below_mono HBW.out HBF.out (Nat.le_refl _)⟩)
      by_cases b6 : (fe.size : Int) < 1
      · (go_wp2_with fail; go_ret; exact ⟨Rt.no _, below_mono HBW.out HBF.out (Nat.le_refl _)⟩)
      by_cases b7 : 80 < (ff.size : Int)
      · (go_wp2_with fail; go_ret; exact ⟨Rt.no _, below_mono HBW.out HBF.out (Nat.le_refl _)⟩)
      by_cases b8 : 80 < (fe.size : Int)
      · (go_wp2_with fail; go_ret; exact ⟨Rt.no _, below_mono HBW.out HBF.out (Nat.le_refl _)⟩)
      cases hgt : (Op.bytesLess ff.toList fe.toList || ff.toList == fe.toList)
      · have ht1 : Op.bytesLess ff.toList fe.toList = false := (Bool.or_eq_false_iff.1 hgt).1
        have ht2 : (ff.toList == fe.toList) = false := (Bool.or_eq_false_iff.1 hgt).2
        (go_wp2_with fail; go_ret; exact ⟨Rt.no _, below_mono HBW.out HBF.out (Nat.le_refl _)⟩)
      by_cases b10 : fc < 1
      · (go_wp2_with fail; go_ret; exact ⟨Rt.no _, below_mono HBW.out HBF.out (Nat.le_refl _)⟩)
      by_cases b11 : 1048576 < fc
      · (go_wp2_with fail; go_ret; exact ⟨Rt.no _, below_mono HBW.out HBF.out (Nat.le_refl _)⟩)
      by_cases b12 : fz < 1
      · (go_wp2_with fail; go_ret; exact ⟨Rt.no _, below_mono HBW.out HBF.out (Nat.le_refl _)⟩)
      by_cases b13 : 1048576 < fz
      · (go_wp2_with fail; go_ret; exact ⟨Rt.no _, below_mono HBW.out HBF.out (Nat.le_refl _)⟩)
      have HSZ : Hid (0 ≤ fz ∧ fz ≤ 1048576) := Lib.hid (by omega)
      go_upto_region 9 with fail
      clear k0 k1 k2 k3 c0 c1 c2 c3 c4 c5 v0 v1 v2 v3
      obtain ⟨y, hy⟩ : ∃ y, y = wr.heap.size := ⟨_, rfl⟩
      refine wp_letter (fun W => Below w0.heap.size w0 W ∧ W.heap[wr.heap.size]? = some (.cells #[.int .i64 fn, .int .i64 fv, .string ff, .string fe, .int .i64 fc, .int .i64 fz] 37 (0, 0))) ⟨HB.out.alloc HB.out.size _, HXF.out⟩ ?_
      clear HBF HXF HB HBW
      rintro w2 ⟨hb2, hy2⟩
      rw [← hy] at hy2 ⊢
      have HB2 := Lib.hid hb2
      have HY2 := Lib.hid hy2
      clear hb2 hy2 hy
      go_upto_region 10 with fail
      go_loopw [5] (fun v W => ∃ k : Nat, k ≤ i ∧ v = .int .i64 k ∧ Hid (∀ (a : Nat) g, a < k → l[a]? = some g → LeF g ⟨fn, fv, ff, fe, fc, fz⟩) ∧ Hid (Below w2.heap.size w2 W)) (fun v _ => i - (intOf v).toNat)
      case atStart => exact ⟨0, by omega, rfl, Lib.hid (fun a g h => by omega), Lib.hid (Below.refl _ _)⟩
      case round =>
        rename_i ws
        obtain ⟨k, hk, rfl, HA, HBS⟩ := hrel
        by_cases hki : k < i
        · have HPOS2 := HPOS.out
          have HBT := Lib.hid (below_mono HB2.out HBS.out (Nat.le_refl _))
          have HBT2 := Lib.hid (below_mono HB0.out HBT.out (Nat.le_refl _))
          obtain ⟨v0, v1, v2, v3⟩ := four_cells (KX.out wr HBT.out)
          obtain ⟨g, hg⟩ : ∃ f, l[k]? = some f := ⟨_, List.getElem?_eq_getElem (by rw [← HN.out]; omega)⟩
          obtain ⟨c0, c1, c2, c3, c4, c5⟩ := ((HS.out wr HBT2.out).cells a rfl HPOS2).2 k g hg
          have HGK := Lib.hid hg
          have j0 : (k : Int) < (n : Int) := by omega
          have j1 : (k : Int) < (i : Int) := by omega
          have HOG := Lib.hid (HOF.out g)
          clear hg HPOS2
          obtain ⟨gn, gv, gf, ge, gc, gz⟩ := g
          dsimp only at c0 c1 c2 c3 c4 c5 HOG
          have HYR := Lib.hid ((HBS.out.block y (lt_of_heap HY2.out)).trans HY2.out)
          have HBG := Lib.hid ((Below.refl wr.heap.size wr).alloc (Nat.le_refl _) (.cells #[.int .i64 gn, .int .i64 gv, .string gf, .string ge, .int .i64 gc, .int .i64 gz] 37))
          have HXG := Lib.hid (heap_alloc_new wr (.cells #[.int .i64 gn, .int .i64 gv, .string gf, .string ge, .int .i64 gc, .int .i64 gz] 37))
          obtain ⟨x, hx⟩ : ∃ x, x = wr.heap.size := ⟨_, rfl⟩
          go_upto_region 13 with fail
          refine wp_letter (fun W => Below w2.heap.size w2 W ∧ W.heap[y]? = some (.cells #[.int .i64 fn, .int .i64 fv, .string ff, .string fe, .int .i64 fc, .int .i64 fz] 37 (0, 0)) ∧ W.heap[wr.heap.size]? = some (.cells #[.int .i64 gn, .int .i64 gv, .string gf, .string ge, .int .i64 gc, .int .i64 gz] 37 (0, 0))) ⟨below_mono HBS.out HBG.out (Nat.le_refl _), (HBG.out.block y (lt_of_heap HYR.out)).trans HYR.out, HXG.out⟩ ?_
          clear HBG HXG HYR HBS HBT HBT2 v0 v1 v2 v3 c0 c1 c2 c3 c4 c5
          rintro w3 ⟨hb3, hy3, hx3⟩
          rw [← hx] at hx3 ⊢
          clear hx
          have HB3 := Lib.hid hb3
          have HY3 := Lib.hid hy3
          have HX3 := Lib.hid hx3
          obtain ⟨e0, e1, e2, e3, e4, e5⟩ := six_cells hy3
          obtain ⟨d0, d1, d2, d3, d4, d5⟩ := six_cells hx3
          clear hb3 hy3 hx3
          have HOV := Lib.hid (fun W => ref_calls (.int .i64 fn) (.int .i64 fv) (.int .i64 fc) (.int .i64 fz) (.int .i64 gn) (.int .i64 gv) (.int .i64 gc) (.int .i64 gz) ff fe gf ge W)
          by_cases hnum : fn = gn
          · subst hnum
            go_wp2_with fail
            go_ret
            exact ⟨Rt.no _, below_mono HB0.out (below_mono HB2.out HB3.out (Nat.le_refl _)) (Nat.le_refl _)⟩
          · by_cases hlv : fv = gv
            · subst hlv
              go_wp2_with (first | (go_at_call 50; (with_reducible refine (HOG.out _).mono ?_); rintro e w4 ⟨⟨r, rfl, hr⟩, hb⟩; have HR := Lib.hid hr; have HB4 := Lib.hid (below_mono HB3.out hb (Nat.le_refl _)); have HY4 := Lib.hid ((hb.block y (lt_of_heap HY3.out)).trans HY3.out); have HX4 := Lib.hid ((hb.block x (lt_of_heap HX3.out)).trans HX3.out); clear hr hb e0 e1 e2 e3 e4 e5 d0 d1 d2 d3 d4 d5; obtain ⟨e0, e1, e2, e3, e4, e5⟩ := six_cells HY4.out; obtain ⟨d0, d1, d2, d3, d4, d5⟩ := six_cells HX4.out) | (go_at_call 51; (with_reducible refine (HOV.out _).mono ?_); rintro e w5 ⟨rfl, hb⟩; have HB4 := Lib.hid (below_mono HB4.out hb (Nat.le_refl _)); clear hb))
              all_goals first
                | (go_ret; exact ⟨Rt.no _, below_mono HB0.out (below_mono HB2.out HB4.out (Nat.le_refl _)) (Nat.le_refl _)⟩)
                | (go_roundw
                   case rel => exact ⟨k + 1, by omega, by go_num, Lib.hid (fun a g ha hg => by
                     by_cases e : a = k
                     · subst e
                       rw [HGK.out] at hg
                       cases hg
                       exact HR.out (by assumption)
                     · exact HA.out a g (by omega) hg), HB4⟩
                   case measure => simp [intOf]; omega)
            · go_wp2_with (first | (go_at_call 50; (with_reducible refine (HOG.out _).mono ?_); rintro e w4 ⟨⟨r, rfl, hr⟩, hb⟩; have HR := Lib.hid hr; have HB4 := Lib.hid (below_mono HB3.out hb (Nat.le_refl _)); have HY4 := Lib.hid ((hb.block y (lt_of_heap HY3.out)).trans HY3.out); have HX4 := Lib.hid ((hb.block x (lt_of_heap HX3.out)).trans HX3.out); clear hr hb e0 e1 e2 e3 e4 e5 d0 d1 d2 d3 d4 d5; obtain ⟨e0, e1, e2, e3, e4, e5⟩ := six_cells HY4.out; obtain ⟨d0, d1, d2, d3, d4, d5⟩ := six_cells HX4.out) | (go_at_call 51; (with_reducible refine (HOV.out _).mono ?_); rintro e w5 ⟨rfl, hb⟩; have HB4 := Lib.hid (below_mono HB4.out hb (Nat.le_refl _)); clear hb))
              all_goals first
                | (go_ret; exact ⟨Rt.no _, below_mono HB0.out (below_mono HB2.out HB4.out (Nat.le_refl _)) (Nat.le_refl _)⟩)
                | (go_roundw
                   case rel => exact ⟨k + 1, by omega, by go_num, Lib.hid (fun a g ha hg => by
                     by_cases e : a = k
                     · subst e
                       rw [HGK.out] at hg
                       cases hg
                       exact HR.out (by assumption)
                     · exact HA.out a g (by omega) hg), HB4⟩
                   case measure => simp [intOf]; omega)
        · obtain rfl : k = i := by omega
          have HUN := Lib.hid (HU.out.next HF.out HSZ.out HA.out)
          have hk1 : k + 1 ≤ n := hlt
          go_wp2_with fail
          go_roundw
          case rel => exact ⟨k + 1, hk1, by go_num, HUN, Lib.hid (below_mono HB2.out HBS.out (Nat.le_refl _))⟩
          case measure => simp [intOf]; omega
    · obtain rfl : i = n := by omega
      have HP : Hid (RightP l) := Lib.hid (by
        have h1 := HU.out
        rw [HN.out] at h1
        exact h1.all (by rw [← HN.out]; exact hl100))
      go_wp2_with fail
      go_ret
      exact ⟨Rt.yes HP.out, HBW.out⟩
end Go.Proofs.Ythodlkacfcnhnaa
