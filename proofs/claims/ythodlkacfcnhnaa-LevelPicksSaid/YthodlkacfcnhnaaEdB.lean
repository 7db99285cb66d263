/- The document's example of layer 12: an edit on an empty version. Conditions: those written at each theorem. -/
import Derived.Test.YthodlkacfcnhnaaEdA
namespace Go.Proofs.Ythodlkacfcnhnaa
open Go.RowKit Go.Sort
set_option linter.unusedVariables false
set_option linter.unusedSimpArgs false
set_option maxRecDepth 100000 in
set_option maxHeartbeats 4000000 in
theorem sound0 {g : Nat} {w : World} (h : F0 g w) : Calls Try.prog 43 #[.agg #[.int .i64 (-1), .int .i64 2, .int .i64 (-1), .slice none 0 0, .slice (some ⟨g, 0, none⟩) 1 1]] w fun e w' => e = .returned (.bool true) ∧ Below w.heap.size w w' := by
  have HF : Hid (∀ W, Below w.heap.size w W → F0 g W) := Lib.hid fun W hW => h.below hW
  have HB : Hid (∀ o, Below w.heap.size w (w.alloc o)) := Lib.hid fun o => (Below.refl _ _).alloc (Nat.le_refl _) _
  clear h
  go_enter Try.func43, Try.ntmps43
  go_upto_region 1 with fail
  refine wp_letter (fun W => Below w.heap.size w W ∧ W.heap[w.heap.size]? = some (.cells #[.int .i64 (-1), .int .i64 2, .int .i64 (-1), .slice none 0 0, .slice (some ⟨g, 0, none⟩) 1 1] 69 (0, 0))) ⟨HB.out _, heap_alloc_new w _⟩ ?_
  rintro w1 ⟨hb1, hv⟩
  have HB1 := Lib.hid hb1
  have v0 := cell_blk hv 0
  have v1 := cell_blk hv 1
  have v2 := cell_blk hv 2
  have v3 := cell_blk hv 3
  have v4 := cell_blk hv 4
  simp only [List.getElem?_toArray] at v0 v1 v2 v3 v4
  clear hb1 hv
  go_upto_region 4 with fail
  go_loopw [35] (fun i wr => i = .int .i64 0 ∧ w1 = wr) (fun _ _ => 0)
  case atStart => exact ⟨rfl, rfl⟩
  case round =>
    obtain ⟨rfl, rfl⟩ := hrel
    go_wp2_with fail
    go_loopw [45] (fun i wr => ∃ j : Nat, j ≤ 1 ∧ i = .int .i64 j ∧ Hid (Below w.heap.size w wr)) (fun i _ => 1 - (intOf i).toNat)
    case atStart => exact ⟨0, by omega, rfl, HB1⟩
    case round =>
      obtain ⟨j, hj, rfl, HBJ⟩ := hrel
      clear v0 v1 v2 v3 v4
      by_cases hlt : j < 1
      · obtain rfl : j = 0 := by omega
        obtain ⟨a0, a1, a2, a3, a4, a5⟩ := (HF.out wr HBJ.out).cells
        have hb2 : Below wr.heap.size wr (wr.alloc (.cells f0 60)) := (Below.refl _ _).alloc (Nat.le_refl _) _
        have hn2 := heap_alloc_new wr (.cells f0 60)
        have HN2 : Hid (Below wr.heap.size wr (wr.alloc (.cells f0 60)) ∧ (wr.alloc (.cells f0 60)).heap[wr.heap.size]? = some (.cells f0 60 (0, 0))) := Lib.hid ⟨hb2, hn2⟩
        clear hb2 hn2
        go_upto_region 12 with fail
        refine wp_letter (fun W => Below wr.heap.size wr W ∧ W.heap[wr.heap.size]? = some (.cells f0 60 (0, 0))) HN2.out ?_
        rintro w2 ⟨hb2, hn2⟩
        have b0 := cell_blk hn2 0
        have b1 := cell_blk hn2 1
        have b2 := cell_blk hn2 2
        have b3 := cell_blk hn2 3
        have b4 := cell_blk hn2 4
        have b5 := cell_blk hn2 5
        simp only [List.getElem?_toArray] at b0 b1 b2 b3 b4 b5
        have HB2 := Lib.hid (below_mono HBJ.out hb2 (Nat.le_refl _))
        clear hb2 hn2 a0 a1 a2 a3 a4 a5 HN2
        go_wp2_with fail
        go_roundw
        case rel => exact ⟨1, by omega, by go_num, HB2⟩
        case measure => simp [intOf]
      · obtain rfl : j = 1 := by omega
        go_wp2_with fail
        go_ret
        exact ⟨rfl, HBJ.out⟩
theorem clone_nil (w : World) : Calls Try.prog 45 #[.slice none 0 0] w fun e w' => e = .returned (.slice none 0 0) ∧ w = w' := by
  have hq := Lib.run_eql_slice_nil_nil (P := Try.prog) w 0 0 Try.underlying32
  go_enter Try.func45, Try.ntmps45
  go_wp2_with fail
  go_ret
  exact ⟨rfl, rfl⟩
theorem ins_one (a : Option Addr) (c : Nat) (v : Value) (w : World) : Calls Try.prog 70 #[.slice a 1 c, .int .i64 0, .int .i64 1, v] w fun e w' => e = .returned (.tuple #[]) ∧ w = w' := by
  go_enter Try.func70, Try.ntmps70
  go_wp2_with fail
  go_loopw [8] (fun i wr => i = .int .i64 1 ∧ w = wr) (fun _ _ => 0)
  case atStart => exact ⟨rfl, rfl⟩
  case round =>
    obtain ⟨rfl, rfl⟩ := hrel
    go_wp2_with fail
    go_end0
    exact ⟨rfl, rfl⟩
theorem stable_one (a : Option Addr) (c : Nat) (v : Value) (w : World) : Calls Try.prog 64 #[.slice a 1 c, .int .i64 1, v] w fun e w' => e = .returned (.tuple #[]) ∧ w = w' := by
  go_enter Try.func64, Try.ntmps64
  go_wp2_with fail
  go_loopw [7, 8] (fun x y wr => x = .int .i64 0 ∧ y = .int .i64 20 ∧ w = wr) (fun _ _ _ => 0)
  case atStart => exact ⟨rfl, rfl, rfl⟩
  case round =>
    obtain ⟨rfl, rfl, rfl⟩ := hrel
    go_wp2_with (go_at_call 70; (with_reducible refine (ins_one _ _ _ _).mono ?_); rintro e w' ⟨rfl, rfl⟩)
    go_loopw [6] (fun x wr => x = .int .i64 20 ∧ w = wr) (fun _ _ => 0)
    case atStart => exact ⟨rfl, rfl⟩
    case round =>
      obtain ⟨rfl, rfl⟩ := hrel
      go_wp2_with fail
      go_end0
      exact ⟨rfl, rfl⟩
theorem sort_one (a : Option Addr) (c : Nat) (v : Value) (w : World) : Calls Try.prog 48 #[.slice a 1 c, v] w fun e w' => e = .returned (.tuple #[]) ∧ w = w' := by
  go_enter Try.func48, Try.ntmps48
  go_wp2_with (go_at_call 64; (with_reducible refine (stable_one _ _ _ _).mono ?_); rintro e w' ⟨rfl, rfl⟩)
  go_end0
  exact ⟨rfl, rfl⟩
theorem fileInfo : (Try.prog.info? 60).map (fun i => (i.zero, i.size, i.bytes)) = some (some (.agg #[.int .i64 0, .int .i64 0, .string ⟨#[]⟩, .string ⟨#[]⟩, .int .i64 0, .int .i64 0]), 6, 64) := by kernel_rfl
theorem f0_one : ∀ u ∈ f0.toList, u.oneCell' = true := by
  intro u hu
  simp only [List.mem_cons, List.not_mem_nil, or_false] at hu
  rcases hu with rfl | rfl | rfl | rfl | rfl | rfl <;> rfl
theorem F0.set {g b i : Nat} {v : Value} {w : World} (h : F0 g w) (hb : g ≠ b) : F0 g (w.setCell ⟨b, i, none⟩ v) := by
  obtain ⟨cs, h1, h2⟩ := h
  exact ⟨cs, (Below.heap_setCell w ⟨b, i, none⟩ v g hb).trans h1, h2⟩
set_option maxRecDepth 100000 in
set_option maxHeartbeats 4000000 in
theorem apply0 {g : Nat} {w : World} (h : F0 g w) : Calls Try.prog 28 #[.agg #[.int .i64 0, .int .i64 0, .int .i64 0, .slice none 0 0], .agg #[.int .i64 (-1), .int .i64 2, .int .i64 (-1), .slice none 0 0, .slice (some ⟨g, 0, none⟩) 1 1]] w fun e w' => ∃ g2 c2, e = .returned (.tuple #[.agg #[.int .i64 0, .int .i64 2, .int .i64 0, .slice (some ⟨g2, 0, none⟩) 1 c2], .int .i64 0]) ∧ 1 ≤ c2 ∧ F0 g2 w' ∧ Below w.heap.size w w' := by
  obtain ⟨w3, hw3⟩ : ∃ x, x = ((w.alloc (.cells #[.int .i64 0, .int .i64 0, .int .i64 0, .slice none 0 0] 34)).alloc (.cells #[.int .i64 (-1), .int .i64 2, .int .i64 (-1), .slice none 0 0, .slice (some ⟨g, 0, none⟩) 1 1] 69)).alloc (.cells #[.int .i64 0, .int .i64 0, .int .i64 0, .slice none 0 0] 34) := ⟨_, rfl⟩
  have hb3 : Below w.heap.size w w3 := by rw [hw3]; exact (((Below.refl _ _).alloc (Nat.le_refl _) _).alloc (by simp) _).alloc (by simp; omega) _
  have hV : w3.heap[w.heap.size]? = some (.cells #[.int .i64 0, .int .i64 0, .int .i64 0, .slice none 0 0] 34 (0, 0)) := by
    rw [hw3, Below.heap_alloc _ _ _ (by simp; omega), Below.heap_alloc _ _ _ (by simp)]; exact heap_alloc_new w _
  have hE : w3.heap[w.heap.size + 1]? = some (.cells #[.int .i64 (-1), .int .i64 2, .int .i64 (-1), .slice none 0 0, .slice (some ⟨g, 0, none⟩) 1 1] 69 (0, 0)) := by
    rw [hw3, Below.heap_alloc _ _ _ (by simp)]
    have := heap_alloc_new (w.alloc (.cells #[.int .i64 0, .int .i64 0, .int .i64 0, .slice none 0 0] 34)) (.cells #[.int .i64 (-1), .int .i64 2, .int .i64 (-1), .slice none 0 0, .slice (some ⟨g, 0, none⟩) 1 1] 69)
    simpa using this
  have hO : w3.heap[w.heap.size + 2]? = some (.cells #[.int .i64 0, .int .i64 0, .int .i64 0, .slice none 0 0] 34 (0, 0)) := by
    rw [hw3]
    have := heap_alloc_new ((w.alloc (.cells #[.int .i64 0, .int .i64 0, .int .i64 0, .slice none 0 0] 34)).alloc (.cells #[.int .i64 (-1), .int .i64 2, .int .i64 (-1), .slice none 0 0, .slice (some ⟨g, 0, none⟩) 1 1] 69)) (.cells #[.int .i64 0, .int .i64 0, .int .i64 0, .slice none 0 0] 34)
    simpa using this
  have KV : Hid (∀ W, Below w3.heap.size w3 W → W.heap[w.heap.size]? = some (.cells #[.int .i64 0, .int .i64 0, .int .i64 0, .slice none 0 0] 34 (0, 0))) := Lib.hid fun W hW => (hW.block _ (lt_of_heap hV)).trans hV
  have KE : Hid (∀ W, Below w3.heap.size w3 W → W.heap[w.heap.size + 1]? = some (.cells #[.int .i64 (-1), .int .i64 2, .int .i64 (-1), .slice none 0 0, .slice (some ⟨g, 0, none⟩) 1 1] 69 (0, 0))) := Lib.hid fun W hW => (hW.block _ (lt_of_heap hE)).trans hE
  have KO : Hid (∀ W, Below w3.heap.size w3 W → W.heap[w.heap.size + 2]? = some (.cells #[.int .i64 0, .int .i64 0, .int .i64 0, .slice none 0 0] 34 (0, 0))) := Lib.hid fun W hW => (hW.block _ (lt_of_heap hO)).trans hO
  have KF : Hid (∀ W, Below w3.heap.size w3 W → F0 g W) := Lib.hid fun W hW => (h.below hb3).below hW
  have HB3 := Lib.hid hb3
  have HW3 := Lib.hid hw3
  clear hb3 hw3 hV hE hO h
  go_enter Try.func28, Try.ntmps28
  go_upto_region 1 with fail
  refine wp_letter (fun W => w3 = W) HW3.out ?_
  rintro _ rfl
  have hV := KV.out w3 (Below.refl _ _)
  have v0 := cell_blk hV 0
  have v1 := cell_blk hV 1
  have v2 := cell_blk hV 2
  have v3 := cell_blk hV 3
  simp only [List.getElem?_toArray] at v0 v1 v2 v3
  have CR := Lib.hid (right_none w3)
  clear hV HW3
  go_wp2_with (first | (go_at_call 42; (with_reducible refine CR.out.mono ?_); rintro e w4 ⟨rfl, hb4⟩; have H4 := Lib.hid hb4; have hE := KE.out w4 hb4; have e0 := cell_blk hE 0; have e1 := cell_blk hE 1; have e2 := cell_blk hE 2; have e3 := cell_blk hE 3; have e4 := cell_blk hE 4; simp only [List.getElem?_toArray] at e0 e1 e2 e3 e4; have CS := Lib.hid (sound0 (KF.out w4 hb4)); clear hb4 hE v0 v1 v2 v3) | (go_at_call 43; fail))
  refine CS.out.mono ?_
  rintro e w5 ⟨rfl, hb5⟩
  have H5 := Lib.hid (below_mono H4.out hb5 (Nat.le_refl _))
  have hV := KV.out w5 H5.out
  have v0 := cell_blk hV 0
  have v1 := cell_blk hV 1
  have v2 := cell_blk hV 2
  have v3 := cell_blk hV 3
  have hE := KE.out w5 H5.out
  have e0' := cell_blk hE 0
  have e1' := cell_blk hE 1
  have e2' := cell_blk hE 2
  have e3' := cell_blk hE 3
  have e4' := cell_blk hE 4
  simp only [List.getElem?_toArray] at v0 v1 v2 v3 e0' e1' e2' e3' e4'
  clear hV hE e0 e1 e2 e3 e4 hb5 CS CR
  go_upto_region 10 with (first | (go_at_call 44; (first | (with_reducible refine (later_neg 0 (-1) (by omega) _).mono ?_) | (with_reducible refine (later_more 0 2 (by omega) (by omega) _).mono ?_)); rintro e w' ⟨rfl, rfl⟩) | (go_at_call 45; (with_reducible refine (clone_nil _).mono ?_); rintro e w' ⟨rfl, rfl⟩))
  go_loopw [12, 67] (fun f x wr => f = .slice none 0 0 ∧ x = .int .i64 0 ∧ wr = w5) (fun _ _ _ => 0)
  case atStart => exact ⟨rfl, rfl, rfl⟩
  case round =>
    obtain ⟨rfl, rfl, rfl⟩ := hrel
    obtain ⟨i0, hi, hz0, hz1, hz2⟩ := info_parts fileInfo
    have N0 := Lib.hid (World.ownsRow_nil wr wr.heap.size 60 6)
    have HC : Hid (∀ j u, f0.toList[j]? = some u → wr.cell? ((⟨g, 0, none⟩ : Addr).add j) = some u) := Lib.hid fun j u hj => by
      have e : (⟨g, 0, none⟩ : Addr).add j = ⟨g, j, none⟩ := by simp [Addr.add] <;> (intro h; omega)
      have hj6 : j < 6 := by have := (List.getElem?_eq_some_iff.1 hj).1; simpa using this
      rw [e, (KF.out wr H5.out).cell j hj6]
      simpa using hj
    go_upto_region 18 with (at_builtin; refine wpList_append_own _ rfl _ _ 32 rfl wr.heap.size 60 i0 (.agg #[.int .i64 0, .int .i64 0, .string ⟨#[]⟩, .string ⟨#[]⟩, .int .i64 0, .int .i64 0]) 6 64 Try.underlying32 hi hz0 hz1 hz2 rfl (by decide) _ 0 [] rfl N0.out ⟨g, 0, none⟩ 1 1 f0.toList rfl rfl HC.out f0_one (by unfold maxLen; omega) (by omega) (Nat.le_refl _) ?_; intro v' w6 hrow hgr _; have HRW := Lib.hid hrow; have HGR := Lib.hid hgr; obtain ⟨va, vc, rfl⟩ := row_form hrow; clear hrow hgr)
    obtain ⟨g2, hva, hcap, hF, hg2⟩ : ∃ g2, va = some ⟨g2, 0, none⟩ ∧ 1 ≤ vc ∧ F0 g2 w6 ∧ wr.heap.size ≤ g2 := by
      rcases HRW.out.2 with ⟨_, h0⟩ | ⟨b, cp, cur, hv, hb, hgg, hc, _, hsz, htk⟩
      · omega
      · injection hv with e1 _ e3
        subst e1 e3
        refine ⟨b, rfl, by omega, ⟨cur, hgg, fun i hi6 => ?_⟩, hb⟩
        have h1 := congrArg (fun l => l[i]?) htk
        simp only [List.nil_append] at h1
        rw [List.getElem?_take_of_lt (by omega)] at h1
        simpa using h1
    subst hva
    have H6 : Hid (Below w3.heap.size w3 w6) := Lib.hid (H5.out.grown HGR.out H5.out.size (fun x hx => by cases hx))
    have HF6 := Lib.hid hF
    have HG2 := Lib.hid hg2
    clear hF hg2 HRW HGR N0 HC v0 v1 v2 v3 e0' e1' e2' e3' e4' hi hz0 hz1 hz2
    go_upto_region 20 with (go_at_call 48; (with_reducible refine (sort_one _ _ _ _).mono ?_); rintro e w' ⟨rfl, rfl⟩)
    refine wp_letter (fun W => Below w6.heap.size w6 W ∧ W.heap[w6.heap.size]? = some (.cells #[.int .i64 0, .int .i64 2, .int .i64 0, .slice (some ⟨g2, 0, none⟩) (0 + 1) vc] 34 (0, 0))) ⟨(Below.refl _ _).alloc (Nat.le_refl _) _, heap_alloc_new w6 _⟩ ?_
    rintro w7 ⟨hb7, hx7⟩
    have KX : Hid (∀ W, Below w7.heap.size w7 W → W.heap[w6.heap.size]? = some (.cells #[.int .i64 0, .int .i64 2, .int .i64 0, .slice (some ⟨g2, 0, none⟩) 1 vc] 34 (0, 0))) := Lib.hid fun W hW => (hW.block _ (lt_of_heap hx7)).trans hx7
    have x0 := cell_blk hx7 0
    have x1 := cell_blk hx7 1
    have x2 := cell_blk hx7 2
    have x3 := cell_blk hx7 3
    simp only [List.getElem?_toArray, Nat.zero_add] at x0 x1 x2 x3
    have CR := Lib.hid (right_one hcap (HF6.out.below hb7))
    have H7 := Lib.hid (below_mono H6.out hb7 (Nat.le_refl _))
    have HF7 := Lib.hid (HF6.out.below hb7)
    clear hb7 hx7
    go_upto_region 22 with (go_at_call 42; (with_reducible refine CR.out.mono ?_); rintro e w8 ⟨rfl, hb8⟩; have H8 := Lib.hid (below_mono H7.out hb8 (Nat.le_refl _)); have HF8 := Lib.hid (HF7.out.below hb8); have hX := KX.out w8 hb8; have y0 := cell_blk hX 0; have y1 := cell_blk hX 1; have y2 := cell_blk hX 2; have y3 := cell_blk hX 3; simp only [List.getElem?_toArray] at y0 y1 y2 y3; have hO := KO.out w8 H8.out; have o0 := cell_blk hO 0; have o1 := cell_blk hO 1; have o2 := cell_blk hO 2; have o3 := cell_blk hO 3; simp only [List.getElem?_toArray] at o0 o1 o2 o3; have p0 := free_blk hO 0; have p1 := free_blk hO 1; have p2 := free_blk hO 2; have p3 := free_blk hO 3; clear hb8 hX hO x0 x1 x2 x3)
    have HNE : Hid (g2 ≠ w.heap.size + 2) := Lib.hid fun h => by
      have := HG2.out
      have := lt_of_heap (KO.out wr H5.out)
      omega
    go_wp2_with fail
    exact bodyPost_ret (v := .tuple #[.agg #[.int .i64 0, .int .i64 2, .int .i64 0, .slice (some ⟨g2, 0, none⟩) 1 vc], .int .i64 0]) (by simp [results, Try.results28, go_sem, o0, o1, o2, o3, p0, p1, p2, p3]) rfl ⟨g2, vc, rfl, hcap, (((HF8.out.set HNE.out).set HNE.out).set HNE.out).set HNE.out, ((((below_mono HB3.out H8.out (Nat.le_refl _)).setCell (p := ⟨w.heap.size + 2, 0, none⟩) (by simp) _).setCell (p := ⟨w.heap.size + 2, 1, none⟩) (by simp) _).setCell (p := ⟨w.heap.size + 2, 2, none⟩) (by simp) _).setCell (p := ⟨w.heap.size + 2, 3, none⟩) (by simp) _⟩
end Go.Proofs.Ythodlkacfcnhnaa
